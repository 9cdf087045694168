/-
  Traces of the call's own: what may be written into; what a round of a range keeps. No function of the program here.
-/
import Derived.Test.YtlmpicfhbpnpbaaTraceApp
import Derived.Test.YtlmpicfhbpnpbaaTraceCode
namespace Go.Proofs.Ytlmpicfhbpnpbaa
open Go.RowKit

/-- The arguments of an event of the call's own. -/
def OwnG (w : World) (n : Nat) (d : Em) : Prop := w.ownsRow n 61 3 (.slice d.A d.args.length d.c) d.args.length (flatG d.args) ∧ (∀ a ∈ d.args, a.Fits) ∧ d.Fits
/-- A slice of events of the call's own. -/
def OwnE (w : World) (n : Nat) (v : Value) (es : List Em) : Prop := w.ownsRow n 42 2 v es.length (flatE es) ∧ ∀ d ∈ es, OwnG w n d
/-- A slice of points of the call's own. -/
def OwnT (w : World) (n : Nat) (v : Value) (ps : List Pm) : Prop := w.ownsRow n 39 2 v ps.length (flatN ps) ∧ ∀ d ∈ ps, OwnE w n (.slice d.A d.evs.length d.c) d.evs ∧ d.Fits
section
variable {w w' : World} {n m k : Nat} {v : Value}
theorem own_calm {e : TypeId} {size : Nat} {us : List Value} (h : w.ownsRow n e size v k us) (hc : Calm m w w') : w'.ownsRow n e size v k us := by
  refine ⟨h.1, ?_⟩
  rcases h.2 with h2 | ⟨g, cap, cur, q1, q2, q3, r⟩
  · exact .inl h2
  · exact .inr ⟨g, cap, cur, q1, q2, hc.cells g _ q3 rfl, r⟩
theorem OwnG.calm {d : Em} (h : OwnG w n d) (hc : Calm m w w') : OwnG w' n d := ⟨own_calm h.1 hc, h.2⟩
theorem OwnE.calm {es : List Em} (h : OwnE w n v es) (hc : Calm m w w') : OwnE w' n v es := ⟨own_calm h.1 hc, fun d hd => (h.2 d hd).calm hc⟩
theorem OwnT.calm {ps : List Pm} (h : OwnT w n v ps) (hc : Calm m w w') : OwnT w' n v ps := ⟨own_calm h.1 hc, fun d hd => ⟨(h.2 d hd).1.calm hc, (h.2 d hd).2⟩⟩
theorem OwnG.below {d : Em} (h : OwnG w n d) (hb : Below w.heap.size w w') : OwnG w' n d := h.calm (Calm.of_below hb (m := 0))
theorem OwnE.below {es : List Em} (h : OwnE w n v es) (hb : Below w.heap.size w w') : OwnE w' n v es := h.calm (Calm.of_below hb (m := 0))
theorem OwnT.below {ps : List Pm} (h : OwnT w n v ps) (hb : Below w.heap.size w w') : OwnT w' n v ps := h.calm (Calm.of_below hb (m := 0))
theorem OwnE.nil (w : World) (n : Nat) : OwnE w n (.slice none 0 0) [] := ⟨World.ownsRow_nil _ _ _ _, by simp⟩
theorem OwnT.nil (w : World) (n : Nat) : OwnT w n (.slice none 0 0) [] := ⟨World.ownsRow_nil _ _ _ _, by simp⟩
/-- Two rows of unlike elements lie in two blocks. -/
theorem own_unlike {n m k j : Nat} {e f : TypeId} {s t : Nat} {u : Value} {us vs : List Value} (h : w.ownsRow n e s u k us) (h2 : w.ownsRow m f t v j vs) (hne : e ≠ f) : u.ownBlock = none ∨ u.ownBlock ≠ v.ownBlock := by
  rcases h.2 with ⟨rfl, _⟩ | ⟨g, cap, cur, rfl, _, hg, _⟩
  · exact .inl rfl
  · refine .inr fun e => ?_
    rcases h2.2 with ⟨rfl, _⟩ | ⟨g2, cap2, cur2, rfl, _, hg2, _⟩
    · simp [Value.ownBlock] at e
    · obtain rfl : g = g2 := by simpa [Value.ownBlock] using e
      rw [hg] at hg2
      injection hg2 with hg2
      injection hg2 with _ e3 _
      exact absurd e3 hne
theorem OwnG.grown {d : Em} {f : TypeId} {j t : Nat} {vs : List Value} (h : OwnG w n d) (h2 : w.ownsRow m f t v j vs) (hf : 61 ≠ f) (hg : w.grownBy w' v.ownBlock) : OwnG w' n d := ⟨World.ownsRow.kept h.1 hg (own_unlike h.1 h2 hf), h.2⟩
theorem OwnE.grown {f : TypeId} {j t : Nat} {vs : List Value} {u : Value} {es : List Em} (h : OwnE w n u es) (h2 : w.ownsRow m f t v j vs) (hf : 61 ≠ f) (hf2 : 42 ≠ f) (hg : w.grownBy w' v.ownBlock) : OwnE w' n u es :=
  ⟨World.ownsRow.kept h.1 hg (own_unlike h.1 h2 hf2), fun d hd => (h.2 d hd).grown h2 hf hg⟩
theorem OwnG.base {d : Em} (h : OwnG w n d) (hm : m ≤ n) : OwnG w m d := ⟨own_base h.1 hm, h.2⟩
theorem OwnE.base {es : List Em} (h : OwnE w n v es) (hm : m ≤ n) : OwnE w m v es := ⟨own_base h.1 hm, fun d hd => (h.2 d hd).base hm⟩
theorem OwnG.put {d : Em} {b i : Nat} {u : Value} (h : OwnG w n d) (hm : b < n) : OwnG (w.setCell ⟨b, i, none⟩ u) n d := ⟨own_put1 h.1 hm, h.2⟩
theorem OwnE.put {es : List Em} {b i : Nat} {u : Value} (h : OwnE w n v es) (hm : b < n) : OwnE (w.setCell ⟨b, i, none⟩ u) n v es := ⟨own_put1 h.1 hm, fun d hd => (h.2 d hd).put hm⟩
/-- What it is, read. -/
theorem OwnG.row {d : Em} (h : OwnG w n d) : d.Ok w w.heap.size := ⟨⟨ERow.of_own h.1, h.2.1⟩, h.2.2⟩
theorem OwnE.row {es : List Em} (h : OwnE w n v es) : EvRow w w.heap.size v es := ⟨ERow.of_own h.1, fun d hd => (h.2 d hd).row⟩
theorem OwnT.row {ps : List Pm} (h : OwnT w n v ps) : TrRow w w.heap.size v ps := ⟨ERow.of_own h.1, fun d hd => ⟨(h.2 d hd).1.row, (h.2 d hd).2⟩⟩
theorem OwnE.form {es : List Em} (h : OwnE w n v es) : ∃ A c, v = .slice A es.length c ∧ es.length ≤ c ∧ c ≤ 9223372036854775807 := h.row.1.form
/-- A growth of a row of cells keeps what is no cells. -/
theorem keeps_grown {e : TypeId} {size : Nat} {us : List Value} (h : w.ownsRow n e size v k us) (hg : w.grownBy w' v.ownBlock) : KeepsOthers w w' := by
  refine ⟨hg.size, fun i o hi ho => ?_⟩
  have hlt := (Array.getElem?_eq_some_iff.1 hi).1
  by_cases hr : some i = v.ownBlock
  · rcases h.2 with ⟨rfl, _⟩ | ⟨g, cap, cur, rfl, _, hgg, _⟩
    · simp [Value.ownBlock] at hr
    · obtain rfl : i = g := by simpa [Value.ownBlock] using hr
      rw [hgg] at hi
      injection hi with hi
      rw [← hi] at ho
      cases ho
  · exact (hg.block i hlt hr).trans hi
theorem keeps_below (hb : Below w.heap.size w w') : KeepsOthers w w' := ⟨hb.size, fun k _ hk _ => (hb.block k (Array.getElem?_eq_some_iff.1 hk).1).trans hk⟩
theorem keepsE_below {n₀ bp : Nat} (hb : Below w.heap.size w w') (h1 : n₀ ≤ w.heap.size) (h2 : bp < w.heap.size) : KeepsE n₀ bp w w' := ⟨hb.mono h1, hb.block _ h2⟩
theorem keepsE_grown {n₀ bp : Nat} {e : TypeId} {size : Nat} {us : List Value} (h : w.ownsRow n e size v k us) (hg : w.grownBy w' v.ownBlock) (h1 : n₀ ≤ w.heap.size) (h2 : bp < w.heap.size) (h3 : n₀ ≤ n) (h4 : bp < n) : KeepsE n₀ bp w w' :=
  ⟨(Below.refl n₀ w).grown hg h1 (fun i hi => by have := (World.ownsRow.lt h i hi).1; omega), hg.block bp h2 (fun hi => by have := (World.ownsRow.lt h bp hi.symm).1; omega)⟩
end
#print axioms keepsE_grown
end Go.Proofs.Ytlmpicfhbpnpbaa
