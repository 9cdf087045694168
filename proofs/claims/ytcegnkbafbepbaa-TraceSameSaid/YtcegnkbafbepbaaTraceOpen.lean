/-
  Traces of the call's own that are written into: what stays. No program here.
-/
import Derived.Test.YtcegnkbafbepbaaTraceOwn
namespace Go.Proofs.Ytcegnkbafbepbaa
open Go.RowKit

/-- A number that may be written into, in the blocks from lo to hi. -/
def NumAt (w : World) (lo hi : Nat) (k : IntKind) (p : Addr) : Prop := (∃ z, w.cell? p = some (.int k z)) ∧ w.frozen? p = false ∧ lo ≤ p.block ∧ p.block < hi
/-- The points, each with its events, each with its arguments; all numbers may be written into. -/
structure OpT (w : World) (lo hi : Nat) (A : Option Addr) (es : List Pm) : Prop where
  pts : ∀ (i : Nat) (d : Pm), es[i]? = some d → ∃ b o, A = some ⟨b, o, none⟩ ∧ NumAt w lo hi .u64 ⟨b, o + i * 2, none⟩ ∧ w.cell? ⟨b, o + i * 2 + 1, none⟩ = some (.slice d.A d.evs.length d.c)
  evs : ∀ d ∈ es, ∀ (k : Nat) (x : Em), d.evs[k]? = some x → ∃ b o, d.A = some ⟨b, o, none⟩ ∧ NumAt w lo hi .i64 ⟨b, o + k * 2, none⟩ ∧ w.cell? ⟨b, o + k * 2 + 1, none⟩ = some (.slice x.A x.args.length x.c)
  args : ∀ d ∈ es, ∀ x ∈ d.evs, ∀ j, j < x.args.length → ∃ b o, x.A = some ⟨b, o, none⟩ ∧ NumAt w lo hi .i64 ⟨b, o + j * 3 + 1, none⟩
theorem NumAt.put {w : World} {lo hi : Nat} {k κ : IntKind} {p q : Addr} {z : Int} (h : NumAt w lo hi k q) (hp : w.cell? p = some (.int κ z)) (y : Int) : NumAt (w.setCell p (.int κ y)) lo hi k q := by
  obtain ⟨⟨x, hx⟩, h2, h3⟩ := h
  refine ⟨?_, by rw [frozen_put]; exact h2, h3⟩
  by_cases he : p = q
  · subst he
    rw [hp] at hx
    injection hx with hx
    injection hx with e1 e2
    subst e1
    exact ⟨y, by rw [World.cell?_setCell_same' w p _ (by rw [hp]; rfl)]⟩
  · exact ⟨x, by rw [World.cell?_setCell_other (h := he)]; exact hx⟩
theorem OpT.put {w : World} {lo hi : Nat} {A : Option Addr} {es : List Pm} {κ : IntKind} {p : Addr} {z : Int} (h : OpT w lo hi A es) (hp : w.cell? p = some (.int κ z)) (y : Int) : OpT (w.setCell p (.int κ y)) lo hi A es := by
  refine ⟨fun i d hd => ?_, fun d hd k x hx => ?_, fun d hd x hx j hj => ?_⟩
  · obtain ⟨b, o, e, h1, h2⟩ := h.pts i d hd
    exact ⟨b, o, e, h1.put hp y, cell_put_ne hp h2 (by simp)⟩
  · obtain ⟨b, o, e, h1, h2⟩ := h.evs d hd k x hx
    exact ⟨b, o, e, h1.put hp y, cell_put_ne hp h2 (by simp)⟩
  · obtain ⟨b, o, e, h1⟩ := h.args d hd x hx j hj
    exact ⟨b, o, e, h1.put hp y⟩
section
variable {w : World} {lo hi : Nat} {es : List Pm}
theorem OpT.pt {b o i : Nat} {d : Pm} (h : OpT w lo hi (some ⟨b, o, none⟩) es) (hd : es[i]? = some d) : NumAt w lo hi .u64 ⟨b, o + i * 2, none⟩ ∧ w.cell? ⟨b, o + i * 2 + 1, none⟩ = some (.slice d.A d.evs.length d.c) := by
  obtain ⟨b', o', e, h1, h2⟩ := h.pts i d hd
  injection e with e
  injection e with e1 e2 _
  subst e1 e2
  exact ⟨h1, h2⟩
theorem OpT.ev {A : Option Addr} {b o k : Nat} {d : Pm} {x : Em} (h : OpT w lo hi A es) (hd : d ∈ es) (e : d.A = some ⟨b, o, none⟩) (hx : d.evs[k]? = some x) : NumAt w lo hi .i64 ⟨b, o + k * 2, none⟩ ∧ w.cell? ⟨b, o + k * 2 + 1, none⟩ = some (.slice x.A x.args.length x.c) := by
  obtain ⟨b', o', e', h1, h2⟩ := h.evs d hd k x hx
  rw [e] at e'
  injection e' with e'
  injection e' with e1 e2 _
  subst e1 e2
  exact ⟨h1, h2⟩
theorem OpT.arg {A : Option Addr} {b o j : Nat} {d : Pm} {x : Em} (h : OpT w lo hi A es) (hd : d ∈ es) (hx : x ∈ d.evs) (e : x.A = some ⟨b, o, none⟩) (hj : j < x.args.length) : NumAt w lo hi .i64 ⟨b, o + j * 3 + 1, none⟩ := by
  obtain ⟨b', o', e', h1⟩ := h.args d hd x hx j hj
  rw [e] at e'
  injection e' with e'
  injection e' with e1 e2 _
  subst e1 e2
  exact h1
end
theorem own_at {w : World} {n m k c size i : Nat} {e : TypeId} {A : Option Addr} {us : List Value} {u : Value} (h : w.ownsRow n e size (.slice A m c) k us) (hu : us[i]? = some u) :
    ∃ g, A = some ⟨g, 0, none⟩ ∧ n ≤ g ∧ g < w.heap.size ∧ w.cell? ⟨g, i, none⟩ = some u ∧ w.frozen? ⟨g, i, none⟩ = false := by
  have hl := (List.getElem?_eq_some_iff.1 hu).1
  rw [h.1] at hl
  rcases h.2 with ⟨_, rfl⟩ | ⟨g, cap, cur, e1, hng, hg, _⟩
  · omega
  · injection e1 with e1 e2 e3
    subst e1 e2 e3
    exact ⟨g, rfl, hng, (Array.getElem?_eq_some_iff.1 hg).1, by rw [World.ownsRow.cellAt h i hl]; exact hu, World.ownsRow.frozenAt h _⟩
theorem OwnT.open {w : World} {n c : Nat} {A : Option Addr} {es : List Pm} (h : OwnT w n (.slice A es.length c) es) : OpT w n w.heap.size A es := by
  refine ⟨fun i d hd => ?_, fun d hd k x hx => ?_, fun d hd x hx j hj => ?_⟩
  · obtain ⟨f0, f1⟩ := flatN_at es i d hd
    obtain ⟨g, e, h1, h2, h3, h4⟩ := own_at h.1 f0
    obtain ⟨g', e', _, _, h5, _⟩ := own_at h.1 f1
    rw [e] at e'
    injection e' with e'
    injection e' with e1 _ _
    subst e1
    exact ⟨g, 0, e, by rw [Nat.zero_add]; exact ⟨⟨_, h3⟩, h4, h1, h2⟩, by rw [Nat.zero_add]; exact h5⟩
  · have ho := (h.2 d hd).1.1
    obtain ⟨f0, f1⟩ := flatE_at d.evs k x hx
    obtain ⟨g, e, h1, h2, h3, h4⟩ := own_at ho f0
    obtain ⟨g', e', _, _, h5, _⟩ := own_at ho f1
    rw [e] at e'
    injection e' with e'
    injection e' with e1 _ _
    subst e1
    exact ⟨g, 0, e, by rw [Nat.zero_add]; exact ⟨⟨_, h3⟩, h4, h1, h2⟩, by rw [Nat.zero_add]; exact h5⟩
  · have ho := ((h.2 d hd).1.2 x hx).1
    obtain ⟨a, ha⟩ : ∃ a, x.args[j]? = some a := ⟨_, List.getElem?_eq_getElem hj⟩
    obtain ⟨_, f1, _⟩ := flatG_at x.args j a ha
    obtain ⟨g, e, h1, h2, h3, h4⟩ := own_at ho f1
    exact ⟨g, 0, e, by rw [Nat.zero_add]; exact ⟨⟨_, h3⟩, h4, h1, h2⟩⟩
theorem NumAt.below {w w' : World} {lo hi : Nat} {k : IntKind} {p : Addr} (h : NumAt w lo hi k p) (hb : Below w.heap.size w w') : NumAt w' lo hi k p := by
  obtain ⟨⟨z, hz⟩, h2, h3⟩ := h
  have hlt := World.block_lt_of_cell? w p hz
  refine ⟨⟨z, (hb.cell hlt).trans hz⟩, ?_, h3⟩
  rw [← h2]
  unfold World.frozen?
  rw [hb.block _ hlt]
theorem OpT.below {w w' : World} {lo hi : Nat} {A : Option Addr} {es : List Pm} (h : OpT w lo hi A es) (hb : Below w.heap.size w w') : OpT w' lo hi A es := by
  have key : ∀ (p : Addr) (u : Value), w.cell? p = some u → w'.cell? p = some u := fun p u hp => (hb.cell (World.block_lt_of_cell? w p hp)).trans hp
  refine ⟨fun i d hd => ?_, fun d hd k x hx => ?_, fun d hd x hx j hj => ?_⟩
  · obtain ⟨b, o, e, h1, h2⟩ := h.pts i d hd
    exact ⟨b, o, e, h1.below hb, key _ _ h2⟩
  · obtain ⟨b, o, e, h1, h2⟩ := h.evs d hd k x hx
    exact ⟨b, o, e, h1.below hb, key _ _ h2⟩
  · obtain ⟨b, o, e, h1⟩ := h.args d hd x hx j hj
    exact ⟨b, o, e, h1.below hb⟩
/-- A trace of the call's own, in blocks from n on, where what is written lies ahead of these. -/
theorem own_mid {w w' : World} {m n k size : Nat} {e : TypeId} {v : Value} {us : List Value} (h : w.ownsRow n e size v k us) (hm : Mid m n w w') : w'.ownsRow n e size v k us := by
  refine ⟨h.1, ?_⟩
  rcases h.2 with h2 | ⟨g, cap, cur, q1, q2, q3, r⟩
  · exact .inl h2
  · exact .inr ⟨g, cap, cur, q1, q2, (hm.block g (.inr ⟨q2, (Array.getElem?_eq_some_iff.1 q3).1⟩)).trans q3, r⟩
theorem OwnT.mid {w w' : World} {m n : Nat} {v : Value} {es : List Pm} (h : OwnT w n v es) (hm : Mid m n w w') : OwnT w' n v es :=
  ⟨own_mid h.1 hm, fun d hd => ⟨⟨own_mid (h.2 d hd).1.1 hm, fun x hx => ⟨own_mid ((h.2 d hd).1.2 x hx).1 hm, ((h.2 d hd).1.2 x hx).2⟩⟩, (h.2 d hd).2⟩⟩
theorem OwnT.base {w : World} {m n : Nat} {v : Value} {es : List Pm} (h : OwnT w n v es) (hm : m ≤ n) : OwnT w m v es := ⟨own_base h.1 hm, fun d hd => ⟨(h.2 d hd).1.base hm, (h.2 d hd).2⟩⟩
#print axioms OwnT.open
#print axioms OwnT.mid
end Go.Proofs.Ytcegnkbafbepbaa
