/-
  Rows of the call's own: their form, lower bases, stores into other blocks; append of a predicate as a step of a walk. No program here.
-/
import Derived.Test.YtnjhkjlekepjoaaSigRows
namespace Go.Proofs.Ytnjhkjlekepjoaa
open Go.RowKit

theorem own_form {w : World} {n k : Nat} {e : TypeId} {size : Nat} {v : Value} {us : List Value} (h : w.ownsRow n e size v k us) : ∃ A c, v = .slice A k c := by
  rcases h.2 with ⟨rfl, rfl⟩ | ⟨g, cap, cur, rfl, _⟩
  · exact ⟨none, 0, rfl⟩
  · exact ⟨_, _, rfl⟩
theorem own_base {w : World} {n m k : Nat} {e : TypeId} {size : Nat} {v : Value} {us : List Value} (h : w.ownsRow n e size v k us) (hm : m ≤ n) : w.ownsRow m e size v k us := by
  refine ⟨h.1, ?_⟩
  rcases h.2 with h2 | ⟨g, cap, cur, q1, q2, q3⟩
  · exact .inl h2
  · exact .inr ⟨g, cap, cur, q1, Nat.le_trans hm q2, q3⟩
theorem own_low {w : World} {n m k : Nat} {e : TypeId} {size : Nat} {v : Value} {us : List Value} (h : w.ownsRow n e size v k us) (hm : m < n) : v.ownBlock ≠ some m := fun e => by
  have := (World.ownsRow.lt h m e).1
  omega
theorem own_put2 {w : World} {n m k i j : Nat} {e : TypeId} {size : Nat} {v u u' : Value} {us : List Value} (h : w.ownsRow n e size v k us) (hm : v.ownBlock ≠ some m) : ((w.setCell ⟨m, i, none⟩ u).setCell ⟨m, j, none⟩ u').ownsRow n e size v k us :=
  World.ownsRow.kept h (grown_trans (grown_put w m i u) (grown_put _ m j u')) (.inr hm)
theorem own_put1 {w : World} {n m k i : Nat} {e : TypeId} {size : Nat} {v u : Value} {us : List Value} (h : w.ownsRow n e size v k us) (hm : m < n) : (w.setCell ⟨m, i, none⟩ u).ownsRow n e size v k us :=
  World.ownsRow.kept h (grown_put w m i u) (.inr (own_low h hm))
theorem below_put {w : World} {B m i : Nat} (u : Value) (hm : B ≤ m) : Below B w (w.setCell ⟨m, i, none⟩ u) := (Below.refl _ _).setCell (p := ⟨m, i, none⟩) hm u

section
variable {P : Program} {w : World} {ops : Array Oper} {rest : List Oper} {o : Oper} {a : Act} {Q : Exit → Act → World → Prop}
/-- append of a predicate behind a slice of the call's own. -/
theorem wpList_append_pred (hgd : o.guard = none) (s x : Operand) (t : TypeId) (ho : o.op = .call { callee := .builtin .append, args := #[s, x], argTypes := #[t, t] })
    (i : TypeInfo) (z : Value) (ht : P.underlying t = some (.slice 45)) (hi : P.info? 45 = some i) (hz : i.zero = some z) (hsize : i.size = 2) (hby : i.bytes = 40) (hzs : z.cells.size = 2)
    (n : Nat) (v : Value) (es : List Pd) (hs : a.eval s = v) (hown : OwnP w n v es) (ad : Addr) (c : Nat) (d : Pd) (hx : a.eval x = .slice (some ad) 1 c)
    (hc0 : w.cell? (ad.add 0) = some (.string (strOfNums d.p.name))) (hc1 : w.cell? (ad.add 1) = some (.slice d.A d.p.args.length d.c)) (hd : OwnA w n d) (hf : d.Fits) (hlen : es.length + 1 ≤ 1000000001) (hbase : n ≤ w.heap.size)
    (h : ∀ v' w', OwnP w' n v' (es ++ [d]) → w.grownBy w' v.ownBlock → wpList P ops Q rest (a.put o.dst v') w') : wpList P ops Q (o :: rest) a w := by
  refine wpList_plain hgd fun K hK => ?_
  obtain ⟨v', w', hr, h2, h3⟩ := run_append_pred (P := P) w t o.type i z ht hi hz hsize hby hzs n v es hown ad c d hc0 hc1 hd hf hlen hbase
  unfold Oper.wp execOp
  simp only [ho, resolve, invoke, builtin, Sem.run_bind, Sem.run_pure, Result.andThen_ok, List.map_toArray, List.map_cons, List.map_nil, hs, hx, hr]
  exact hK _ _ (h v' w' h2 h3)
end
theorem OwnA.base {w : World} {n m : Nat} {d : Pd} (h : OwnA w n d) (hm : m ≤ n) : OwnA w m d := own_base h hm
theorem OwnP.base {w : World} {n m : Nat} {v : Value} {es : List Pd} (h : OwnP w n v es) (hm : m ≤ n) : OwnP w m v es := ⟨own_base h.1 hm, fun d hd => ⟨(h.2 d hd).1.base hm, (h.2 d hd).2⟩⟩
/-- What a store into a block ahead of its base leaves. -/
theorem OwnP.put {w : World} {n m i : Nat} {v u : Value} {es : List Pd} (h : OwnP w n v es) (hm : m < n) : OwnP (w.setCell ⟨m, i, none⟩ u) n v es :=
  ⟨World.ownsRow.kept h.1 (grown_put w m i u) (.inr (own_low h.1 hm)), fun d hd => ⟨World.ownsRow.kept (h.2 d hd).1 (grown_put w m i u) (.inr (own_low (h.2 d hd).1 hm)), (h.2 d hd).2⟩⟩
/-- A slice of one predicate. -/
theorem row_one {w : World} {g : Nat} {d : Pd} (h : Held w g 45 #[.string (strOfNums d.p.name), .slice d.A d.p.args.length d.c]) (hr : IRow w w.heap.size (.slice d.A d.p.args.length d.c) d.p.args) (hf : d.Fits) :
    PredRow w w.heap.size (.slice (some ⟨g, 0, none⟩) [d].length 1) [d] := by
  refine ⟨_, _, rfl, Nat.le_refl _, by unfold maxLen; omega, by simp, fun _ => ⟨g, 0, rfl, h.lt, fun i e he => ?_⟩, fun e he => ?_⟩
  · match i with
    | 0 =>
      simp only [List.getElem?_cons_zero, Option.some.injEq] at he
      subst he
      exact ⟨h.cell 0, h.cell 1⟩
    | i + 1 => simp at he
  · obtain rfl : e = d := by simpa using he
    exact ⟨hr, hf⟩
#print axioms OwnP.put
end Go.Proofs.Ytnjhkjlekepjoaa
