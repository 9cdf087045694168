/-
  append of what a slice reads as, behind a row of the call's own, as a step of a walk. No program here.
-/
import Derived.Test.YtlnddmojmgelkaaSlices
import Derived.WalkKit
namespace Go.Proofs.Ytlnddmojmgelkaa
open Go.RowKit

/-- append, as a step of a walk: of what a slice reads as, behind a row of the call's own. -/
theorem wpList_append_row {P : Program} (w : World) {ops : Array Oper} {rest : List Oper} {o : Oper} {a : Act} {Q : Exit → Act → World → Prop}
    (hg : o.guard = none) (s x : Operand) (t : TypeId) (hop : o.op = Op.call { callee := Callee.builtin Builtin.append, args := #[s, x], argTypes := #[t, t] })
    (base : Nat) (e : TypeId) (i : TypeInfo) (z : Value) (h1 : P.underlying t = some (.slice e)) (h2 : P.info? e = some i) (h3 : i.zero = some z) (h4 : i.size = 1) (h5 : i.bytes = 1) (h6 : z.cells.size = 1)
    (v : Value) (k : Nat) (us : List Value) (hs : a.eval s = v) (hown : w.ownsRow base e 1 v k us) (B : Nat) (sv : Value) (xs : List Int) (hx : a.eval x = sv) (hr : Row w B sv xs)
    (b2 : k + xs.length ≤ 140737488355328) (b3 : base ≤ w.heap.size)
    (hK : ∀ v' w', w'.ownsRow base e 1 v' (k + xs.length) (us ++ xs.map (.int .u8)) → w.grownBy w' v.ownBlock → (v' = .slice none 0 0 ↔ v = .slice none 0 0 ∧ xs.length = 0) → wpList P ops Q rest (a.put o.dst v') w') :
    wpList P ops Q (o :: rest) a w := by
  obtain ⟨v', w', hrun, r1, r2, r3⟩ := run_append_row (P := P) w base t o.type e i z h1 h2 h3 h4 h5 h6 v k us hown B sv xs hr b2 b3
  refine wpList_plain hg fun K hK' => ?_
  unfold Oper.wp
  simp [execOp, hop, resolve, invoke, builtin, hs, hx, hrun, Result.andThen]
  exact hK' _ _ (hK v' w' r1 r2 r3)

/-- A slice of no bytes, newly made. -/
theorem own_none1 (w : World) (base : Nat) (e : TypeId) (hb : base ≤ w.heap.size) : (w.alloc (.cells #[] e)).ownsRow base e 1 (.slice (some ⟨w.heap.size, 0, none⟩) 0 0) 0 [] :=
  ⟨rfl, .inr ⟨w.heap.size, 0, #[], rfl, hb, heap_alloc_new w _, Nat.le_refl _, Nat.zero_le _, rfl, rfl⟩⟩

#print axioms wpList_append_row
end Go.Proofs.Ytlnddmojmgelkaa
