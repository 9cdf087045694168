/-
  append behind a row of bytes; what turns one block and one row alone.
-/
import Derived.Test.YtlmpicfhbpnpbaaSlices
import Derived.WalkKit
import Derived.Test.YtlmpicfhbpnpbaaCur
namespace Go.Proofs.Ytlmpicfhbpnpbaa
open Go.RowKit

/-- append, as a step of a walk: of what a slice reads as, behind a row of the call's own. -/
theorem wpList_append_row {P : Program} (w : World) {ops : Array Oper} {rest : List Oper} {o : Oper} {a : Act} {Q : Exit → Act → World → Prop}
    (hg : o.guard = none) (s x : Operand) (t : TypeId) (hop : o.op = Op.call { callee := Callee.builtin Builtin.append, args := #[s, x], argTypes := #[t, t] })
    (base : Nat) (e : TypeId) (i : TypeInfo) (z : Value) (h1 : P.underlying t = some (.slice e)) (h2 : P.info? e = some i) (h3 : i.zero = some z) (h4 : i.size = 1) (h5 : i.bytes = 1) (h6 : z.cells.size = 1)
    (v : Value) (k : Nat) (us : List Value) (hs : a.eval s = v) (hown : w.ownsRow base e 1 v k us) (B : Nat) (sv : Value) (xs : List Int) (hx : a.eval x = sv) (hr : Row w B sv xs)
    (b2 : k + xs.length ≤ 140737488355328) (b3 : base ≤ w.heap.size)
    (hK : ∀ v' w', w'.ownsRow base e 1 v' (k + xs.length) (us ++ xs.map (.int .u8)) → w.grownBy w' v.ownBlock → (v' = .slice none 0 0 ↔ v = .slice none 0 0 ∧ xs.length = 0) → wpList P ops Q rest (a.put o.dst v') w') :
    wpList P ops Q (o :: rest) a w := by
  obtain ⟨v', w', hrun, r1, r2, r3⟩ := run_append_row (P := P) w base t o.type e i z h1 h2 h3 h4 h5 h6 v k us hown B sv xs hr b2 b3
  refine wpList_plain hg fun K hK' => ?_
  unfold Oper.wp
  simp [execOp, hop, resolve, invoke, builtin, hs, hx, hrun, Result.andThen]
  exact hK' _ _ (hK v' w' r1 r2 r3)

/-- A slice of no bytes, newly made. -/
theorem own_none1 (w : World) (base : Nat) (e : TypeId) (hb : base ≤ w.heap.size) : (w.alloc (.cells #[] e)).ownsRow base e 1 (.slice (some ⟨w.heap.size, 0, none⟩) 0 0) 0 [] :=
  ⟨rfl, .inr ⟨w.heap.size, 0, #[], rfl, hb, heap_alloc_new w _, Nat.le_refl _, Nat.zero_le _, rfl, rfl⟩⟩

#print axioms wpList_append_row
end Go.Proofs.Ytlmpicfhbpnpbaa

namespace Go.Proofs.Ytlmpicfhbpnpbaa
open Go.RowKit

/-- What turns block g, and the block of a row, alone. -/
structure But (w w' : World) (row : Option Nat) (g : Nat) : Prop where
  os : w'.os = w.os
  tape : w'.tape = w.tape
  output : w'.output = w.output
  size : w.heap.size ≤ w'.heap.size
  block : ∀ k, k < w.heap.size → k ≠ g → some k ≠ row → w'.heap[k]? = w.heap[k]?

section
variable {w w' w2 : World} {row row' : Option Nat} {g : Nat}
theorem But.refl (w : World) (row : Option Nat) (g : Nat) : But w w row g := ⟨rfl, rfl, rfl, Nat.le_refl _, fun _ _ _ _ => rfl⟩
theorem But.of_one (h : w.grownBy w' (some g)) (row : Option Nat) : But w w' row g := ⟨h.os, h.tape, h.output, h.size, fun k hk hn _ => h.block k hk (fun e => hn (by injection e))⟩
theorem But.of_row (h : w.grownBy w' row) (g : Nat) : But w w' row g := ⟨h.os, h.tape, h.output, h.size, fun k hk _ hn => h.block k hk hn⟩
theorem But.of_below (h : Below w.heap.size w w') (row : Option Nat) (g : Nat) : But w w' row g := ⟨h.os, h.tape, h.output, h.size, fun k hk _ _ => h.block k hk⟩
theorem But.trans (h : But w w' row g) (k : But w' w2 row' g) (hr : ∀ j, row' = some j → row = some j ∨ w.heap.size ≤ j) : But w w2 row g :=
  ⟨k.os.trans h.os, k.tape.trans h.tape, k.output.trans h.output, Nat.le_trans h.size k.size, fun i hi hn hn2 =>
    (k.block i (Nat.lt_of_lt_of_le hi h.size) hn (fun e => (hr i e.symm).elim (fun e2 => hn2 e2.symm) (fun h => by omega))).trans (h.block i hi hn hn2)⟩
theorem But.one (h : But w w' none g) : w.grownBy w' (some g) := ⟨h.os, h.tape, h.output, h.size, fun k hk hn => h.block k hk (fun e => hn (by rw [e])) (by simp)⟩
/-- All below a bound but block g, where the row lies above. -/
theorem But.low {n : Nat} (h : But w w' row g) (hn : n ≤ w.heap.size) (hg : n ≤ g) (hr : ∀ j, row = some j → n ≤ j) : Below n w w' :=
  ⟨h.os, h.tape, h.output, h.size, fun k hk => h.block k (by omega) (by omega) (fun e => by have := hr k e.symm; omega)⟩
theorem But.held {k : Nat} {t : TypeId} {cs : Array Value} (h : But w w' row g) (hk : Held w k t cs) (h1 : k ≠ g) (h2 : some k ≠ row) : Held w' k t cs := (h.block k hk.lt h1 h2).trans hk
theorem But.bytes {B : Nat} {A : Option Addr} {n c : Nat} {xs : List Int} (h : But w w' row g) (hr : Row w B (.slice A n c) xs) (hg : ∀ (i : Nat) (n : Int), w.cell? ⟨g, i, none⟩ ≠ some (.int .u8 n)) (hA : ∀ a, A = some a → row ≠ some a.block) : Row w' B (.slice A n c) xs := by
  obtain ⟨A', c', hv, h1, h2, h3, h4⟩ := hr
  injection hv with e1 e2 e3
  subst e1 e3
  refine ⟨_, _, by rw [e2], h1, h2, h3, fun hn => ?_⟩
  obtain ⟨b, o, e, hb, hc⟩ := h4 hn
  refine ⟨b, o, e, hb, fun i hi => ?_⟩
  have hlt : b < w.heap.size := World.block_lt_of_cell? w ⟨b, o + 0, none⟩ (hc 0 hn)
  have hne : b ≠ g := fun e => by
    subst e
    exact hg _ _ (hc 0 hn)
  exact (World.cell?_of_block (h.block b hlt hne (fun e2 => hA _ e e2.symm))).trans (hc i hi)
theorem But.clean {B : Nat} {v : Value} {xs : List Int} (h : But w w' row g) (hr : Row w B v xs) (hg : ∀ (i : Nat) (n : Int), w.cell? ⟨g, i, none⟩ ≠ some (.int .u8 n)) (hc : ∀ j, row = some j → ∀ (i : Nat) (n : Int), w.cell? ⟨j, i, none⟩ ≠ some (.int .u8 n)) : Row w' B v xs := by
  obtain ⟨A, c, hv, h1, h2, h3, h4⟩ := hr
  refine ⟨_, _, hv, h1, h2, h3, fun hn => ?_⟩
  obtain ⟨b, o, e, hb, hcell⟩ := h4 hn
  refine ⟨b, o, e, hb, fun i hi => ?_⟩
  have hlt : b < w.heap.size := World.block_lt_of_cell? w ⟨b, o + 0, none⟩ (hcell 0 hn)
  exact (World.cell?_of_block (h.block b hlt (fun e => by subst e; exact hg _ _ (hcell 0 hn)) (fun e2 => hc b e2.symm _ _ (hcell 0 hn)))).trans (hcell i hi)
end

/-- A row of the call's own, behind what turns another block and another row. -/
theorem own_but {w w' : World} {row : Option Nat} {g base : Nat} {e : TypeId} {size n : Nat} {v : Value} {us : List Value} (h : w.ownsRow base e size v n us) (hb : But w w' row g) (h1 : v.ownBlock = none ∨ v.ownBlock ≠ some g) (h2 : v.ownBlock = none ∨ v.ownBlock ≠ row) : w'.ownsRow base e size v n us := by
  refine ⟨h.1, ?_⟩
  rcases h.2 with h3 | ⟨b, cap, cur, rfl, hbb, hgb, r⟩
  · exact .inl h3
  · refine .inr ⟨b, cap, cur, rfl, hbb, ?_, r⟩
    refine (hb.block b (Array.getElem?_eq_some_iff.1 hgb).1 (fun e2 => ?_) (fun e2 => ?_)).trans hgb
    · exact h1.elim (fun h => by simp [Value.ownBlock] at h) (fun h => h (by simp [Value.ownBlock, e2]))
    · exact h2.elim (fun h => by simp [Value.ownBlock] at h) (fun h => h (by rw [← e2]; rfl))
#print axioms own_but
end Go.Proofs.Ytlmpicfhbpnpbaa
