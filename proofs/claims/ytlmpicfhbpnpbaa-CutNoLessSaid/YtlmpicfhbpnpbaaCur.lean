/-
  A cursor in memory: its bytes, its place, its error; what is kept over which change; behind what turns a row alone. A struct of three cells in a block of its own. No program here.
-/
import Derived.Test.YtlmpicfhbpnpbaaSlices
import Derived.Test.YtlmpicfhbpnpbaaPlains
namespace Go.Proofs.Ytlmpicfhbpnpbaa
open Go.RowKit

/-- Block g holds just these cells, of type t, none frozen. -/
def Held (w : World) (g : Nat) (t : TypeId) (cs : Array Value) : Prop := w.heap[g]? = some (.cells cs t (0, 0))
section
variable {w w' : World} {g : Nat} {t : TypeId} {cs : Array Value}
theorem Held.lt (h : Held w g t cs) : g < w.heap.size := (Array.getElem?_eq_some_iff.1 h).1
theorem Held.cell (h : Held w g t cs) (i : Nat) : w.cell? ⟨g, i, none⟩ = cs[i]? := by simp [World.cell?, show w.heap[g]? = _ from h]
theorem Held.frozen (h : Held w g t cs) (i : Nat) : w.frozen? ⟨g, i, none⟩ = false := by simp [World.frozen?, show w.heap[g]? = _ from h]
theorem Held.put (h : Held w g t cs) (i : Nat) (u : Value) : Held (w.setCell ⟨g, i, none⟩ u) g t (cs.setIfInBounds i u) := by
  have h' : w.heap[g]? = _ := h
  show (w.setCell ⟨g, i, none⟩ u).heap[g]? = _
  simp [World.setCell, Array.getElem?_modify, h']
theorem Held.grown {row : Option Nat} (h : Held w g t cs) (hg : w.grownBy w' row) (hne : some g ≠ row) : Held w' g t cs := (hg.block g h.lt hne).trans h
theorem Held.below {B : Nat} (h : Held w g t cs) (hb : Below B w w') (hlt : g < B) : Held w' g t cs := (hb.block g hlt).trans h
end

theorem Held.other_put {W : World} {q b i : Nat} {t : TypeId} {vs : Array Value} (h : Held W q t vs) (hne : q ≠ b) (u : Value) : Held (W.setCell ⟨b, i, none⟩ u) q t vs := (Below.heap_setCell _ _ _ _ (by simpa using hne)).trans h
theorem grown_trans {a b c : World} {row : Option Nat} (h : a.grownBy b row) (k : b.grownBy c row) : a.grownBy c row :=
  ⟨k.os.trans h.os, k.tape.trans h.tape, k.output.trans h.output, Nat.le_trans h.size k.size, fun i hi hn => (k.block i (Nat.lt_of_lt_of_le hi h.size) hn).trans (h.block i hi hn)⟩
theorem grown_below {a b : World} (h : Below a.heap.size a b) (row : Option Nat) : a.grownBy b row := ⟨h.os, h.tape, h.output, h.size, fun i hi _ => h.block i hi⟩
theorem grown_put (w : World) (g i : Nat) (u : Value) : w.grownBy (w.setCell ⟨g, i, none⟩ u) (some g) :=
  ⟨rfl, rfl, rfl, by simp [World.setCell], fun k _ hn => Below.heap_setCell w ⟨g, i, none⟩ u k (fun e => hn (by rw [e]))⟩
theorem grown_drewN {a b : World} {row : Option Nat} (h : a.grownBy b row) (n : Nat) : a.grownBy (b.drewN n) row := ⟨h.os, h.tape, h.output, h.size, h.block⟩

/-- A cursor in block g, whose bytes lie in a block from K on, ahead of it. -/
def Cur (T : TypeId) (w : World) (K g : Nat) (xs : List Int) (p : Nat) (e : Int) : Prop :=
  ∃ A c, Held w g T #[.slice A xs.length c, .int .i64 p, .int .i64 e] ∧ Row w g (.slice A xs.length c) xs ∧ (∀ a, A = some a → K ≤ a.block)
section
variable {T : TypeId} {w w' : World} {K g : Nat} {xs : List Int} {p : Nat} {e : Int}
theorem Cur.lt (h : Cur T w K g xs p e) : g < w.heap.size := by
  obtain ⟨A, c, h1, _⟩ := h
  exact h1.lt
theorem Cur.keep (h : Cur T w K g xs p e) (hk : ∀ k, K ≤ k → k ≤ g → w'.heap[k]? = w.heap[k]?) (hKg : K ≤ g) : Cur T w' K g xs p e := by
  obtain ⟨A, c, h1, h2, h3⟩ := h
  refine ⟨A, c, (hk g hKg (Nat.le_refl _)).trans h1, ?_, h3⟩
  obtain ⟨A', c', hv, q1, q2, q3, q4⟩ := h2
  refine ⟨A', c', hv, q1, q2, q3, fun hn => ?_⟩
  obtain ⟨b, o, e1, hb, hc⟩ := q4 hn
  injection hv with e2
  have hK := h3 ⟨b, o, none⟩ (e2.trans e1)
  exact ⟨b, o, e1, hb, fun i hi => (World.cell?_of_block (hk b hK (by omega))).trans (hc i hi)⟩
theorem Cur.below (h : Cur T w K g xs p e) (hb : Below w.heap.size w w') (hKg : K ≤ g) : Cur T w' K g xs p e := h.keep (fun k _ hk => hb.block k (by have := h.lt; omega)) hKg
theorem Cur.grown {k : Nat} (h : Cur T w K g xs p e) (hg : w.grownBy w' (some k)) (hk : k < K ∨ g < k) (hKg : K ≤ g) : Cur T w' K g xs p e :=
  h.keep (fun j h1 h2 => hg.block j (by have := h.lt; omega) (fun e => by injection e with e; omega)) hKg
theorem Cur.row_put {A : Option Addr} {c n i : Nat} {u : Value} (h : Row w g (.slice A n c) xs) : Row (w.setCell ⟨g, i, none⟩ u) g (.slice A n c) xs :=
  h.keep fun q hq => World.cell?_of_block (Below.heap_setCell w ⟨g, i, none⟩ u q.block (by simp only; omega))
theorem Cur.at_ (h : Cur T w K g xs p e) (q : Nat) : Cur T (w.setCell ⟨g, 1, none⟩ (.int .i64 q)) K g xs q e := by
  obtain ⟨A, c, h1, h2, h3⟩ := h
  exact ⟨A, c, by simpa using h1.put 1 (.int .i64 q), Cur.row_put h2, h3⟩
theorem Cur.err (h : Cur T w K g xs p e) (q : Int) : Cur T (w.setCell ⟨g, 2, none⟩ (.int .i64 q)) K g xs p q := by
  obtain ⟨A, c, h1, h2, h3⟩ := h
  exact ⟨A, c, by simpa using h1.put 2 (.int .i64 q), Cur.row_put h2, h3⟩
/-- What a walk reads of it. -/
theorem Cur.cells (h : Cur T w K g xs p e) : ∃ A c, w.cell? ⟨g, 0, none⟩ = some (.slice A xs.length c) ∧ w.cell? ⟨g, 1, none⟩ = some (.int .i64 p) ∧ w.cell? ⟨g, 2, none⟩ = some (.int .i64 e) ∧ w.frozen? ⟨g, 1, none⟩ = false ∧ w.frozen? ⟨g, 2, none⟩ = false ∧
    Row w g (.slice A xs.length c) xs ∧ xs.length ≤ c ∧ c ≤ 9223372036854775807 := by
  obtain ⟨A, c, h1, h2, h3⟩ := h
  obtain ⟨A', c', hv, q1, q2, _⟩ := id h2
  injection hv with _ _ e3
  subst e3
  unfold maxLen at q2
  exact ⟨A, c, h1.cell 0, h1.cell 1, h1.cell 2, h1.frozen 1, h1.frozen 2, h2, q1, by omega⟩
end
end Go.Proofs.Ytlmpicfhbpnpbaa

namespace Go.Proofs.Ytlmpicfhbpnpbaa
open Go.RowKit

section
variable {a b c w w' : World} {g n K : Nat} {row : Option Nat} {T : TypeId} {xs : List Int} {p : Nat} {e : Int}
/-- A cursor is kept by what turns a row from n on alone. -/
theorem Cur.past (h : Cur T w K g xs p e) (hg : w.grownBy w' row) (hrow : ∀ j, row = some j → n ≤ j) (hgn : g < n) (hKg : K ≤ g) : Cur T w' K g xs p e :=
  h.keep (fun k h1 h2 => hg.block k (by have := h.lt; omega) (fun e => by have := hrow k e.symm; omega)) hKg
theorem grown_past (h : a.grownBy b (some g)) (k : b.grownBy c row) (hn : ∀ j, row = some j → a.heap.size ≤ j) : a.grownBy c (some g) :=
  ⟨k.os.trans h.os, k.tape.trans h.tape, k.output.trans h.output, Nat.le_trans h.size k.size, fun i hi hne => (k.block i (Nat.lt_of_lt_of_le hi h.size) (fun e => by have := hn i e.symm; omega)).trans (h.block i hi hne)⟩
end

end Go.Proofs.Ytlmpicfhbpnpbaa
