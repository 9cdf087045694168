/-
  segs.skippedPart, segs.framePart: the part of what is skipped, and that of a frame.
-/
import Derived.Test.YtpphgmddancocaaFindAt
import Derived.Test.YtpphgmddancocaaPlainFrames
namespace Go.Proofs.Ytpphgmddancocaa
open Go.RowKit

set_option maxRecDepth 100000 in
theorem skipped_any (a r : Nat) (ha : a ≤ r) (hr : r ≤ 9223372036854775807) (w : World) :
    Calls Try.prog 64 #[.int .i64 a, .int .i64 r] w fun e w' => e = .returned (.agg #[.int .i64 a, .int .i64 (r - a : Nat), .bool false, .int .i64 0, .slice none 0 0]) ∧ Below w.heap.size w w' := by
  have h1 : (0 : Int) ≤ a := by omega
  have h2 : (a : Int) ≤ r := by omega
  have h3 : (r : Int) ≤ 9223372036854775807 := by omega
  have h4 : ((r - a : Nat) : Int) = (r : Int) - a := by omega
  rw [h4]
  clear h4
  go_enter Try.func64, Try.ntmps64
  go_wp2_with fail
  refine bodyPost_ret (v := .agg #[.int .i64 a, .int .i64 (r - a), .bool false, .int .i64 0, .slice none 0 0]) (by simp [results, Try.results64, go_sem]) rfl ?_
  exact ⟨rfl, (Below.refl _ _).alloc (Nat.le_refl _) _⟩

/-- What framePart answers of what begins at a place. -/
def Part (w : World) (k : Nat) (t : (Int × List Int) × Nat × Int) (r : Ending) (w' : World) : Prop :=
  ∃ A c, r = .returned (.agg #[.int .i64 k, .int .i64 t.2.1, .bool true, .int .i64 t.1.1, .slice A t.1.2.length c]) ∧ Row w' w'.heap.size (.slice A t.1.2.length c) t.1.2 ∧ Below w.heap.size w w'

set_option maxRecDepth 100000 in
theorem framePart_any (A : Option Addr) (c : Nat) (xs : List Int) (hsm : xs.length ≤ 9223372036854775807) (w : World) (hrow : Row w w.heap.size (.slice A xs.length c) xs) (hb : ∀ x ∈ xs, 0 ≤ x ∧ x < 256) (k : Nat) (hk : k ≤ xs.length) :
    Calls Try.prog 65 #[.slice A xs.length c, .int .i64 k] w (Part w k (getFr (xs.drop k))) := by
  have HAT := Lib.hid (fun W (h : Row W W.heap.size (.slice A xs.length c) xs) => at_in A c xs hsm W h hb k hk)
  have HROW := Lib.hid hrow
  clear hrow hb
  generalize getFr (xs.drop k) = t at HAT ⊢
  have k0 : (0 : Int) ≤ k := by omega
  have k1 : (k : Int) ≤ 9223372036854775807 := by omega
  go_enter Try.func65, Try.ntmps65
  go_wp2_with fail
  refine (HAT.out _ ((HROW.out.below ((Below.refl _ _).alloc (Nat.le_refl _) _)).more (by simp))).mono ?_
  rintro e w1 ⟨A1, c1, rfl, hrow1, hb1⟩
  have hz1 : w.heap.size + 1 ≤ w1.heap.size := by simpa using hb1.size
  have hres : Held w1 w.heap.size 57 #[.int .i64 0, .int .i64 0, .bool false, .int .i64 0, .slice none 0 0] := (hb1.block w.heap.size (by simp)).trans (heap_alloc_new w _)
  have bw1 : Below w.heap.size w w1 := ((Below.refl _ _).alloc (Nat.le_refl _) _).trans (hb1.mono (by simp))
  have hres2 : ∀ o : Obj, Held (w1.alloc o) w.heap.size 57 #[.int .i64 0, .int .i64 0, .bool false, .int .i64 0, .slice none 0 0] := fun o => hres.below ((Below.refl _ _).alloc (Nat.le_refl _) _) (by omega)
  have hr0 := fun o => (hres2 o).cell 0
  have hr1 := fun o => (hres2 o).cell 1
  have hr2 := fun o => (hres2 o).cell 2
  have hr3 := fun o => (hres2 o).cell 3
  have hr4 := fun o => (hres2 o).cell 4
  have hf0 := fun o => (hres2 o).frozen 0
  have hf1 := fun o => (hres2 o).frozen 1
  have hf2 := fun o => (hres2 o).frozen 2
  have hf3 := fun o => (hres2 o).frozen 3
  have hf4 := fun o => (hres2 o).frozen 4
  simp at hr0 hr1 hr2 hr3 hr4
  have HRES2 := Lib.hid hres2
  clear hres2
  have HROW1 := Lib.hid hrow1
  have HB1 := Lib.hid bw1
  have HRES := Lib.hid hres
  clear hb1 hrow1 bw1 hres
  go_wp2_with fail
  have hfin := (((((HRES2.out (.cells #[.int .i64 t.1.1, .slice A1 t.1.2.length c1] 33)).put 0 (.int .i64 k)).put 1 (.int .i64 t.2.1)).put 2 (.bool true)).put 3 (.int .i64 t.1.1)).put 4 (.slice A1 t.1.2.length c1)
  have e0 := hfin.cell 0
  have e1 := hfin.cell 1
  have e2 := hfin.cell 2
  have e3 := hfin.cell 3
  have e4 := hfin.cell 4
  simp at e0 e1 e2 e3 e4
  refine bodyPost_ret (v := .agg #[.int .i64 k, .int .i64 t.2.1, .bool true, .int .i64 t.1.1, .slice A1 t.1.2.length c1]) (by simp [results, Try.results65, go_sem, e0, e1, e2, e3, e4]) rfl ?_
  refine ⟨A1, c1, rfl, ?_, ?_⟩
  · refine (HROW1.out.keep_but (g := w.heap.size) (fun k hk hn => ?_) (fun i n => ?_)).more (by simp)
    · rw [Below.heap_setCell _ _ _ k hn, Below.heap_setCell _ _ _ k hn, Below.heap_setCell _ _ _ k hn, Below.heap_setCell _ _ _ k hn, Below.heap_setCell _ _ _ k hn, Below.heap_alloc _ _ _ hk]
    · rw [HRES.out.cell]
      match i with
      | 0 => simp
      | 1 => simp
      | 2 => simp
      | 3 => simp
      | 4 => simp
      | i + 5 => simp
  · exact (((((HB1.out.alloc (by omega) _).setCell (p := ⟨w.heap.size, 0, none⟩) (Nat.le_refl _) _).setCell (p := ⟨w.heap.size, 1, none⟩) (Nat.le_refl _) _).setCell (p := ⟨w.heap.size, 2, none⟩) (Nat.le_refl _) _).setCell (p := ⟨w.heap.size, 3, none⟩) (Nat.le_refl _) _).setCell (p := ⟨w.heap.size, 4, none⟩) (Nat.le_refl _) _
#print axioms skipped_any
#print axioms framePart_any
end Go.Proofs.Ytpphgmddancocaa
