/-
  The chapter's example of a sum, which each statement of this layer asks again: it is met, whatever the world.
-/
import Derived.Test.YtpphgmddancocaaCrcRef
import Derived.Lib.SlBytesConst
import Derived.Lib.SmallJoins
namespace Go.Proofs.Ytpphgmddancocaa
open Go.RowKit

theorem sum_nine : sumX [49, 50, 51, 52, 53, 54, 55, 56, 57] = 3421780262 := by decide +kernel

/-- A slice whose cells lie in a block that is known. -/
theorem Row.of_cells {w : World} {B g : Nat} {xs : List Int} (hl : xs.length ≤ 9223372036854775807) (hg : g < B) (hc : ∀ i, i < xs.length → w.cell? ⟨g, i, none⟩ = some (.int .u8 (xs.getD i 0))) : Row w B (.slice (some ⟨g, 0, none⟩) xs.length xs.length) xs :=
  ⟨_, _, rfl, Nat.le_refl _, by unfold maxLen; exact hl, by simp, fun _ => ⟨g, 0, rfl, hg, fun i hi => by rw [Nat.zero_add]; exact hc i hi⟩⟩

set_option maxRecDepth 100000 in
set_option maxHeartbeats 1000000 in
theorem cfix_any (w : World) : Calls Try.prog 10 #[] w fun e w' => e = .returned (.bool true) ∧ Below w.heap.size w w' := by
  have kc := fun (w : World) (C : Array Value) (n c : Nat) => Lib.run_convert_bytes_const (P := Try.prog) w 22 5 C n c Try.underlying22 Try.underlying5
  go_enter Try.func10, Try.ntmps10
  go_wp2_with fail
  clear kc
  generalize hw1 : w.alloc (.cells #[.int .u8 49, .int .u8 50, .int .u8 51, .int .u8 52, .int .u8 53, .int .u8 54, .int .u8 55, .int .u8 56, .int .u8 57] 5 (9, 10)) = w1
  have hb1 : Below w.heap.size w w1 := by rw [← hw1]; exact (Below.refl _ _).alloc (Nat.le_refl _) _
  have hz1 : w1.heap.size = w.heap.size + 1 := by rw [← hw1]; simp
  have hc1 : ∀ i, w1.cell? ⟨w.heap.size, i, none⟩ = (#[.int .u8 49, .int .u8 50, .int .u8 51, .int .u8 52, .int .u8 53, .int .u8 54, .int .u8 55, .int .u8 56, .int .u8 57] : Array Value)[i]? := by intro i; rw [← hw1]; exact World.cell?_alloc_mark w _ _ _ i
  clear hw1
  have hr1 : Row w1 w1.heap.size (.slice (some ⟨w.heap.size, 0, none⟩) 9 9) [49, 50, 51, 52, 53, 54, 55, 56, 57] := by
    refine Row.of_cells (xs := [49, 50, 51, 52, 53, 54, 55, 56, 57]) (by decide) (by omega) (fun i hi => ?_)
    rw [hc1 i]
    simp at hi
    rcases (by omega : i = 0 ∨ i = 1 ∨ i = 2 ∨ i = 3 ∨ i = 4 ∨ i = 5 ∨ i = 6 ∨ i = 7 ∨ i = 8) with rfl | rfl | rfl | rfl | rfl | rfl | rfl | rfl | rfl <;> rfl
  have hsum := sum_any (.slice (some ⟨w1.heap.size, 0, none⟩) 1 1) [[49, 50, 51, 52, 53, 54, 55, 56, 57]] (w1.alloc (.cells #[.slice (some ⟨w.heap.size, 0, none⟩) 9 9] 22))
    (Parts.one (by simp) (by simp [World.cell?_alloc_new]) ((hr1.below ((Below.refl _ _).alloc (Nat.le_refl _) _)).more (by simp))) (by decide)
  rw [show [[49, 50, 51, 52, 53, 54, 55, 56, 57]].flatten = ([49, 50, 51, 52, 53, 54, 55, 56, 57] : List Int) from rfl, sum_nine, show ((3421780262 : Nat) : Int) = 3421780262 from rfl, hz1] at hsum
  have HS := Lib.hid hsum; clear hsum hr1 hc1
  have HZ := Lib.hid hz1; clear hz1
  have HB := Lib.hid hb1; clear hb1
  refine HS.out.mono ?_
  rintro e w2 ⟨rfl, rfl⟩
  go_wp2_with fail
  go_ret
  exact ⟨rfl, HB.out.alloc HB.out.size _⟩
#print axioms cfix_any
end Go.Proofs.Ytpphgmddancocaa
