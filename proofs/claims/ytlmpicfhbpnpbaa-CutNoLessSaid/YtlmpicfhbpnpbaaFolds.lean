/-
  The four functions that fold whole numbers (the program's two, the document's two): what each call answers, at every number of its kind.
-/
import Derived.Test.YtlmpicfhbpnpbaaRows
import Derived.Test.YtlmpicfhbpnpbaaPlains
import Derived.WalkKit
import Derived.WalkSpells
import Derived.Lib.Hide
namespace Go.Proofs.Ytlmpicfhbpnpbaa
open Go.RowKit

theorem fold_any (x : Int) (h1 : -9223372036854775808 ≤ x) (h2 : x ≤ 9223372036854775807) (w : World) :
    Calls Try.prog 84 #[.int .i64 x] w fun e w' => e = .returned (.int .u64 (foldI x)) ∧ w = w' := by
  by_cases hx : x < 0
  · have e1 : foldI x = 2 * (-1 - x) + 1 := by unfold foldI; rw [if_pos hx]
    have E1 := Lib.hid e1; clear e1
    go_enter Try.func84, Try.ntmps84
    go_wp2
    go_ret
    exact ⟨by rw [E1.out]; rfl, rfl⟩
  · have e1 : foldI x = 2 * x := by unfold foldI; rw [if_neg hx]
    have E1 := Lib.hid e1; clear e1
    go_enter Try.func84, Try.ntmps84
    go_wp2
    go_ret
    exact ⟨by rw [E1.out]; rfl, rfl⟩

theorem rfold_any (x : Int) (h1 : -9223372036854775808 ≤ x) (h2 : x ≤ 9223372036854775807) (w : World) :
    Calls Try.prog 70 #[.int .i64 x] w fun e w' => e = .returned (.int .u64 (foldI x)) ∧ w = w' := by
  by_cases hx : 0 ≤ x
  · have e1 : foldI x = 2 * x := by unfold foldI; rw [if_neg (by omega)]
    have E1 := Lib.hid e1; clear e1
    go_enter Try.func70, Try.ntmps70
    go_wp2
    go_ret
    exact ⟨by rw [E1.out]; rfl, rfl⟩
  · have e1 : foldI x = 2 * (-(x + 1)) + 1 := by unfold foldI; rw [if_pos (by omega)]; omega
    have E1 := Lib.hid e1; clear e1
    go_enter Try.func70, Try.ntmps70
    go_wp2
    go_ret
    exact ⟨by rw [E1.out]; rfl, rfl⟩

end Go.Proofs.Ytlmpicfhbpnpbaa
