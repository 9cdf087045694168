/-
  The number of a folded one.
-/
import Derived.Test.YtfknibjejnmghaaGreatFolds
namespace Go.Proofs.YtfknibjejnmghaaGreat
open Go.RowKit

theorem unfold_any (n : Int) (h1 : 0 ≤ n) (h2 : n ≤ 18446744073709551615) (w : World) :
    Calls Tryz.prog 104 #[.int .u64 n] w fun e w' => e = .returned (.int .i64 (unfoldI n)) ∧ w = w' := by
  by_cases hx : n % 2 = 1
  · have e1 : unfoldI n = -1 - n / 2 := by unfold unfoldI; rw [if_pos hx]
    have E1 := Lib.hid e1; clear e1
    have hb : (n % 2 == 1) = true := by simp [hx]
    clear hx
    go_enter Tryz.func104, Tryz.ntmps104
    go_wp2
    go_ret
    exact ⟨by rw [E1.out]; rfl, rfl⟩
  · have e1 : unfoldI n = n / 2 := by unfold unfoldI; rw [if_neg hx]
    have E1 := Lib.hid e1; clear e1
    have hb : (n % 2 == 1) = false := by simp [hx]
    clear hx
    go_enter Tryz.func104, Tryz.ntmps104
    go_wp2
    go_ret
    exact ⟨by rw [E1.out]; rfl, rfl⟩

end Go.Proofs.YtfknibjejnmghaaGreat
