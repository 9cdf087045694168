/-
  The number of a folded one, the document's own.
-/
import Derived.Test.YtfknibjejnmghaaGreatUnfolds
namespace Go.Proofs.YtfknibjejnmghaaGreat
open Go.RowKit

theorem runfold_any (n : Int) (h1 : 0 ≤ n) (h2 : n ≤ 18446744073709551615) (w : World) :
    Calls Tryz.prog 75 #[.int .u64 n] w fun e w' => e = .returned (.int .i64 (unfoldI n)) ∧ w = w' := by
  by_cases hx : n % 2 = 0
  · have e1 : unfoldI n = n / 2 := by unfold unfoldI; rw [if_neg (by omega)]
    have E1 := Lib.hid e1; clear e1
    have hb : (n % 2 == 0) = true := by simp [hx]
    clear hx
    go_enter Tryz.func75, Tryz.ntmps75
    go_wp2
    go_ret
    exact ⟨by rw [E1.out]; rfl, rfl⟩
  · have e1 : unfoldI n = -(n / 2) - 1 := by unfold unfoldI; rw [if_pos (by omega)]; omega
    have E1 := Lib.hid e1; clear e1
    have hb : (n % 2 == 0) = false := by simp [hx]
    clear hx
    go_enter Tryz.func75, Tryz.ntmps75
    go_wp2
    go_ret
    exact ⟨by rw [E1.out]; rfl, rfl⟩
end Go.Proofs.YtfknibjejnmghaaGreat
