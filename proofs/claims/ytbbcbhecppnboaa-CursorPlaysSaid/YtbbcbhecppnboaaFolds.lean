/-
  The four functions that fold whole numbers (the program's two, the document's two): what each call answers, at every number of its kind.
-/
import Derived.Test.YtbbcbhecppnboaaRows
import Derived.WalkKit
import Derived.WalkSpells
import Derived.Lib.Hide
namespace Go.Proofs.Ytbbcbhecppnboaa
open Go.RowKit

/-- The folded number. -/
def foldI (x : Int) : Int := if x < 0 then 2 * (-1 - x) + 1 else 2 * x
/-- The number of a folded one. -/
def unfoldI (n : Int) : Int := if n % 2 = 1 then -1 - n / 2 else n / 2

theorem foldI_range {x : Int} (h1 : -9223372036854775808 ≤ x) (h2 : x ≤ 9223372036854775807) : 0 ≤ foldI x ∧ foldI x ≤ 18446744073709551615 := by
  unfold foldI; split <;> omega
theorem unfoldI_range {n : Int} (h1 : 0 ≤ n) (h2 : n ≤ 18446744073709551615) : -9223372036854775808 ≤ unfoldI n ∧ unfoldI n ≤ 9223372036854775807 := by
  unfold unfoldI; split <;> omega
theorem unfold_fold (x : Int) : unfoldI (foldI x) = x := by
  unfold unfoldI foldI; split <;> split <;> omega
theorem fold_unfold {n : Int} (h : 0 ≤ n) : foldI (unfoldI n) = n := by
  unfold unfoldI foldI; split <;> split <;> omega
theorem fold_near {x y : Int} (h : (0 ≤ x ∧ x < y) ∨ (x < 0 ∧ y < x)) : foldI x < foldI y := by
  unfold foldI; split <;> split <;> omega
theorem fold_inj {x y : Int} : foldI x = foldI y ↔ x = y := by
  constructor
  · intro h; have := unfold_fold x; rw [h, unfold_fold] at this; exact this.symm
  · rintro rfl; rfl

theorem fold_any (x : Int) (h1 : -9223372036854775808 ≤ x) (h2 : x ≤ 9223372036854775807) (w : World) :
    Calls Try.prog 18 #[.int .i64 x] w fun e w' => e = .returned (.int .u64 (foldI x)) ∧ w = w' := by
  by_cases hx : x < 0
  · have e1 : foldI x = 2 * (-1 - x) + 1 := by unfold foldI; rw [if_pos hx]
    have E1 := Lib.hid e1; clear e1
    go_enter Try.func18, Try.ntmps18
    go_wp2
    go_ret
    exact ⟨by rw [E1.out]; rfl, rfl⟩
  · have e1 : foldI x = 2 * x := by unfold foldI; rw [if_neg hx]
    have E1 := Lib.hid e1; clear e1
    go_enter Try.func18, Try.ntmps18
    go_wp2
    go_ret
    exact ⟨by rw [E1.out]; rfl, rfl⟩

theorem rfold_any (x : Int) (h1 : -9223372036854775808 ≤ x) (h2 : x ≤ 9223372036854775807) (w : World) :
    Calls Try.prog 20 #[.int .i64 x] w fun e w' => e = .returned (.int .u64 (foldI x)) ∧ w = w' := by
  by_cases hx : 0 ≤ x
  · have e1 : foldI x = 2 * x := by unfold foldI; rw [if_neg (by omega)]
    have E1 := Lib.hid e1; clear e1
    go_enter Try.func20, Try.ntmps20
    go_wp2
    go_ret
    exact ⟨by rw [E1.out]; rfl, rfl⟩
  · have e1 : foldI x = 2 * (-(x + 1)) + 1 := by unfold foldI; rw [if_pos (by omega)]; omega
    have E1 := Lib.hid e1; clear e1
    go_enter Try.func20, Try.ntmps20
    go_wp2
    go_ret
    exact ⟨by rw [E1.out]; rfl, rfl⟩

theorem unfold_any (n : Int) (h1 : 0 ≤ n) (h2 : n ≤ 18446744073709551615) (w : World) :
    Calls Try.prog 19 #[.int .u64 n] w fun e w' => e = .returned (.int .i64 (unfoldI n)) ∧ w = w' := by
  by_cases hx : n % 2 = 1
  · have e1 : unfoldI n = -1 - n / 2 := by unfold unfoldI; rw [if_pos hx]
    have E1 := Lib.hid e1; clear e1
    have hb : (n % 2 == 1) = true := by simp [hx]
    clear hx
    go_enter Try.func19, Try.ntmps19
    go_wp2
    go_ret
    exact ⟨by rw [E1.out]; rfl, rfl⟩
  · have e1 : unfoldI n = n / 2 := by unfold unfoldI; rw [if_neg hx]
    have E1 := Lib.hid e1; clear e1
    have hb : (n % 2 == 1) = false := by simp [hx]
    clear hx
    go_enter Try.func19, Try.ntmps19
    go_wp2
    go_ret
    exact ⟨by rw [E1.out]; rfl, rfl⟩

theorem runfold_any (n : Int) (h1 : 0 ≤ n) (h2 : n ≤ 18446744073709551615) (w : World) :
    Calls Try.prog 21 #[.int .u64 n] w fun e w' => e = .returned (.int .i64 (unfoldI n)) ∧ w = w' := by
  by_cases hx : n % 2 = 0
  · have e1 : unfoldI n = n / 2 := by unfold unfoldI; rw [if_neg (by omega)]
    have E1 := Lib.hid e1; clear e1
    have hb : (n % 2 == 0) = true := by simp [hx]
    clear hx
    go_enter Try.func21, Try.ntmps21
    go_wp2
    go_ret
    exact ⟨by rw [E1.out]; rfl, rfl⟩
  · have e1 : unfoldI n = -(n / 2) - 1 := by unfold unfoldI; rw [if_pos (by omega)]; omega
    have E1 := Lib.hid e1; clear e1
    have hb : (n % 2 == 0) = false := by simp [hx]
    clear hx
    go_enter Try.func21, Try.ntmps21
    go_wp2
    go_ret
    exact ⟨by rw [E1.out]; rfl, rfl⟩
end Go.Proofs.Ytbbcbhecppnboaa
