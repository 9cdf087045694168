/-
  Folded numbers, in plain numbers. No program here.
-/
import Derived.Laws.BytesArg
namespace Go.Proofs.Ytbbmblodabojeaa

/-- The folded number. -/
def foldI (x : Int) : Int := if x < 0 then 2 * (-1 - x) + 1 else 2 * x
/-- The number of a folded one. -/
def unfoldI (n : Int) : Int := if n % 2 = 1 then -1 - n / 2 else n / 2

theorem foldI_range {x : Int} (h1 : -9223372036854775808 ≤ x) (h2 : x ≤ 9223372036854775807) : 0 ≤ foldI x ∧ foldI x ≤ 18446744073709551615 := by
  unfold foldI; split <;> omega
theorem unfoldI_range {n : Int} (h1 : 0 ≤ n) (h2 : n ≤ 18446744073709551615) : -9223372036854775808 ≤ unfoldI n ∧ unfoldI n ≤ 9223372036854775807 := by
  unfold unfoldI; split <;> omega
theorem unfold_fold (x : Int) : unfoldI (foldI x) = x := by
  unfold unfoldI foldI; split <;> split <;> omega
theorem fold_unfold {n : Int} (h : 0 ≤ n) : foldI (unfoldI n) = n := by
  unfold unfoldI foldI; split <;> split <;> omega
theorem fold_near {x y : Int} (h : (0 ≤ x ∧ x < y) ∨ (x < 0 ∧ y < x)) : foldI x < foldI y := by
  unfold foldI; split <;> split <;> omega
theorem fold_inj {x y : Int} : foldI x = foldI y ↔ x = y := by
  constructor
  · intro h; have := unfold_fold x; rw [h, unfold_fold] at this; exact this.symm
  · rintro rfl; rfl

end Go.Proofs.Ytbbmblodabojeaa
