/-
  A number's bytes, as plain mathematics: groups of seven bits, the lowest first. No program here.
-/
import Derived.Laws.BytesArg
namespace Go.Proofs.Ytbbmblodabojeaa

/-- A number's bytes, so many of them at most. -/
def encF : Nat → Nat → List Int
  | 0, _ => []
  | k + 1, n => if n < 128 then [(n : Int)] else ((n : Int) % 128 + 128) :: encF k (n / 128)
/-- A number's bytes. -/
def encI (n : Nat) : List Int := encF (n + 1) n

theorem encF_same (k : Nat) : ∀ (m n : Nat), n < k → n < m → encF k n = encF m n := by
  induction k with
  | zero => intro m n h _; omega
  | succ k ih =>
    intro m n hk hm
    cases m with
    | zero => omega
    | succ m =>
      simp only [encF]
      by_cases h : n < 128
      · rw [if_pos h, if_pos h]
      · rw [if_neg h, if_neg h, ih m (n / 128) (by omega) (by omega)]
theorem encI_small {n : Nat} (h : n < 128) : encI n = [(n : Int)] := by rw [encI, encF, if_pos h]
theorem encI_great {n : Nat} (h : ¬ n < 128) : encI n = ((n : Int) % 128 + 128) :: encI (n / 128) := by
  rw [encI, encF, if_neg h, encF_same n (n / 128 + 1) (n / 128) (by omega) (by omega), ← encI]

theorem encI_length (k : Nat) : ∀ n : Nat, n < 128 ^ (k + 1) → 1 ≤ (encI n).length ∧ (encI n).length ≤ k + 1 := by
  induction k with
  | zero => intro n h; rw [encI_small (by omega)]; simp
  | succ k ih =>
    intro n h
    by_cases hn : n < 128
    · rw [encI_small hn]; simp
    · rw [encI_great hn]
      have := ih (n / 128) (by rw [Nat.pow_succ] at h; omega)
      simp only [List.length_cons]; omega

theorem encI_ten {n : Nat} (h : n < 18446744073709551616) : 1 ≤ (encI n).length ∧ (encI n).length ≤ 10 := encI_length 9 n (by omega)

/-- Each is a byte's number. -/
theorem encI_byte (k : Nat) : ∀ n : Nat, n < 128 ^ (k + 1) → ∀ x ∈ encI n, 0 ≤ x ∧ x < 256 := by
  induction k with
  | zero => intro n h x hx; rw [encI_small (by omega)] at hx; simp at hx; omega
  | succ k ih =>
    intro n h x hx
    by_cases hn : n < 128
    · rw [encI_small hn] at hx; simp at hx; omega
    · rw [encI_great hn] at hx
      rcases List.mem_cons.1 hx with rfl | hx
      · omega
      · exact ih (n / 128) (by rw [Nat.pow_succ] at h; omega) x hx
theorem encI_bytes {n : Nat} (h : n < 18446744073709551616) : ∀ x ∈ encI n, 0 ≤ x ∧ x < 256 := encI_byte 9 n (by omega)

end Go.Proofs.Ytbbmblodabojeaa
