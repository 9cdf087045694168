/-
  frame's small functions: which kinds there are, how many bytes a frame has, why bytes don't begin with the mark.
-/
import Derived.Test.YtlnddmojmgelkaaPlainFrames
import Derived.Test.YtlnddmojmgelkaaPutCode
import Derived.Test.YtlnddmojmgelkaaSlices
namespace Go.Proofs.Ytlnddmojmgelkaa
open Go.RowKit

/-- Are there frames of that kind? -/
def knownB (n : Int) : Bool := decide (n = 1 ∨ n = 2)
theorem known_yes {n : Int} (h : n = 1 ∨ n = 2) (w : World) : Calls Try.prog 58 #[.int .i64 n] w fun e w' => e = .returned (.bool true) ∧ w = w' := by
  rcases h with rfl | rfl
  all_goals
    go_enter Try.func58, Try.ntmps58
    go_wp2
    go_ret
    exact ⟨rfl, rfl⟩
theorem known_no {n : Int} (h : ¬ (n = 1 ∨ n = 2)) (w : World) : Calls Try.prog 58 #[.int .i64 n] w fun e w' => e = .returned (.bool false) ∧ w = w' := by
  have h1 : (n == 1) = false := beq_eq_false_iff_ne.2 (by omega)
  have h2 : (n == 2) = false := beq_eq_false_iff_ne.2 (by omega)
  clear h
  go_enter Try.func58, Try.ntmps58
  go_wp2
  go_ret
  exact ⟨rfl, rfl⟩

/-- How many bytes a frame has. -/
def sizeI (n : Int) : Int := if 0 ≤ n ∧ n ≤ 4096 then 9 + (encI n.toNat).length + n else 0
theorem sizeI_ok {n : Nat} (h : n ≤ 4096) : sizeI n = ((9 + (encI n).length + n : Nat) : Int) := by
  unfold sizeI
  rw [if_pos ⟨by omega, by omega⟩, Int.toNat_natCast]
  omega
theorem sizeI_no {n : Int} (h : n < 0 ∨ 4096 < n) : sizeI n = 0 := by
  unfold sizeI
  rw [if_neg (by omega)]
set_option maxHeartbeats 1000000 in
theorem fsize_any (n : Int) (h1 : -9223372036854775808 ≤ n) (h2 : n ≤ 9223372036854775807) (w : World) :
    Calls Try.prog 23 #[.int .i64 n] w fun e w' => e = .returned (.int .i64 (sizeI n)) ∧ Below w.heap.size w w' := by
  by_cases hn : n < 0
  · rw [sizeI_no (.inl hn)]
    go_enter Try.func23, Try.ntmps23
    go_wp2_with fail
    go_ret
    exact ⟨rfl, Below.refl _ _⟩
  by_cases hg : 4096 < n
  · rw [sizeI_no (.inr hg)]
    have h0 : 0 ≤ n := by omega
    go_enter Try.func23, Try.ntmps23
    go_wp2_with fail
    go_ret
    exact ⟨rfl, Below.refl _ _⟩
  obtain ⟨m, rfl⟩ := Int.eq_ofNat_of_zero_le (show 0 ≤ n by omega)
  have hm : m ≤ 4096 := by omega
  have hl := encI_ten (n := m) (by omega)
  have hs := fun W => size_any m (by omega) W
  rw [sizeI_ok hm]
  generalize (encI m).length = L at hl hs ⊢
  have HS := Lib.hid hs
  obtain ⟨l1, l2⟩ := hl
  clear hs hn hg h1 h2
  go_enter Try.func23, Try.ntmps23
  go_wp2_with fail
  refine (HS.out _).mono ?_
  rintro e w1 ⟨rfl, hb1⟩
  go_wp2_with fail
  go_ret
  refine ⟨?_, hb1⟩
  show Ending.returned (.int .i64 (5 + (L : Int) + (m : Int) + 4)) = _
  rw [show 5 + (L : Int) + (m : Int) + 4 = ((9 + L + m : Nat) : Int) by omega]

theorem str_mark : strOfNums markL = ⟨#[199, 84, 71, 1]⟩ := by decide +kernel
theorem markL_byte : ∀ x ∈ markL, 0 ≤ x ∧ x < 256 := by decide

end Go.Proofs.Ytlnddmojmgelkaa
