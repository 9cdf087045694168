/-
  crc.shifted and the document's xor and Shift: what comes of 32 bits by eight shifts, as the plain mathematics says it.
-/
import Derived.Test.YtnjhkjlekepjoaaRows
import Derived.Test.YtnjhkjlekepjoaaPlains
import Derived.WalkKit
import Derived.WalkSpells
import Derived.WalkLawsBesides
import Derived.LoopTactic
import Derived.Lib.Hide
import Derived.Outline
import Derived.Laws.BitsAllLaws
namespace Go.Proofs.Ytnjhkjlekepjoaa
open Go.RowKit

theorem st_even {m : Nat} (h : m % 2 = 0) : st m = m / 2 := by unfold st; rw [if_neg (by omega), Nat.xor_zero]
theorem st_odd {m : Nat} (h : m % 2 = 1) : st m = m / 2 ^^^ 3988292384 := by unfold st; rw [if_pos h]; rfl
theorem it_next (k m : Nat) : it (k + 1) m = it k (st m) := rfl

set_option maxRecDepth 100000 in
set_option maxHeartbeats 1000000 in
theorem shifted_any (n : Nat) (hn : n < 4294967296) (w : World) :
    Calls Try.prog 77 #[.int .u32 n] w fun e w' => e = .returned (.int .u32 (it 8 n : Nat)) ∧ w = w' := by
  go_enter Try.func77, Try.ntmps77
  go_wp2
  go_loop [0, 4] (fun s i => ∃ k m : Nat, k ≤ 8 ∧ m < 4294967296 ∧ i = .int .i64 k ∧ s = .int .u32 m ∧ Hid (it (8 - k) m = it 8 n)) (fun _ i => 8 - (intOf i).toNat)
  case atStart => exact ⟨0, n, by omega, hn, rfl, rfl, Lib.hid rfl⟩
  case round =>
    obtain ⟨k, m, hk, hm, rfl, rfl, HI⟩ := hrel
    by_cases hlt : k < 8
    · have hnx : it (8 - (k + 1)) (st m) = it 8 n := by rw [← HI.out, ← it_next]; congr 1; omega
      have hsl := st_lt hm
      have hand := u32_and_nat m 1 hm (by omega)
      rw [nat_mask1] at hand
      rcases Nat.mod_two_eq_zero_or_one m with ho | ho
      · rw [ho] at hand
        rw [st_even ho] at hnx hsl
        have HN := Lib.hid hnx; clear hnx
        clear ho
        simp only [Int.natCast_one] at hand
        go_wp2_with fail
        go_round
        case rel => exact ⟨k + 1, m / 2, by omega, hsl, by go_num, by go_num, HN⟩
        case measure => simp [intOf]; omega
      · rw [ho] at hand
        rw [st_odd ho] at hnx hsl
        have hxor : bits .xor .u32 ((m : Int) / 2) 3988292384 = ((m / 2 ^^^ 3988292384 : Nat) : Int) := u32_xor_nat (m / 2) 3988292384 (by omega) (by omega)
        have HN := Lib.hid hnx; clear hnx
        clear ho
        simp only [Int.natCast_one] at hand
        go_wp2_with fail
        go_round
        case rel => exact ⟨k + 1, m / 2 ^^^ 3988292384, by omega, hsl, by go_num, by go_num, HN⟩
        case measure => simp [intOf]; omega
    · obtain rfl : k = 8 := by omega
      have he : m = it 8 n := HI.out
      have HE := Lib.hid he; clear he
      go_wp2_with fail
      go_ret
      exact ⟨by rw [HE.out]; rfl, rfl⟩

/-- Where the document's loop over bits stands. -/
def XInv (a b k x y o u : Nat) : Prop := x = a / 2 ^ k ∧ y = b / 2 ^ k ∧ o = (a ^^^ b) % 2 ^ k ∧ u = 2 ^ k % 4294967296
theorem XInv.start (a b : Nat) : XInv a b 0 a b 0 1 := ⟨by simp, by simp, by simp [Nat.mod_one], rfl⟩
theorem XInv.done {a b x y o u : Nat} (ha : a < 4294967296) (hb : b < 4294967296) (h : XInv a b 32 x y o u) : o = a ^^^ b := by
  obtain ⟨_, _, h3, _⟩ := h
  rw [h3]
  exact Nat.mod_eq_of_lt (Nat.xor_lt_two_pow (n := 32) ha hb)
theorem XInv.step {a b k x y o u : Nat} (ha : a < 4294967296) (hb : b < 4294967296) (hk : k < 32) (h : XInv a b k x y o u) :
    x < 4294967296 ∧ y < 4294967296 ∧ o + u < 4294967296 ∧ u ≤ 2147483648 ∧ (x % 2 = y % 2 → XInv a b (k + 1) (x / 2) (y / 2) o (2 * u % 4294967296)) ∧ (x % 2 ≠ y % 2 → XInv a b (k + 1) (x / 2) (y / 2) (o + u) (2 * u % 4294967296)) := by
  obtain ⟨h1, h2, h3, h4⟩ := h
  have hp : 2 ^ k ≤ 2147483648 := Nat.pow_le_pow_right (n := 2) (by omega) (show k ≤ 31 by omega)
  have hu : u = 2 ^ k := by rw [h4]; exact Nat.mod_eq_of_lt (by omega)
  have hx : x ≤ a := by rw [h1]; exact Nat.div_le_self _ _
  have hy : y ≤ b := by rw [h2]; exact Nat.div_le_self _ _
  have ho : o < 2 ^ k := by rw [h3]; exact Nat.mod_lt _ (Nat.two_pow_pos k)
  have e1 : x / 2 = a / 2 ^ (k + 1) := by rw [h1, Nat.pow_succ, Nat.div_div_eq_div_mul]
  have e2 : y / 2 = b / 2 ^ (k + 1) := by rw [h2, Nat.pow_succ, Nat.div_div_eq_div_mul]
  have e3 : (a ^^^ b) % 2 ^ (k + 1) = o + 2 ^ k * ((x + y) % 2) := by
    rw [Nat.pow_succ, Nat.mod_mul, ← h3, Nat.xor_div_two_pow, ← h1, ← h2, odd_xor, ← Nat.add_mod]
  have e4 : 2 * u % 4294967296 = 2 ^ (k + 1) % 4294967296 := by rw [hu, Nat.pow_succ, Nat.mul_comm]
  refine ⟨by omega, by omega, by omega, by omega, fun he => ⟨e1, e2, ?_, e4⟩, fun he => ⟨e1, e2, ?_, e4⟩⟩
  · rw [e3, show (x + y) % 2 = 0 by omega]; simp
  · rw [e3, show (x + y) % 2 = 1 by omega, hu]; simp

set_option maxRecDepth 100000 in
set_option maxHeartbeats 1000000 in
theorem rxor_any (a b : Nat) (ha : a < 4294967296) (hb : b < 4294967296) (w : World) :
    Calls Try.prog 65 #[.int .u32 a, .int .u32 b] w fun e w' => e = .returned (.int .u32 (a ^^^ b : Nat)) ∧ w = w' := by
  go_enter Try.func65, Try.ntmps65
  go_wp2
  go_loop [0, 1, 5, 6, 7] (fun s0 s1 s5 s6 s7 => ∃ k x y o u : Nat, k ≤ 32 ∧ s7 = .int .i64 k ∧ s0 = .int .u32 x ∧ s1 = .int .u32 y ∧ s5 = .int .u32 o ∧ s6 = .int .u32 u ∧ Hid (XInv a b k x y o u)) (fun _ _ _ _ i => 32 - (intOf i).toNat)
  case atStart => exact ⟨0, a, b, 0, 1, by omega, rfl, rfl, rfl, rfl, rfl, Lib.hid (XInv.start a b)⟩
  case round =>
    obtain ⟨k, x, y, o, u, hk, rfl, rfl, rfl, rfl, rfl, HI⟩ := hrel
    by_cases hlt : k < 32
    · obtain ⟨q1, q2, q3, q4, q5, q6⟩ := HI.out.step ha hb hlt
      have t1 : (x : Int).tmod 2 = (x : Int) % 2 := by rw [Int.tmod_eq_emod_of_nonneg (by omega)]
      have t2 : (y : Int).tmod 2 = (y : Int) % 2 := by rw [Int.tmod_eq_emod_of_nonneg (by omega)]
      have t3 : IntKind.u32.wrap (2 * (u : Int)) = ((2 * u % 4294967296 : Nat) : Int) := by rw [IntKind.wrap_u32]; omega
      have t4 : IntKind.u32.wrap ((o : Int) + (u : Int)) = ((o + u : Nat) : Int) := by rw [IntKind.wrap_u32]; omega
      by_cases he : x % 2 = y % 2
      · have HN := Lib.hid (q5 he)
        have ht : ((x : Int) % 2 != (y : Int) % 2) = false := by simp; omega
        clear q5 q6 he
        go_wp2_with fail
        go_round
        case rel => exact ⟨k + 1, x / 2, y / 2, o, 2 * u % 4294967296, by omega, by go_num, by go_num, by go_num, rfl, rfl, HN⟩
        case measure => simp [intOf]; omega
      · have HN := Lib.hid (q6 he)
        have ht : ((x : Int) % 2 != (y : Int) % 2) = true := by simp; omega
        clear q5 q6 he
        go_wp2_with fail
        go_round
        case rel => exact ⟨k + 1, x / 2, y / 2, o + u, 2 * u % 4294967296, by omega, by go_num, by go_num, by go_num, rfl, rfl, HN⟩
        case measure => simp [intOf]; omega
    · obtain rfl : k = 32 := by omega
      have he := HI.out.done ha hb
      have HE := Lib.hid he; clear he
      go_wp2_with fail
      go_ret
      exact ⟨by rw [← HE.out]; rfl, rfl⟩

set_option maxRecDepth 100000 in
set_option maxHeartbeats 1000000 in
/-- The document's eight shifts. -/
theorem rshift_any (n : Nat) (hn : n < 4294967296) (w : World) :
    Calls Try.prog 64 #[.int .u32 n] w fun e w' => e = .returned (.int .u32 (it 8 n : Nat)) ∧ w = w' := by
  go_enter Try.func64, Try.ntmps64
  go_wp2
  go_loop [0, 3] (fun s i => ∃ k m : Nat, k ≤ 8 ∧ m < 4294967296 ∧ i = .int .i64 k ∧ s = .int .u32 m ∧ Hid (it (8 - k) m = it 8 n)) (fun _ i => 8 - (intOf i).toNat)
  case atStart => exact ⟨0, n, by omega, hn, rfl, rfl, Lib.hid rfl⟩
  case round =>
    obtain ⟨k, m, hk, hm, rfl, rfl, HI⟩ := hrel
    by_cases hlt : k < 8
    · have hnx : it (8 - (k + 1)) (st m) = it 8 n := by rw [← HI.out, ← it_next]; congr 1; omega
      have hsl := st_lt hm
      have t1 : (m : Int).tmod 2 = (m : Int) % 2 := by rw [Int.tmod_eq_emod_of_nonneg (by omega)]
      rcases Nat.mod_two_eq_zero_or_one m with ho | ho
      · rw [st_even ho] at hnx hsl
        have HN := Lib.hid hnx; clear hnx
        have hb : ((m : Int) % 2 == 1) = false := beq_eq_false_iff_ne.2 (by omega)
        have HO := Lib.hid ho; clear ho
        go_wp2_with fail
        go_round
        case rel => exact ⟨k + 1, m / 2, by omega, hsl, by go_num, by go_num, HN⟩
        case measure => simp [intOf]; omega
      · rw [st_odd ho] at hnx hsl
        have hx := rxor_any (m / 2) 3988292384 (by omega) (by omega)
        rw [show ((m / 2 : Nat) : Int) = (m : Int) / 2 by omega] at hx
        have HX := Lib.hid hx; clear hx
        have HN := Lib.hid hnx; clear hnx
        have hb : ((m : Int) % 2 == 1) = true := beq_iff_eq.2 (by omega)
        have HO := Lib.hid ho; clear ho
        go_wp2_with fail
        refine (HX.out _).mono ?_
        rintro e w1 ⟨rfl, rfl⟩
        go_wp2_with fail
        go_round
        case rel => exact ⟨k + 1, m / 2 ^^^ 3988292384, by omega, hsl, by go_num, by go_num, HN⟩
        case measure => simp [intOf]; omega
    · obtain rfl : k = 8 := by omega
      have he : m = it 8 n := HI.out
      have HE := Lib.hid he; clear he
      go_wp2_with fail
      go_ret
      exact ⟨by rw [HE.out]; rfl, rfl⟩
#print axioms shifted_any
#print axioms rshift_any
end Go.Proofs.Ytnjhkjlekepjoaa
