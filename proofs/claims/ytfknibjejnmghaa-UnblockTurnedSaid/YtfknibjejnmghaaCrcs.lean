/-
  The program's shifts and the document's halves; crc.More, crc.Sum and crc.Bytes, and the document's Sum and Bytes.
-/
import Derived.Test.YtfknibjejnmghaaRows
import Derived.Test.YtfknibjejnmghaaPlains
import Derived.WalkKit
import Derived.WalkSpells
import Derived.WalkLawsBesides
import Derived.LoopTactic
import Derived.Lib.Hide
import Derived.Outline
import Derived.Laws.BitsAllLaws
import Derived.Test.YtfknibjejnmghaaSlices
import Derived.Lib.SliceRun
namespace Go.Proofs.Ytfknibjejnmghaa
open Go.RowKit

theorem st_even {m : Nat} (h : m % 2 = 0) : st m = m / 2 := by unfold st; rw [if_neg (by omega), Nat.xor_zero]
theorem st_odd {m : Nat} (h : m % 2 = 1) : st m = m / 2 ^^^ 3988292384 := by unfold st; rw [if_pos h]; rfl
theorem it_next (k m : Nat) : it (k + 1) m = it k (st m) := rfl

set_option maxRecDepth 100000 in
set_option maxHeartbeats 1000000 in
theorem shifted_any (n : Nat) (hn : n < 4294967296) (w : World) :
    Calls Try.prog 107 #[.int .u32 n] w fun e w' => e = .returned (.int .u32 (it 8 n : Nat)) ∧ w = w' := by
  go_enter Try.func107, Try.ntmps107
  go_wp2
  go_loop [0, 4] (fun s i => ∃ k m : Nat, k ≤ 8 ∧ m < 4294967296 ∧ i = .int .i64 k ∧ s = .int .u32 m ∧ Hid (it (8 - k) m = it 8 n)) (fun _ i => 8 - (intOf i).toNat)
  case atStart => exact ⟨0, n, by omega, hn, rfl, rfl, Lib.hid rfl⟩
  case round =>
    obtain ⟨k, m, hk, hm, rfl, rfl, HI⟩ := hrel
    by_cases hlt : k < 8
    · have hnx : it (8 - (k + 1)) (st m) = it 8 n := by rw [← HI.out, ← it_next]; congr 1; omega
      have hsl := st_lt hm
      have hand := u32_and_nat m 1 hm (by omega)
      rw [nat_mask1] at hand
      rcases Nat.mod_two_eq_zero_or_one m with ho | ho
      · rw [ho] at hand
        rw [st_even ho] at hnx hsl
        have HN := Lib.hid hnx; clear hnx
        clear ho
        simp only [Int.natCast_one] at hand
        go_wp2_with fail
        go_round
        case rel => exact ⟨k + 1, m / 2, by omega, hsl, by go_num, by go_num, HN⟩
        case measure => simp [intOf]; omega
      · rw [ho] at hand
        rw [st_odd ho] at hnx hsl
        have hxor : bits .xor .u32 ((m : Int) / 2) 3988292384 = ((m / 2 ^^^ 3988292384 : Nat) : Int) := u32_xor_nat (m / 2) 3988292384 (by omega) (by omega)
        have HN := Lib.hid hnx; clear hnx
        clear ho
        simp only [Int.natCast_one] at hand
        go_wp2_with fail
        go_round
        case rel => exact ⟨k + 1, m / 2 ^^^ 3988292384, by omega, hsl, by go_num, by go_num, HN⟩
        case measure => simp [intOf]; omega
    · obtain rfl : k = 8 := by omega
      have he : m = it 8 n := HI.out
      have HE := Lib.hid he; clear he
      go_wp2_with fail
      go_ret
      exact ⟨by rw [HE.out]; rfl, rfl⟩

/-- Where the document's loop over bits stands. -/
def XInv (a b k x y o u : Nat) : Prop := x = a / 2 ^ k ∧ y = b / 2 ^ k ∧ o = (a ^^^ b) % 2 ^ k ∧ u = 2 ^ k % 4294967296
theorem XInv.start (a b : Nat) : XInv a b 0 a b 0 1 := ⟨by simp, by simp, by simp [Nat.mod_one], rfl⟩
theorem XInv.done {a b x y o u : Nat} (ha : a < 4294967296) (hb : b < 4294967296) (h : XInv a b 32 x y o u) : o = a ^^^ b := by
  obtain ⟨_, _, h3, _⟩ := h
  rw [h3]
  exact Nat.mod_eq_of_lt (Nat.xor_lt_two_pow (n := 32) ha hb)
theorem XInv.step {a b k x y o u : Nat} (ha : a < 4294967296) (hb : b < 4294967296) (hk : k < 32) (h : XInv a b k x y o u) :
    x < 4294967296 ∧ y < 4294967296 ∧ o + u < 4294967296 ∧ u ≤ 2147483648 ∧ (x % 2 = y % 2 → XInv a b (k + 1) (x / 2) (y / 2) o (2 * u % 4294967296)) ∧ (x % 2 ≠ y % 2 → XInv a b (k + 1) (x / 2) (y / 2) (o + u) (2 * u % 4294967296)) := by
  obtain ⟨h1, h2, h3, h4⟩ := h
  have hp : 2 ^ k ≤ 2147483648 := Nat.pow_le_pow_right (n := 2) (by omega) (show k ≤ 31 by omega)
  have hu : u = 2 ^ k := by rw [h4]; exact Nat.mod_eq_of_lt (by omega)
  have hx : x ≤ a := by rw [h1]; exact Nat.div_le_self _ _
  have hy : y ≤ b := by rw [h2]; exact Nat.div_le_self _ _
  have ho : o < 2 ^ k := by rw [h3]; exact Nat.mod_lt _ (Nat.two_pow_pos k)
  have e1 : x / 2 = a / 2 ^ (k + 1) := by rw [h1, Nat.pow_succ, Nat.div_div_eq_div_mul]
  have e2 : y / 2 = b / 2 ^ (k + 1) := by rw [h2, Nat.pow_succ, Nat.div_div_eq_div_mul]
  have e3 : (a ^^^ b) % 2 ^ (k + 1) = o + 2 ^ k * ((x + y) % 2) := by
    rw [Nat.pow_succ, Nat.mod_mul, ← h3, Nat.xor_div_two_pow, ← h1, ← h2, odd_xor, ← Nat.add_mod]
  have e4 : 2 * u % 4294967296 = 2 ^ (k + 1) % 4294967296 := by rw [hu, Nat.pow_succ, Nat.mul_comm]
  refine ⟨by omega, by omega, by omega, by omega, fun he => ⟨e1, e2, ?_, e4⟩, fun he => ⟨e1, e2, ?_, e4⟩⟩
  · rw [e3, show (x + y) % 2 = 0 by omega]; simp
  · rw [e3, show (x + y) % 2 = 1 by omega, hu]; simp

set_option maxRecDepth 100000 in
set_option maxHeartbeats 1000000 in
theorem rxor_any (a b : Nat) (ha : a < 4294967296) (hb : b < 4294967296) (w : World) :
    Calls Try.prog 99 #[.int .u32 a, .int .u32 b] w fun e w' => e = .returned (.int .u32 (a ^^^ b : Nat)) ∧ w = w' := by
  go_enter Try.func99, Try.ntmps99
  go_wp2
  go_loop [0, 1, 5, 6, 7] (fun s0 s1 s5 s6 s7 => ∃ k x y o u : Nat, k ≤ 32 ∧ s7 = .int .i64 k ∧ s0 = .int .u32 x ∧ s1 = .int .u32 y ∧ s5 = .int .u32 o ∧ s6 = .int .u32 u ∧ Hid (XInv a b k x y o u)) (fun _ _ _ _ i => 32 - (intOf i).toNat)
  case atStart => exact ⟨0, a, b, 0, 1, by omega, rfl, rfl, rfl, rfl, rfl, Lib.hid (XInv.start a b)⟩
  case round =>
    obtain ⟨k, x, y, o, u, hk, rfl, rfl, rfl, rfl, rfl, HI⟩ := hrel
    by_cases hlt : k < 32
    · obtain ⟨q1, q2, q3, q4, q5, q6⟩ := HI.out.step ha hb hlt
      have t1 : (x : Int).tmod 2 = (x : Int) % 2 := by rw [Int.tmod_eq_emod_of_nonneg (by omega)]
      have t2 : (y : Int).tmod 2 = (y : Int) % 2 := by rw [Int.tmod_eq_emod_of_nonneg (by omega)]
      have t3 : IntKind.u32.wrap (2 * (u : Int)) = ((2 * u % 4294967296 : Nat) : Int) := by rw [IntKind.wrap_u32]; omega
      have t4 : IntKind.u32.wrap ((o : Int) + (u : Int)) = ((o + u : Nat) : Int) := by rw [IntKind.wrap_u32]; omega
      by_cases he : x % 2 = y % 2
      · have HN := Lib.hid (q5 he)
        have ht : ((x : Int) % 2 != (y : Int) % 2) = false := by simp; omega
        clear q5 q6 he
        go_wp2_with fail
        go_round
        case rel => exact ⟨k + 1, x / 2, y / 2, o, 2 * u % 4294967296, by omega, by go_num, by go_num, by go_num, rfl, rfl, HN⟩
        case measure => simp [intOf]; omega
      · have HN := Lib.hid (q6 he)
        have ht : ((x : Int) % 2 != (y : Int) % 2) = true := by simp; omega
        clear q5 q6 he
        go_wp2_with fail
        go_round
        case rel => exact ⟨k + 1, x / 2, y / 2, o + u, 2 * u % 4294967296, by omega, by go_num, by go_num, by go_num, rfl, rfl, HN⟩
        case measure => simp [intOf]; omega
    · obtain rfl : k = 32 := by omega
      have he := HI.out.done ha hb
      have HE := Lib.hid he; clear he
      go_wp2_with fail
      go_ret
      exact ⟨by rw [← HE.out]; rfl, rfl⟩

set_option maxRecDepth 100000 in
set_option maxHeartbeats 1000000 in
/-- The document's eight shifts. -/
theorem rshift_any (n : Nat) (hn : n < 4294967296) (w : World) :
    Calls Try.prog 98 #[.int .u32 n] w fun e w' => e = .returned (.int .u32 (it 8 n : Nat)) ∧ w = w' := by
  go_enter Try.func98, Try.ntmps98
  go_wp2
  go_loop [0, 3] (fun s i => ∃ k m : Nat, k ≤ 8 ∧ m < 4294967296 ∧ i = .int .i64 k ∧ s = .int .u32 m ∧ Hid (it (8 - k) m = it 8 n)) (fun _ i => 8 - (intOf i).toNat)
  case atStart => exact ⟨0, n, by omega, hn, rfl, rfl, Lib.hid rfl⟩
  case round =>
    obtain ⟨k, m, hk, hm, rfl, rfl, HI⟩ := hrel
    by_cases hlt : k < 8
    · have hnx : it (8 - (k + 1)) (st m) = it 8 n := by rw [← HI.out, ← it_next]; congr 1; omega
      have hsl := st_lt hm
      have t1 : (m : Int).tmod 2 = (m : Int) % 2 := by rw [Int.tmod_eq_emod_of_nonneg (by omega)]
      rcases Nat.mod_two_eq_zero_or_one m with ho | ho
      · rw [st_even ho] at hnx hsl
        have HN := Lib.hid hnx; clear hnx
        have hb : ((m : Int) % 2 == 1) = false := beq_eq_false_iff_ne.2 (by omega)
        have HO := Lib.hid ho; clear ho
        go_wp2_with fail
        go_round
        case rel => exact ⟨k + 1, m / 2, by omega, hsl, by go_num, by go_num, HN⟩
        case measure => simp [intOf]; omega
      · rw [st_odd ho] at hnx hsl
        have hx := rxor_any (m / 2) 3988292384 (by omega) (by omega)
        rw [show ((m / 2 : Nat) : Int) = (m : Int) / 2 by omega] at hx
        have HX := Lib.hid hx; clear hx
        have HN := Lib.hid hnx; clear hnx
        have hb : ((m : Int) % 2 == 1) = true := beq_iff_eq.2 (by omega)
        have HO := Lib.hid ho; clear ho
        go_wp2_with fail
        refine (HX.out _).mono ?_
        rintro e w1 ⟨rfl, rfl⟩
        go_wp2_with fail
        go_round
        case rel => exact ⟨k + 1, m / 2 ^^^ 3988292384, by omega, hsl, by go_num, by go_num, HN⟩
        case measure => simp [intOf]; omega
    · obtain rfl : k = 8 := by omega
      have he : m = it 8 n := HI.out
      have HE := Lib.hid he; clear he
      go_wp2_with fail
      go_ret
      exact ⟨by rw [HE.out]; rfl, rfl⟩
#print axioms shifted_any
#print axioms rshift_any
end Go.Proofs.Ytfknibjejnmghaa

namespace Go.Proofs.Ytfknibjejnmghaa
open Go.RowKit

/-- Bytes as natural numbers. -/
def toN (xs : List Int) : List Nat := xs.map Int.toNat
theorem toN_length (xs : List Int) : (toN xs).length = xs.length := List.length_map _
theorem toN_append (xs ys : List Int) : toN (xs ++ ys) = toN xs ++ toN ys := List.map_append
theorem toN_byte {xs : List Int} (hb : ∀ x ∈ xs, 0 ≤ x ∧ x < 256) : ∀ x ∈ toN xs, x < 256 := by
  intro x hx
  obtain ⟨y, hy, rfl⟩ := List.mem_map.1 hx
  have := hb y hy
  omega
theorem state_next (n : Nat) (xs : List Int) {k : Nat} (hk : k < xs.length) : stateI n (toN (xs.take (k + 1))) = it 8 (stateI n (toN (xs.take k)) ^^^ (xs.getD k 0).toNat) := by
  have h : xs.take (k + 1) = xs.take k ++ [xs.getD k 0] := by rw [List.take_succ_eq_append_getElem hk]; simp [List.getD, List.getElem?_eq_getElem hk]
  rw [h, toN_append, state_append]
  rfl
theorem compl_xor {n : Nat} (hn : n < 4294967296) : 4294967295 - n = 4294967295 ^^^ n := by
  have h := congrArg BitVec.toNat (BitVec.allOnes_xor (x := BitVec.ofNat 32 n))
  rw [BitVec.toNat_xor, BitVec.toNat_not, BitVec.toNat_ofNat, BitVec.toNat_allOnes, Nat.mod_eq_of_lt (by omega)] at h
  exact h.symm
theorem max_xor (n : Nat) (hn : n < 4294967296) : bits .xor .u32 IntKind.u32.max (n : Int) = ((4294967295 ^^^ n : Nat) : Int) := u32_xor_nat 4294967295 n (by omega) hn
/-- The sum of bytes. -/
def sumX (xs : List Int) : Nat := sumI (toN xs)

set_option maxRecDepth 100000 in
set_option maxHeartbeats 1000000 in
theorem more_any (n : Nat) (hn : n < 4294967296) (A : Option Addr) (c : Nat) (xs : List Int) (w : World) (hrow : Row w w.heap.size (.slice A xs.length c) xs) (hb : ∀ x ∈ xs, 0 ≤ x ∧ x < 256) :
    Calls Try.prog 97 #[.int .u32 n, .slice A xs.length c] w fun e w' => e = .returned (.int .u32 (4294967295 ^^^ stateI (4294967295 ^^^ n) (toN xs) : Nat)) ∧ w = w' := by
  obtain ⟨A', c', hv, hlc, hcm, _, hcells⟩ := hrow
  injection hv with h1 h2 h3
  subst h1 h3
  unfold maxLen at hcm
  have hsz : xs.length ≤ 9223372036854775807 := by omega
  have HC := Lib.hid hcells; clear hcells
  have HB := Lib.hid hb; clear hb
  have hst : (4294967295 ^^^ n) < 4294967296 := Nat.xor_lt_two_pow (n := 32) (by omega) hn
  have hm0 := max_xor n hn
  generalize 4294967295 ^^^ n = n0 at hst hm0 ⊢
  go_enter Try.func97, Try.ntmps97
  go_wp2
  go_loop [5, 12] (fun s i => ∃ k m : Nat, k ≤ xs.length ∧ m < 4294967296 ∧ i = .int .i64 k ∧ s = .int .u32 m ∧ Hid (m = stateI n0 (toN (xs.take k)))) (fun _ i => xs.length - (intOf i).toNat)
  case atStart => exact ⟨0, n0, Nat.zero_le _, hst, rfl, rfl, Lib.hid rfl⟩
  case round =>
    obtain ⟨k, m, hk, hm, rfl, rfl, HI⟩ := hrel
    by_cases hlt : k < xs.length
    · obtain ⟨b, o, rfl, _, hc⟩ := HC.out (by omega)
      have hck := hc k (by omega)
      clear hc
      have hin : xs.getD k 0 ∈ xs := by rw [List.getD, List.getElem?_eq_getElem (by omega)]; simp
      obtain ⟨y0, y1⟩ := HB.out _ hin
      clear hin
      have hnx := state_next n0 xs hlt
      rw [← HI.out] at hnx
      obtain ⟨y, hy⟩ := Int.eq_ofNat_of_zero_le y0
      rw [hy] at hck hnx y1
      rw [Int.toNat_natCast] at hnx
      clear hy y0
      have hxor := u32_xor_nat m y hm (by omega)
      have hms : m ^^^ y < 4294967296 := Nat.xor_lt_two_pow (n := 32) hm (by omega)
      generalize m ^^^ y = z at hnx hxor hms
      have HN := Lib.hid hnx; clear hnx HI
      have hz := it_lt 8 hms
      go_wp2_with fail
      refine (shifted_any z hms _).mono ?_
      rintro e w1 ⟨rfl, rfl⟩
      go_wp2_with fail
      go_round
      case rel => exact ⟨k + 1, it 8 z, by omega, hz, by go_num, rfl, Lib.hid HN.out.symm⟩
      case measure => simp [intOf]; omega
    · obtain rfl : k = xs.length := by omega
      have he : m = stateI n0 (toN xs) := by rw [HI.out, List.take_length]
      have hmx := max_xor m hm
      have HE := Lib.hid he
      clear he HI hm hm0
      go_wp2_with fail
      go_ret
      exact ⟨by rw [← HE.out]; rfl, rfl⟩
#print axioms more_any

/-- The slice of slices v reads as the parts xss. -/
def Parts (w : World) (B : Nat) (v : Value) (xss : List (List Int)) : Prop :=
  ∃ us, VRow w B v us ∧ us.length = xss.length ∧ ∀ (i : Nat) (u : Value) (xs : List Int), us[i]? = some u → xss[i]? = some xs → Row w B u xs
theorem Parts.below {w w' : World} {B : Nat} {v : Value} {xss : List (List Int)} (h : Parts w B v xss) (hb : Below B w w') : Parts w' B v xss := by
  obtain ⟨us, h1, h2, h3⟩ := h
  exact ⟨us, h1.below hb, h2, fun i u xs e1 e2 => (h3 i u xs e1 e2).below hb⟩
theorem Parts.none_ (w : World) (B : Nat) : Parts w B (.slice none 0 0) [] := ⟨[], VRow.nil w B, rfl, fun i u xs h => by simp at h⟩
theorem Parts.one {w : World} {B g : Nat} {u : Value} {xs : List Int} (hg : g < B) (hc : w.cell? ⟨g, 0, none⟩ = some u) (h : Row w B u xs) : Parts w B (.slice (some ⟨g, 0, none⟩) 1 1) [xs] :=
  ⟨[u], ⟨_, 1, rfl, Nat.le_refl _, by simp [maxLen], by simp, fun _ => ⟨g, 0, rfl, hg, fun i u' hi => by
    match i with
    | 0 => simp at hi; subst hi; exact hc
    | i + 1 => simp at hi⟩⟩, rfl, fun i u' ys h1 h2 => by
    match i with
    | 0 => simp at h1 h2; subst h1 h2; exact h
    | i + 1 => simp at h1⟩
theorem Parts.two {w : World} {B g : Nat} {u u2 : Value} {xs ys : List Int} (hg : g < B) (hc : w.cell? ⟨g, 0, none⟩ = some u) (hc2 : w.cell? ⟨g, 1, none⟩ = some u2) (h : Row w B u xs) (h2 : Row w B u2 ys) : Parts w B (.slice (some ⟨g, 0, none⟩) 2 2) [xs, ys] :=
  ⟨[u, u2], ⟨_, 2, rfl, Nat.le_refl _, by simp [maxLen], by simp, fun _ => ⟨g, 0, rfl, hg, fun i u' hi => by
    match i with
    | 0 => simp at hi; subst hi; exact hc
    | 1 => simp at hi; subst hi; exact hc2
    | i + 2 => simp at hi⟩⟩, rfl, fun i u' zs h3 h4 => by
    match i with
    | 0 => simp at h3 h4; subst h3 h4; exact h
    | 1 => simp at h3 h4; subst h3 h4; exact h2
    | i + 2 => simp at h3⟩

theorem sumX_more (xs ys : List Int) : sumX (xs ++ ys) = 4294967295 ^^^ stateI (4294967295 ^^^ sumX xs) (toN ys) := by
  unfold sumX
  rw [toN_append, sum_more]
theorem sumX_lt {xs : List Int} (hb : ∀ x ∈ xs, 0 ≤ x ∧ x < 256) : sumX xs < 4294967296 := sum_lt (toN_byte hb)
theorem sumX_nil : sumX [] = 0 := by decide

set_option maxRecDepth 100000 in
set_option maxHeartbeats 1000000 in
theorem sum_any (v : Value) (xss : List (List Int)) (w : World) (h : Parts w w.heap.size v xss) (hb : ∀ xs ∈ xss, ∀ x ∈ xs, 0 ≤ x ∧ x < 256) :
    Calls Try.prog 68 #[v] w fun e w' => e = .returned (.int .u32 (sumX xss.flatten : Nat)) ∧ w = w' := by
  obtain ⟨us, ⟨A, c, rfl, hlc, hcm, _, hcells⟩, hul, hrow⟩ := h
  unfold maxLen at hcm
  have hsz : us.length ≤ 9223372036854775807 := by omega
  have HC := Lib.hid hcells; clear hcells
  have HB := Lib.hid hb; clear hb
  have HR := Lib.hid hrow; clear hrow
  have HU := Lib.hid hul; clear hul
  go_enter Try.func68, Try.ntmps68
  go_wp2
  go_loop [3, 8] (fun s i => ∃ k m : Nat, k ≤ us.length ∧ m < 4294967296 ∧ i = .int .i64 k ∧ s = .int .u32 m ∧ Hid (m = sumX (xss.take k).flatten)) (fun _ i => us.length - (intOf i).toNat)
  case atStart => exact ⟨0, 0, Nat.zero_le _, by omega, rfl, rfl, Lib.hid (by simp [sumX_nil])⟩
  case round =>
    obtain ⟨k, m, hk, hm, rfl, rfl, HI⟩ := hrel
    by_cases hlt : k < us.length
    · obtain ⟨b, o, rfl, _, hc⟩ := HC.out (by omega)
      have hue : us[k]? = some us[k] := List.getElem?_eq_getElem hlt
      have hck := hc k _ hue
      clear hc
      have hlx : k < xss.length := by rw [← HU.out]; exact hlt
      have hxe : xss[k]? = some xss[k] := List.getElem?_eq_getElem hlx
      have hr := HR.out k _ _ hue hxe
      have hbx := HB.out xss[k] (List.getElem_mem hlx)
      have hnx : sumX (xss.take (k + 1)).flatten = 4294967295 ^^^ stateI (4294967295 ^^^ m) (toN xss[k]) := by
        rw [List.take_succ_eq_append_getElem hlx, List.flatten_append, HI.out, ← sumX_more]
        simp
      clear hue hxe
      generalize us[k] = u at *
      generalize xss[k] = xs at *
      obtain ⟨A2, c2, rfl, _⟩ := id hr
      have HM := Lib.hid (more_any m hm A2 c2 xs w hr hbx)
      have hlt2 : sumX (xss.take (k + 1)).flatten < 4294967296 := sumX_lt (fun x hx => by
        obtain ⟨ys, hys, hx⟩ := List.mem_flatten.1 hx
        exact HB.out ys (List.mem_of_mem_take hys) x hx)
      rw [← hnx] at HM
      clear hnx HI hr hbx
      obtain ⟨m2, HS⟩ : ∃ m2, Hid (m2 = sumX (xss.take (k + 1)).flatten) := ⟨_, Lib.hid rfl⟩
      rw [← HS.out] at HM hlt2
      go_wp2_with fail
      refine HM.out.mono ?_
      rintro e w1 ⟨rfl, rfl⟩
      go_wp2_with fail
      go_round
      case rel => exact ⟨k + 1, m2, by omega, hlt2, by go_num, rfl, Lib.hid HS.out⟩
      case measure => simp [intOf]; omega
    · obtain rfl : k = us.length := by omega
      have he : m = sumX xss.flatten := by rw [HI.out, HU.out, List.take_length]
      have HE := Lib.hid he
      clear he HI
      go_wp2_with fail
      go_ret
      exact ⟨by rw [← HE.out]; rfl, rfl⟩
#print axioms sum_any
end Go.Proofs.Ytfknibjejnmghaa

namespace Go.Proofs.Ytfknibjejnmghaa
open Go.RowKit

/-- A sum's four bytes, the lowest first. -/
def le4 (n : Nat) : List Int := [(n : Int) % 256, (n : Int) / 256 % 256, (n : Int) / 65536 % 256, (n : Int) / 16777216]
theorem le4_byte {n : Nat} (hn : n < 4294967296) : ∀ x ∈ le4 n, 0 ≤ x ∧ x < 256 := by
  intro x hx
  simp only [le4, List.mem_cons, List.not_mem_nil, or_false] at hx
  rcases hx with rfl | rfl | rfl | rfl <;> omega
theorem le4_length (n : Nat) : (le4 n).length = 4 := rfl
theorem le4_inj {a b : Nat} (ha : a < 4294967296) (hb : b < 4294967296) (h : le4 a = le4 b) : a = b := by
  simp only [le4, List.cons.injEq, and_true] at h
  omega
/-- The same as an array's value. -/
def le4V (n : Nat) : Value := .agg #[.int .u8 ((n : Int) % 256), .int .u8 ((n : Int) / 256 % 256), .int .u8 ((n : Int) / 65536 % 256), .int .u8 ((n : Int) / 16777216)]

set_option maxRecDepth 100000 in
set_option maxHeartbeats 1000000 in
theorem four_any (n : Nat) (hn : n < 4294967296) (w : World) :
    Calls Try.prog 67 #[.int .u32 n] w fun e w' => e = .returned (le4V n) ∧ Below w.heap.size w w' := by
  go_enter Try.func67, Try.ntmps67
  go_wp2
  exact bodyPost_ret (v := le4V n) (by simp [results, Try.results67, go_sem, le4V]) rfl ⟨rfl, (Below.refl _ _).alloc (Nat.le_refl _) _⟩

/-- string([]byte{..}), of a slice of four cells, wherever that lies. -/
theorem conv_four (W : World) (b : Nat) (x0 x1 x2 x3 : Int) (h0 : W.cell? ⟨b, 0, none⟩ = some (.int .u8 x0)) (h1 : W.cell? ⟨b, 1, none⟩ = some (.int .u8 x1)) (h2 : W.cell? ⟨b, 2, none⟩ = some (.int .u8 x2)) (h3 : W.cell? ⟨b, 3, none⟩ = some (.int .u8 x3)) :
    (convert 46 9 (.slice (some ⟨b, 0, none⟩) 4 4)).run Try.prog W = .ok (.string (strOfNums [x0, x1, x2, x3])) W := by
  refine run_convert_bytes_arg (P := Try.prog) W 46 5 Try.underlying46 Try.underlying5 b 0 4 4 [x0, x1, x2, x3] rfl ?_ 9 Try.underlying9
  intro i hi
  rcases (by omega : i = 0 ∨ i = 1 ∨ i = 2 ∨ i = 3) with rfl | rfl | rfl | rfl
  · simpa using h0
  · simpa using h1
  · simpa using h2
  · simpa using h3

set_option maxRecDepth 100000 in
set_option maxHeartbeats 1000000 in
theorem rfour_any (n : Nat) (hn : n < 4294967296) (w : World) :
    Calls Try.prog 71 #[.int .u32 n] w fun e w' => e = .returned (.string (strOfNums (le4 n))) ∧ Below w.heap.size w w' := by
  have hcv := fun W b => conv_four W b ((n : Int) % 256) ((n : Int) / 256 % 256) ((n : Int) / 65536 % 256) ((n : Int) / 16777216)
  go_enter Try.func71, Try.ntmps71
  go_wp2
  go_ret
  exact ⟨rfl, (Below.refl _ _).alloc (Nat.le_refl _) _⟩

set_option maxRecDepth 100000 in
set_option maxHeartbeats 1000000 in
theorem rsum_any (xs : List Int) (hb : ∀ x ∈ xs, 0 ≤ x ∧ x < 256) (hl : xs.length ≤ 9223372036854775807) (w : World) :
    Calls Try.prog 72 #[.string (strOfNums xs)] w fun e w' => e = .returned (.int .u32 (sumX xs : Nat)) ∧ w = w' := by
  have hsz := strOfNums_size xs
  have HB := Lib.hid hb; clear hb
  have hlt2 : ∀ k, stateI 4294967295 (toN (xs.take k)) < 4294967296 := fun k => state_lt _ (by omega) (toN_byte (fun x hx => HB.out x (List.mem_of_mem_take hx)))
  have HL := Lib.hid hlt2; clear hlt2
  go_enter Try.func72, Try.ntmps72
  go_wp2
  go_loop [3, 4] (fun s i => ∃ k m : Nat, k ≤ xs.length ∧ m < 4294967296 ∧ i = .int .i64 k ∧ s = .int .u32 m ∧ Hid (m = stateI 4294967295 (toN (xs.take k)))) (fun _ i => xs.length - (intOf i).toNat)
  case atStart => exact ⟨0, 4294967295, Nat.zero_le _, by omega, rfl, rfl, Lib.hid rfl⟩
  case round =>
    obtain ⟨k, m, hk, hm, rfl, rfl, HI⟩ := hrel
    by_cases hlt : k < xs.length
    · have hin : xs.getD k 0 ∈ xs := by rw [List.getD, List.getElem?_eq_getElem (by omega)]; simp
      obtain ⟨y0, y1⟩ := HB.out _ hin
      clear hin
      have hat := str_at xs HB.out k hlt (by omega)
      have hnx := state_next 4294967295 xs hlt
      rw [← HI.out] at hnx
      obtain ⟨y, hy⟩ := Int.eq_ofNat_of_zero_le y0
      rw [hy] at hat hnx y1
      rw [Int.toNat_natCast] at hnx
      clear hy y0
      have hms : m ^^^ y < 4294967296 := Nat.xor_lt_two_pow (n := 32) hm (by omega)
      have HX := Lib.hid (rxor_any m y hm (by omega))
      generalize m ^^^ y = z at hnx HX hms
      have HN := Lib.hid hnx; clear hnx HI
      have hz := it_lt 8 hms
      go_wp2_with fail
      refine (HX.out _).mono ?_
      rintro e w1 ⟨rfl, rfl⟩
      go_wp2_with fail
      refine (rshift_any z hms _).mono ?_
      rintro e w2 ⟨rfl, rfl⟩
      go_wp2_with fail
      go_round
      case rel => exact ⟨k + 1, it 8 z, by omega, hz, by go_num, rfl, Lib.hid HN.out.symm⟩
      case measure => simp [intOf]; omega
    · obtain rfl : k = xs.length := by omega
      have he : 4294967295 - m = sumX xs := by rw [compl_xor hm, HI.out, List.take_length]; rfl
      have hw : IntKind.u32.wrap (4294967295 - (m : Int)) = ((sumX xs : Nat) : Int) := by rw [IntKind.wrap_u32, ← he]; omega
      clear HI he
      go_wp2_with fail
      go_ret
      exact ⟨rfl, rfl⟩
#print axioms four_any
#print axioms rfour_any
#print axioms rsum_any
end Go.Proofs.Ytfknibjejnmghaa
