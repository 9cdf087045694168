/-
  find.Count: at how many places frames begin.
-/
import Derived.Test.YtbbmblodabojeaaFindNext
namespace Go.Proofs.Ytbbmblodabojeaa
open Go.RowKit

theorem count_skip {q : Nat → Bool} {a : Nat} : ∀ n : Nat, (∀ j, a ≤ j → j < a + n → q j = false) → countI q (a + n) = countI q a
  | 0, _ => rfl
  | n + 1, h => by
    rw [← Nat.add_assoc, countI, count_skip n (fun j h1 h2 => h j h1 (by omega)), h (a + n) (by omega) (by omega)]
    simp
theorem count_skip' {q : Nat → Bool} {a b : Nat} (hab : a ≤ b) (h : ∀ j, a ≤ j → j < b → q j = false) : countI q b = countI q a := by
  obtain ⟨n, rfl⟩ := Nat.le.dest hab
  exact count_skip n h
theorem next_cases (opn : Bool) (xs : List Int) (s : Nat) (hs : s ≤ xs.length) : (nextI opn xs s = -1 ∧ countI (begI opn xs) xs.length = countI (begI opn xs) s) ∨
    ∃ m : Nat, nextI opn xs s = (m : Int) ∧ s ≤ m ∧ m < xs.length ∧ countI (begI opn xs) (m + 1) = countI (begI opn xs) s + 1 := by
  unfold nextI
  rw [Int.toNat_natCast]
  rcases first_cases (begI opn xs) (xs.length - s) s with ⟨e, hn⟩ | ⟨r, e, q1, q2, q3, q4⟩
  · exact .inl ⟨e, count_skip' hs (fun j h1 h2 => hn j h1 (by omega))⟩
  · refine .inr ⟨r, e, q1, by omega, ?_⟩
    rw [countI, count_skip' q1 q4, q3]
    simp

set_option maxRecDepth 100000 in
set_option maxHeartbeats 1000000 in
theorem count_any (A : Option Addr) (c : Nat) (xs : List Int) (hsm : xs.length ≤ 9223372036854775807) (w : World) (hrow : Row w w.heap.size (.slice A xs.length c) xs) (hb : ∀ x ∈ xs, 0 ≤ x ∧ x < 256) :
    Calls Try.prog 27 #[.slice A xs.length c] w fun e w' => e = .returned (.int .i64 (countI (begI false xs) xs.length)) ∧ Below w.heap.size w w' := by
  have HNX := Lib.hid (fun W (h : Row W W.heap.size (.slice A xs.length c) xs) (s : Int) h1 h2 => next_any A c xs hsm W h hb s h1 h2)
  have HC := Lib.hid (next_cases false xs)
  have HROW := Lib.hid hrow
  clear hrow hb
  have HN0 := Lib.hid (HNX.out w HROW.out 0 (by omega) (by omega))
  have hc0 : countI (begI false xs) 0 = 0 := rfl
  have hcl := count_le (begI false xs)
  generalize countI (begI false xs) = cnt at HC hc0 hcl ⊢
  have HCL := Lib.hid hcl
  have HC0 := Lib.hid hc0
  clear hcl hc0
  obtain ⟨r0, hr0⟩ : ∃ r, nextI false xs 0 = r := ⟨_, rfl⟩
  rw [hr0] at HN0
  have HR0 := Lib.hid hr0; clear hr0
  go_enter Try.func27, Try.ntmps27
  go_wp2_with fail
  refine HN0.out.mono ?_
  rintro e w1 ⟨rfl, hb1⟩
  have HB1 := Lib.hid hb1; clear hb1
  go_wp2_with fail
  go_loopg [3, 4, 5] xs.length (fun g n p f wr => ∃ (k s : Nat) (r : Int), n = .int .i64 k ∧ p = .int .i64 (max r 0) ∧ f = .bool (decide (0 ≤ r)) ∧ Hid (nextI false xs s = r) ∧ s ≤ xs.length ∧ Hid (cnt s = k) ∧ Hid (xs.length - s = g) ∧ Below w.heap.size w wr)
  case atStart => exact ⟨0, 0, r0, rfl, rfl, rfl, HR0, Nat.zero_le _, HC0, Lib.hid rfl, HB1.out⟩
  case round =>
    obtain ⟨k, s, r, rfl, rfl, rfl, HR, hs, HK, HG, hbw⟩ := hrel
    have hkl : k ≤ s := by have := HCL.out s; have := HK.out; omega
    have HBW := Lib.hid hbw
    clear hbw
    rcases HC.out s hs with ⟨e1, e2⟩ | ⟨m, e1, q1, q2, q3⟩
    · have hr := HR.out
      rw [e1] at hr
      subst hr
      have hfin : cnt xs.length = k := by rw [e2]; exact HK.out
      have HF := Lib.hid hfin
      clear e1 e2 hfin
      go_wp2_with fail
      go_ret
      rw [HF.out]
      exact ⟨rfl, HBW.out⟩
    · have hr := HR.out
      rw [e1] at hr
      subst hr
      have hfin : cnt (m + 1) = k + 1 := by rw [q3, HK.out]
      have HF := Lib.hid hfin
      clear e1 q3 hfin
      have hmx : max (m : Int) 0 = (m : Int) := by omega
      have hdc : decide ((0 : Int) ≤ (m : Int)) = true := by simp
      rw [hmx, hdc]
      clear hmx hdc
      have hnx := HNX.out _ ((HROW.out.below HBW.out).more HBW.out.size) ((m : Int) + 1) (by omega) (by omega)
      obtain ⟨r2, hr2⟩ : ∃ r, nextI false xs ((m : Int) + 1) = r := ⟨_, rfl⟩
      rw [hr2] at hnx
      have HR2 := Lib.hid hr2
      have HNX2 := Lib.hid hnx
      clear hr2 hnx
      go_wp2_with fail
      refine HNX2.out.mono ?_
      rintro e w2 ⟨rfl, hb2⟩
      have HB2 := Lib.hid (HBW.out.trans (hb2.mono HBW.out.size))
      clear hb2
      go_wp2_with fail
      go_roundg (xs.length - (m + 1))
      case measure => have := HG.out; omega
      case rel => exact ⟨k + 1, m + 1, r2, by go_num, rfl, rfl, HR2, by omega, HF, Lib.hid rfl, HB2.out⟩
#print axioms count_any
end Go.Proofs.Ytbbmblodabojeaa
