/-
  wire.last and wire.length: where the number ends that bytes begin with, or why there is none.
-/
import Derived.Test.YtnjhkjlekepjoaaRows
import Derived.Test.YtnjhkjlekepjoaaPlains
import Derived.Test.YtnjhkjlekepjoaaSlices
import Derived.WalkKit
import Derived.WalkSpells
import Derived.WalkLawsBesides
import Derived.LoopTactic
import Derived.Lib.Hide
import Derived.Outline
namespace Go.Proofs.Ytnjhkjlekepjoaa
open Go.RowKit

theorem last_any (i : Nat) (x : Int) (hi : i ≤ 9) (hx0 : 0 ≤ x) (hx : x < 256) (w : World) :
    Calls Try.prog 78 #[.int .i64 i, .int .u8 x] w fun e w' => e = .returned (.int .i64 (lastI i x)) ∧ w = w' := by
  by_cases h9 : i = 9
  · subst h9
    by_cases h1 : 1 < x
    · have e1 : lastI 9 x = 3 := by unfold lastI; rw [if_pos ⟨rfl, h1⟩]
      have E1 := Lib.hid e1; clear e1
      go_enter Try.func78, Try.ntmps78
      go_wp2
      go_ret
      exact ⟨by rw [E1.out]; rfl, rfl⟩
    · by_cases h0 : x = 0
      · subst h0
        go_enter Try.func78, Try.ntmps78
        go_wp2
        go_ret
        exact ⟨rfl, rfl⟩
      · obtain rfl : x = 1 := by omega
        go_enter Try.func78, Try.ntmps78
        go_wp2
        go_ret
        exact ⟨rfl, rfl⟩
  · have b9 : ((i : Int) == 9) = false := beq_eq_false_iff_ne.2 (by omega)
    by_cases h0 : 0 < i
    · by_cases hz : x = 0
      · subst hz
        have e1 : lastI i 0 = 4 := by unfold lastI; rw [if_neg (by omega), if_pos ⟨h0, rfl⟩]
        have E1 := Lib.hid e1; clear e1
        go_enter Try.func78, Try.ntmps78
        go_wp2
        go_ret
        exact ⟨by rw [E1.out]; rfl, rfl⟩
      · have e1 : lastI i x = 0 := by unfold lastI; rw [if_neg (by omega), if_neg (by omega)]
        have E1 := Lib.hid e1; clear e1
        have bz : (x == 0) = false := beq_eq_false_iff_ne.2 hz
        go_enter Try.func78, Try.ntmps78
        go_wp2
        go_ret
        exact ⟨by rw [E1.out]; rfl, rfl⟩
    · obtain rfl : i = 0 := by omega
      have e1 : lastI 0 x = 0 := by unfold lastI; rw [if_neg (by omega), if_neg (by omega)]
      have E1 := Lib.hid e1; clear e1
      go_enter Try.func78, Try.ntmps78
      go_wp2
      go_ret
      exact ⟨by rw [E1.out]; rfl, rfl⟩

set_option maxHeartbeats 800000 in
theorem length_any (A : Option Addr) (c : Nat) (xs : List Int) (w : World) (hrow : Row w w.heap.size (.slice A xs.length c) xs) (hb : ∀ x ∈ xs, 0 ≤ x ∧ x < 256) :
    Calls Try.prog 75 #[.slice A xs.length c] w fun e w' => e = .returned (.tuple #[.int .i64 (lenI 0 xs).1, .int .i64 (lenI 0 xs).2]) ∧ w = w' := by
  obtain ⟨A', c', hv, hlc, hcm, _, hcells⟩ := hrow
  injection hv with h1 h2 h3
  subst h1 h3
  unfold maxLen at hcm
  have hsz : xs.length ≤ 9223372036854775807 := by omega
  obtain ⟨M, hM, hM1, hM2, hM3⟩ : ∃ M : Nat, min (xs.length : Int) 10 = M ∧ M ≤ xs.length ∧ M ≤ 10 ∧ (M = xs.length ∨ M = 10) := by
    by_cases h : xs.length ≤ 10
    · exact ⟨xs.length, by omega, by omega, by omega, .inl rfl⟩
    · exact ⟨10, by omega, by omega, by omega, .inr rfl⟩
  have HM3 := Lib.hid hM3; clear hM3
  have HC := Lib.hid hcells; clear hcells
  have HB := Lib.hid hb; clear hb
  go_enter Try.func75, Try.ntmps75
  go_wp2
  have HM := Lib.hid hM; clear hM
  go_loop [8] (fun i => ∃ k : Nat, k ≤ M ∧ i = .int .i64 k ∧ Hid (∀ j, j < k → 128 ≤ xs.getD j 0)) (fun i => M - (intOf i).toNat)
  case atStart => exact ⟨0, Nat.zero_le _, rfl, Lib.hid (fun j h => absurd h (Nat.not_lt_zero _))⟩
  case round =>
    obtain ⟨k, hk, rfl, HJ⟩ := hrel
    by_cases hlt : k < M
    · obtain ⟨b, o, rfl, _, hc⟩ := HC.out (by omega)
      have hck := hc k (by omega)
      clear hc
      have hin : xs.getD k 0 ∈ xs := by rw [List.getD, List.getElem?_eq_getElem (by omega)]; simp
      obtain ⟨y0, y1⟩ := HB.out _ hin
      clear hin
      obtain ⟨y, hy⟩ : ∃ y, xs.getD k 0 = y := ⟨_, rfl⟩
      rw [hy] at hck y0 y1
      have HY := Lib.hid hy; clear hy
      by_cases hs : y < 128
      · have hfin : lenI 0 xs = (k + 1, lastI k y) := by rw [← HY.out]; exact lenI_found xs k (by omega) HJ.out (by omega) (by rw [HY.out]; exact hs)
        have HF := Lib.hid hfin; clear hfin
        go_wp2_with (go_at_call 78; refine (last_any k y (by omega) y0 y1 _).mono ?_; rintro e w' ⟨rfl, rfl⟩)
        go_ret2
        exact ⟨by rw [HF.out]; simp, rfl⟩
      · go_wp2_with fail
        go_round
        case rel => exact ⟨k + 1, by omega, by go_num, Lib.hid (fun j hj => by
          rcases Nat.lt_or_ge j k with h | h
          · exact HJ.out j h
          · obtain rfl : j = k := by omega
            rw [HY.out]; omega)⟩
        case measure => simp [intOf]; omega
    · obtain rfl : k = M := by omega
      rcases Nat.lt_or_ge xs.length 10 with h10 | h10
      · have hfin : lenI 0 xs = (0, 2) := lenI_short xs h10 (fun j hj => HJ.out j (by rcases HM3.out with h | h <;> omega))
        have HF := Lib.hid hfin; clear hfin
        go_wp2_with fail
        go_ret2
        exact ⟨by rw [HF.out]; rfl, rfl⟩
      · have hfin : lenI 0 xs = (0, 3) := lenI_long xs h10 (fun j hj => HJ.out j (by rcases HM3.out with h | h <;> omega))
        have HF := Lib.hid hfin; clear hfin
        go_wp2_with fail
        go_ret2
        exact ⟨by rw [HF.out]; rfl, rfl⟩
end Go.Proofs.Ytnjhkjlekepjoaa
