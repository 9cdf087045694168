/-
  What sig.Name answers.
-/
import Derived.Test.YtcegnkbafbepbaaSigKeys
import Derived.Test.YtcegnkbafbepbaaSigKit
namespace Go.Proofs.Ytcegnkbafbepbaa
open Go.RowKit

theorem dig_any (c : Int) (w : World) : Calls Try.prog 38 #[.int .u8 c] w fun e w' => e = .returned (.bool (inB c 48 57)) ∧ w = w' := by
  by_cases h1 : 48 ≤ c
  · by_cases h2 : c ≤ 57
    · have e : inB c 48 57 = true := by simp [inB, h1, h2]
      rw [e]
      go_enter Try.func38, Try.ntmps38
      go_wp2_with fail
      go_ret
      exact ⟨rfl, rfl⟩
    · have e : inB c 48 57 = false := by simp [inB, h2]
      rw [e]
      go_enter Try.func38, Try.ntmps38
      go_wp2_with fail
      go_ret
      exact ⟨rfl, rfl⟩
  · have e : inB c 48 57 = false := by simp [inB, h1]
    rw [e]
    go_enter Try.func38, Try.ntmps38
    go_wp2_with fail
    go_ret
    exact ⟨rfl, rfl⟩

/-- A byte that may stand anywhere in a name. -/
def letB (c : Int) : Bool := inB c 65 90 || inB c 97 122 || decide (c = 95)
theorem nameB_parts (c : Int) : nameB c = (inB c 48 57 || letB c) := by
  unfold nameB letB
  cases inB c 65 90 <;> cases inB c 97 122 <;> cases inB c 48 57 <;> cases decide (c = 95) <;> rfl
theorem let_any (c : Int) (w : World) : Calls Try.prog 39 #[.int .u8 c] w fun e w' => e = .returned (.bool (letB c)) ∧ w = w' := by
  have h95 : ∀ b, decide (c = 95) = b → (c == 95) = b := fun b h => by rw [← h]; rfl
  by_cases a1 : 65 ≤ c <;> by_cases a2 : c ≤ 90 <;> by_cases a3 : 97 ≤ c <;> by_cases a4 : c ≤ 122 <;> first
    | (exfalso; omega)
    | (have e : letB c = true := by simp [letB, inB, a1, a2, a3, a4]
       rw [e]
       clear h95 e
       go_enter Try.func39, Try.ntmps39
       go_wp2_with fail
       go_ret
       exact ⟨rfl, rfl⟩)
    | (cases a5 : decide (c = 95) with
       | true =>
         have e : letB c = true := by simp [letB, a5]
         have h := h95 _ a5
         rw [e]
         clear h95 e a5
         go_enter Try.func39, Try.ntmps39
         go_wp2_with fail
         go_ret
         exact ⟨rfl, rfl⟩
       | false =>
         have e : letB c = false := by simp [letB, inB, a1, a2, a3, a4, a5]
         have h := h95 _ a5
         rw [e]
         clear h95 e a5
         go_enter Try.func39, Try.ntmps39
         go_wp2_with fail
         go_ret
         exact ⟨rfl, rfl⟩)

set_option maxRecDepth 100000 in
set_option maxHeartbeats 1000000 in
theorem sname_is (xs : List Int) (hb : ∀ x ∈ xs, 0 ≤ x ∧ x < 256) (hl : xs.length ≤ 9223372036854775807) (w : World) :
    Calls Try.prog 29 #[.string (strOfNums xs)] w fun e w' => e = .returned (.bool (okName xs)) ∧ w = w' := by
  have hsz := strOfNums_size xs
  by_cases h0 : xs = []
  · subst h0
    have e : okName [] = false := rfl
    rw [e]
    clear e
    go_enter Try.func29, Try.ntmps29
    go_wp2_with fail
    go_ret
    exact ⟨rfl, rfl⟩
  · have hpos : 0 < xs.length := by cases xs with | nil => exact absurd rfl h0 | cons _ _ => simp
    have hnz : ((xs.length : Int) == 0) = false := beq_eq_false_iff_ne.2 (by omega)
    clear h0
    by_cases h32 : 32 < xs.length
    · have h32i : (32 : Int) < (xs.length : Int) := by omega
      have e : okName xs = false := by simp [okName, show ¬ xs.length ≤ 32 by omega]
      rw [e]
      clear e
      go_enter Try.func29, Try.ntmps29
      go_wp2_with fail
      go_ret
      exact ⟨rfl, rfl⟩
    · have hat0 := str_at xs hb 0 hpos (by omega)
      have hle : (xs.length : Int) ≤ 32 := by omega
      obtain ⟨y, hy⟩ : ∃ y, xs.getD 0 0 = y := ⟨_, rfl⟩
      rw [hy] at hat0
      cases hd : inB y 48 57 with
      | true =>
        have e : okName xs = false := by unfold okName; rw [hy, hd]; simp
        rw [e]
        clear e hy
        have HI := Lib.hid (fun w => dig_any y w)
        rw [hd] at HI
        clear hd
        go_enter Try.func29, Try.ntmps29
        go_wp2_with fail
        refine (HI.out _).mono ?_
        rintro e w1 ⟨rfl, rfl⟩
        go_wp2_with fail
        go_ret
        exact ⟨rfl, rfl⟩
      | false =>
        have HOK := Lib.hid (show okName xs = xs.all nameB by unfold okName; rw [hy, hd]; simp [hpos, show xs.length ≤ 32 by omega])
        have HI := Lib.hid (fun w => dig_any y w)
        rw [hd] at HI
        clear hd hy
        have HB := Lib.hid hb
        clear hb
        go_enter Try.func29, Try.ntmps29
        go_wp2_with fail
        refine (HI.out _).mono ?_
        rintro e w1 ⟨rfl, rfl⟩
        clear hat0
        go_wp2_with fail
        go_loopw [19] (fun i wr => ∃ k : Nat, k ≤ xs.length ∧ i = .int .i64 k ∧ Hid (∀ j, j < k → nameB (xs.getD j 0) = true) ∧ w = wr) (fun i _ => xs.length - (intOf i).toNat)
        case atStart => exact ⟨0, Nat.zero_le _, rfl, Lib.hid (fun j h => absurd h (Nat.not_lt_zero _)), rfl⟩
        case round =>
          obtain ⟨k, hk, rfl, HJ, rfl⟩ := hrel
          by_cases hlt : k < xs.length
          · have hat := str_at xs HB.out k hlt (by omega)
            obtain ⟨z, hz⟩ : ∃ z, xs.getD k 0 = z := ⟨_, rfl⟩
            rw [hz] at hat
            have HZ := Lib.hid hz
            clear hz
            have H1 := Lib.hid (fun w => dig_any z w)
            have H2 := Lib.hid (fun w => let_any z w)
            have hall : nameB z = true → Hid (∀ j, j < k + 1 → nameB (xs.getD j 0) = true) := fun h => Lib.hid (step_lt (P := fun j => nameB (xs.getD j 0) = true) HJ.out (by rw [HZ.out]; exact h))
            cases h1 : inB z 48 57 with
            | true =>
              have HJ2 := hall (by rw [nameB_parts, h1]; rfl)
              rw [h1] at H1
              clear h1 hall
              go_wp2_with fail
              refine (H1.out _).mono ?_
              rintro e w1 ⟨rfl, rfl⟩
              go_wp2_with fail
              go_roundw
              case rel => exact ⟨k + 1, by omega, by go_num, HJ2, trivial⟩
              case measure => simp [intOf]; omega
            | false =>
              cases h2 : letB z with
              | true =>
                have HJ2 := hall (by rw [nameB_parts, h1, h2]; rfl)
                rw [h1] at H1
                rw [h2] at H2
                clear h1 h2 hall
                go_wp2_with fail
                refine (H1.out _).mono ?_
                rintro e w1 ⟨rfl, rfl⟩
                go_wp2_with fail
                refine (H2.out _).mono ?_
                rintro e w1 ⟨rfl, rfl⟩
                go_wp2_with fail
                go_roundw
                case rel => exact ⟨k + 1, by omega, by go_num, HJ2, trivial⟩
                case measure => simp [intOf]; omega
              | false =>
                have hn : nameB z = false := by rw [nameB_parts, h1, h2]; rfl
                have HE := Lib.hid (HOK.out.trans (show xs.all nameB = false from by
                  rw [← Bool.not_eq_true, List.all_eq_true]
                  intro h
                  have := h z (by rw [← HZ.out, List.getD, List.getElem?_eq_getElem hlt]; simp)
                  rw [hn] at this
                  cases this))
                rw [h1] at H1
                rw [h2] at H2
                clear h1 h2 hall hn
                go_wp2_with fail
                refine (H1.out _).mono ?_
                rintro e w1 ⟨rfl, rfl⟩
                go_wp2_with fail
                refine (H2.out _).mono ?_
                rintro e w1 ⟨rfl, rfl⟩
                go_wp2_with fail
                go_ret
                exact ⟨by rw [HE.out]; rfl, rfl⟩
          · obtain rfl : k = xs.length := by omega
            have e : xs.all nameB = true := nameB_all HJ.out
            have HE := Lib.hid (HOK.out.trans e)
            clear e
            go_wp2_with fail
            go_ret
            exact ⟨by rw [HE.out]; rfl, rfl⟩
theorem sname_any : NameC := fun xs w hb hl => (sname_is xs hb hl w).mono fun _ _ h => ⟨h.1, h.2 ▸ Below.refl _ _⟩
#print axioms sname_any
end Go.Proofs.Ytcegnkbafbepbaa
