/-
  The document's own answer: is a text a name?
-/
import Derived.Test.YtnjhkjlekepjoaaRows
import Derived.Test.YtnjhkjlekepjoaaPlainSig
import Derived.Test.YtnjhkjlekepjoaaSlices
import Derived.WalkKit
import Derived.WalkSpells
import Derived.WalkLawsBesides
import Derived.LoopTactic
import Derived.Lib.Hide
import Derived.Lib.Strings
namespace Go.Proofs.Ytnjhkjlekepjoaa
open Go.RowKit

theorem in_any (c low high : Int) (w : World) : Calls Try.prog 63 #[.int .u8 c, .int .u8 low, .int .u8 high] w fun e w' => e = .returned (.bool (inB c low high)) ∧ w = w' := by
  by_cases h1 : low ≤ c
  · by_cases h2 : c ≤ high
    · have e : inB c low high = true := by simp [inB, h1, h2]
      rw [e]
      go_enter Try.func63, Try.ntmps63
      go_wp2_with fail
      go_ret
      exact ⟨rfl, rfl⟩
    · have e : inB c low high = false := by simp [inB, h2]
      rw [e]
      go_enter Try.func63, Try.ntmps63
      go_wp2_with fail
      go_ret
      exact ⟨rfl, rfl⟩
  · have e : inB c low high = false := by simp [inB, h1]
    rw [e]
    go_enter Try.func63, Try.ntmps63
    go_wp2_with fail
    go_ret
    exact ⟨rfl, rfl⟩

theorem str_empty (xs : List Int) : (strOfNums xs).toList.isEmpty = xs.isEmpty := by
  rw [Lib.toList_data, strOfNums_data]
  cases xs <;> rfl
/-- What '==' of two texts comes to. -/
theorem str_eq_dec {xs ys : List Int} (hx : ∀ x ∈ xs, 0 ≤ x ∧ x < 256) (hy : ∀ y ∈ ys, 0 ≤ y ∧ y < 256) : ((strOfNums xs).toList == (strOfNums ys).toList) = decide (xs = ys) := by
  by_cases h : xs = ys
  · subst h; simp
  · rw [decide_eq_false h, beq_eq_false_iff_ne]
    intro e
    rw [Lib.toList_data, Lib.toList_data] at e
    refine h (str_inj hx hy ?_)
    rw [← Lib.mk_data (strOfNums xs), ← Lib.mk_data (strOfNums ys), e]
theorem str_ne {xs ys : List Int} (hx : ∀ x ∈ xs, 0 ≤ x ∧ x < 256) (hy : ∀ y ∈ ys, 0 ≤ y ∧ y < 256) (h : xs ≠ ys) : ((strOfNums xs).toList == (strOfNums ys).toList) = false := by rw [str_eq_dec hx hy, decide_eq_false h]
theorem nameB_all {s : List Int} (h : ∀ k, k < s.length → nameB (s.getD k 0) = true) : s.all nameB = true := by
  rw [List.all_eq_true]
  intro x hx
  obtain ⟨k, hk, e⟩ := List.getElem_of_mem hx
  have := h k hk
  rw [List.getD, List.getElem?_eq_getElem hk] at this
  simpa [e] using this

set_option maxRecDepth 100000 in
set_option maxHeartbeats 1000000 in
theorem rname_any (xs : List Int) (hb : ∀ x ∈ xs, 0 ≤ x ∧ x < 256) (hl : xs.length ≤ 9223372036854775807) (w : World) :
    Calls Try.prog 44 #[.string (strOfNums xs)] w fun e w' => e = .returned (.bool (okName xs)) ∧ w = w' := by
  have hsz := strOfNums_size xs
  have hemp := str_empty xs
  by_cases h0 : xs = []
  · subst h0
    rw [show ([] : List Int).isEmpty = true from rfl] at hemp
    have e : okName [] = false := rfl
    rw [e]
    clear e
    go_enter Try.func44, Try.ntmps44
    go_wp2_with fail
    go_ret
    exact ⟨rfl, rfl⟩
  · have hpos : 0 < xs.length := by cases xs with | nil => exact absurd rfl h0 | cons _ _ => simp
    have hne : (strOfNums xs).toList.isEmpty = false := by rw [hemp]; cases xs with | nil => exact absurd rfl h0 | cons _ _ => rfl
    clear hemp h0
    by_cases h32 : 32 < xs.length
    · have h32i : (32 : Int) < (xs.length : Int) := by omega
      have e : okName xs = false := by simp [okName, show ¬ xs.length ≤ 32 by omega]
      rw [e]
      clear e
      go_enter Try.func44, Try.ntmps44
      go_wp2_with fail
      go_ret
      exact ⟨rfl, rfl⟩
    · have hat0 := str_at xs hb 0 hpos (by omega)
      have hle : (xs.length : Int) ≤ 32 := by omega
      obtain ⟨y, hy⟩ : ∃ y, xs.getD 0 0 = y := ⟨_, rfl⟩
      rw [hy] at hat0
      cases hd : inB y 48 57 with
      | true =>
        have e : okName xs = false := by unfold okName; rw [hy, hd]; simp
        rw [e]
        clear e hy
        have HI := Lib.hid (fun w => in_any y 48 57 w)
        rw [hd] at HI
        clear hd
        go_enter Try.func44, Try.ntmps44
        go_wp2_with fail
        refine (HI.out _).mono ?_
        rintro e w1 ⟨rfl, rfl⟩
        go_wp2_with fail
        go_ret
        exact ⟨rfl, rfl⟩
      | false =>
        have HOK := Lib.hid (show okName xs = xs.all nameB by unfold okName; rw [hy, hd]; simp [hpos, show xs.length ≤ 32 by omega])
        have HI := Lib.hid (fun w => in_any y 48 57 w)
        rw [hd] at HI
        clear hd hy
        have HB := Lib.hid hb
        clear hb
        go_enter Try.func44, Try.ntmps44
        go_wp2_with fail
        refine (HI.out _).mono ?_
        rintro e w1 ⟨rfl, rfl⟩
        clear hat0
        go_wp2_with fail
        go_loopw [3] (fun i wr => ∃ k : Nat, k ≤ xs.length ∧ i = .int .i64 k ∧ Hid (∀ j, j < k → nameB (xs.getD j 0) = true) ∧ w = wr) (fun i _ => xs.length - (intOf i).toNat)
        case atStart => exact ⟨0, Nat.zero_le _, rfl, Lib.hid (fun j h => absurd h (Nat.not_lt_zero _)), rfl⟩
        case round =>
          obtain ⟨k, hk, rfl, HJ, rfl⟩ := hrel
          by_cases hlt : k < xs.length
          · have hat := str_at xs HB.out k hlt (by omega)
            obtain ⟨z, hz⟩ : ∃ z, xs.getD k 0 = z := ⟨_, rfl⟩
            rw [hz] at hat
            have HZ := Lib.hid hz
            clear hz
            have H1 := Lib.hid (fun w => in_any z 65 90 w)
            have H2 := Lib.hid (fun w => in_any z 97 122 w)
            have H3 := Lib.hid (fun w => in_any z 48 57 w)
            have hall : nameB z = true → Hid (∀ j, j < k + 1 → nameB (xs.getD j 0) = true) := fun h => Lib.hid (fun j hj => by
              rcases Nat.lt_or_ge j k with q | q
              · exact HJ.out j q
              · obtain rfl : j = k := by omega
                rw [HZ.out]; exact h)
            cases h1 : inB z 65 90 with
            | true =>
              have HJ2 := hall (by simp [nameB, h1])
              rw [h1] at H1
              clear h1 hall
              go_wp2_with fail
              refine (H1.out _).mono ?_
              rintro e w1 ⟨rfl, rfl⟩
              go_wp2_with fail
              go_roundw
              case rel => exact ⟨k + 1, by omega, by go_num, HJ2, trivial⟩
              case measure => simp [intOf]; omega
            | false =>
              cases h2 : inB z 97 122 with
              | true =>
                have HJ2 := hall (by simp [nameB, h2])
                rw [h1] at H1
                rw [h2] at H2
                clear h1 h2 hall
                go_wp2_with fail
                refine (H1.out _).mono ?_
                rintro e w1 ⟨rfl, rfl⟩
                go_wp2_with fail
                refine (H2.out _).mono ?_
                rintro e w1 ⟨rfl, rfl⟩
                go_wp2_with fail
                go_roundw
                case rel => exact ⟨k + 1, by omega, by go_num, HJ2, trivial⟩
                case measure => simp [intOf]; omega
              | false =>
                cases h3 : inB z 48 57 with
                | true =>
                  have HJ2 := hall (by simp [nameB, h3])
                  rw [h1] at H1
                  rw [h2] at H2
                  rw [h3] at H3
                  clear h1 h2 h3 hall
                  go_wp2_with fail
                  refine (H1.out _).mono ?_
                  rintro e w1 ⟨rfl, rfl⟩
                  go_wp2_with fail
                  refine (H2.out _).mono ?_
                  rintro e w1 ⟨rfl, rfl⟩
                  go_wp2_with fail
                  refine (H3.out _).mono ?_
                  rintro e w1 ⟨rfl, rfl⟩
                  go_wp2_with fail
                  go_roundw
                  case rel => exact ⟨k + 1, by omega, by go_num, HJ2, trivial⟩
                  case measure => simp [intOf]; omega
                | false =>
                  by_cases h4 : z = 95
                  · have HJ2 := hall (by simp [nameB, h4])
                    rw [h1] at H1
                    rw [h2] at H2
                    rw [h3] at H3
                    have hb4 : (z != 95) = false := by simp [h4]
                    clear h1 h2 h3 h4 hall
                    go_wp2_with fail
                    refine (H1.out _).mono ?_
                    rintro e w1 ⟨rfl, rfl⟩
                    go_wp2_with fail
                    refine (H2.out _).mono ?_
                    rintro e w1 ⟨rfl, rfl⟩
                    go_wp2_with fail
                    refine (H3.out _).mono ?_
                    rintro e w1 ⟨rfl, rfl⟩
                    go_wp2_with fail
                    go_roundw
                    case rel => exact ⟨k + 1, by omega, by go_num, HJ2, trivial⟩
                    case measure => simp [intOf]; omega
                  · have hn : nameB z = false := by simp [nameB, h1, h2, h3, h4]
                    have HE := Lib.hid (HOK.out.trans (show xs.all nameB = false from by
                      rw [← Bool.not_eq_true, List.all_eq_true]
                      intro h
                      have := h z (by rw [← HZ.out, List.getD, List.getElem?_eq_getElem hlt]; simp)
                      rw [hn] at this
                      cases this))
                    rw [h1] at H1
                    rw [h2] at H2
                    rw [h3] at H3
                    have hb4 : (z != 95) = true := by simp [h4]
                    clear h1 h2 h3 h4 hall hn
                    go_wp2_with fail
                    refine (H1.out _).mono ?_
                    rintro e w1 ⟨rfl, rfl⟩
                    go_wp2_with fail
                    refine (H2.out _).mono ?_
                    rintro e w1 ⟨rfl, rfl⟩
                    go_wp2_with fail
                    refine (H3.out _).mono ?_
                    rintro e w1 ⟨rfl, rfl⟩
                    go_wp2_with fail
                    go_ret
                    exact ⟨by rw [HE.out]; rfl, rfl⟩
          · obtain rfl : k = xs.length := by omega
            have e : xs.all nameB = true := nameB_all HJ.out
            have HE := Lib.hid (HOK.out.trans e)
            clear e
            go_wp2_with fail
            go_ret
            exact ⟨by rw [HE.out]; rfl, rfl⟩
#print axioms rname_any
end Go.Proofs.Ytnjhkjlekepjoaa
