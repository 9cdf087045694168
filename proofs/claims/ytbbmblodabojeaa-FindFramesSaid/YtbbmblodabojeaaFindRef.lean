/-
  The document's own places at which frames begin in a text, or may yet, and how many there are.
-/
import Derived.Test.YtbbmblodabojeaaFrameRefGet
import Derived.Test.YtbbmblodabojeaaFindCount
namespace Go.Proofs.Ytbbmblodabojeaa
open Go.RowKit

set_option maxRecDepth 100000 in
theorem rwhy_any (xs : List Int) (hl : xs.length ≤ 100000000000) (w : World) (hb : ∀ x ∈ xs, 0 ≤ x ∧ x < 256) (k : Nat) (hk : k ≤ xs.length) :
    Calls Try.prog 47 #[.string (strOfNums xs), .int .i64 k] w fun e w' => e = .returned (.int .i64 (getFr (xs.drop k)).2.2) ∧ Below w.heap.size w w' := by
  have hsz := strOfNums_size xs
  have hcut : (strOfNums xs).extract k xs.length = strOfNums (xs.drop k) := by rw [str_cut, List.take_length]
  have hrl : (xs.drop k).length ≤ 100000000000 := by rw [List.length_drop]; omega
  have HG := Lib.hid (fun W => rfget_any (xs.drop k) hrl W (drop_bytes hb k))
  have HC := Lib.hid hcut
  clear hcut hb hrl
  generalize getFr (xs.drop k) = t at HG ⊢
  generalize strOfNums (xs.drop k) = s2 at HC HG
  generalize strOfNums xs = s at HC hsz ⊢
  have k0 : (0 : Int) ≤ k := by omega
  have k1 : (k : Int) ≤ (xs.length : Int) := by omega
  generalize xs.length = L at HC hsz hk k1 hl
  go_enter Try.func47, Try.ntmps47
  go_wp2_with fail
  rw [HC.out]
  refine (HG.out _).mono ?_
  rintro e w1 ⟨A1, c1, rfl, _, hb1⟩
  have HB := Lib.hid (hb1.alloc hb1.size (.cells #[.int .i64 t.1.1, .slice A1 t.1.2.length c1] 36))
  clear hb1
  go_wp2_with fail
  go_ret
  exact ⟨rfl, HB.out⟩

theorem begI_eq (opn : Bool) (xs : List Int) (a : Nat) : begI opn xs a = ((getFr (xs.drop a)).2.2 == 0 || (opn && (getFr (xs.drop a)).2.2 == 2)) := rfl

set_option maxRecDepth 100000 in
set_option maxHeartbeats 1000000 in
theorem rnext_any (xs : List Int) (hl : xs.length ≤ 100000000000) (w : World) (hb : ∀ x ∈ xs, 0 ≤ x ∧ x < 256) (frm : Int) (h1 : -9223372036854775808 ≤ frm) (h2 : frm ≤ 9223372036854775807) (opn : Bool) :
    Calls Try.prog 26 #[.string (strOfNums xs), .int .i64 frm, .bool opn] w fun e w' => e = .returned (.int .i64 (nextI opn xs frm)) ∧ Below w.heap.size w w' := by
  have hsz := strOfNums_size xs
  have HY := Lib.hid (fun W k hk => rwhy_any xs hl W hb k hk)
  have hfound := fun r => @next_found opn xs frm r
  have hnone := @next_none opn xs frm
  have HBE := Lib.hid (begI_eq opn xs)
  clear hb
  generalize nextI opn xs frm = R at hfound hnone ⊢
  generalize begI opn xs = q at hfound hnone HBE
  have HF := Lib.hid hfound
  have HN := Lib.hid hnone
  clear hfound hnone
  generalize strOfNums xs = s at hsz HY ⊢
  obtain ⟨L, hL⟩ : ∃ L, xs.length = L := ⟨_, rfl⟩
  rw [hL] at hsz HY HF HN hl
  clear hL
  cases opn
  all_goals
    go_enter Try.func26, Try.ntmps26
    go_wp2_with fail
    go_loopg [7] L (fun g i wr => ∃ a : Nat, i = .int .i64 a ∧ a ≤ L ∧ Hid (L - a = g) ∧ Hid (∀ j : Nat, frm.toNat ≤ j → j < a → q j = false) ∧ Below w.heap.size w wr)
    case atStart => exact ⟨0, rfl, Nat.zero_le _, Lib.hid rfl, Lib.hid (fun j _ h => absurd h (Nat.not_lt_zero _)), Below.refl _ _⟩
    case round =>
      obtain ⟨a, rfl, ha, HG, HO, hbw⟩ := hrel
      have HBW := Lib.hid hbw
      clear hbw
      by_cases hlt : a < L
      · by_cases hf : (a : Int) < frm
        · have ho2 : ∀ j : Nat, frm.toNat ≤ j → j < a + 1 → q j = false := fun j q1 q2 => by omega
          have HO2 := Lib.hid ho2
          clear ho2
          go_wp2_with fail
          go_roundg (L - (a + 1))
          case measure => have := HG.out; omega
          case rel => exact ⟨a + 1, by go_num, by omega, Lib.hid rfl, HO2, HBW.out⟩
        · have hY := HY.out
          have HYa := Lib.hid (fun W => HY.out W a ha)
          have hq := HBE.out a
          clear hY
          generalize (getFr (xs.drop a)).2.2 = er at HYa hq
          have hft : frm.toNat ≤ a := by omega
          by_cases hqa : q a = true
          · have hR := HF.out a hft hlt HO.out hqa
            have HR := Lib.hid hR
            rw [hqa] at hq
            clear hR hqa
            by_cases h0 : er = 0
            · subst h0
              clear hq
              go_wp2_with fail
              refine (HYa.out _).mono ?_
              rintro e w1 ⟨rfl, hb1⟩
              have HB1 := Lib.hid (HBW.out.trans (hb1.mono HBW.out.size))
              clear hb1
              go_wp2_with fail
              go_ret
              rw [HR.out]
              exact ⟨rfl, HB1.out⟩
            · have hb0 : (er == 0) = false := beq_eq_false_iff_ne.2 h0
              rw [hb0, Bool.false_or] at hq
              first
                | (exfalso; revert hq; simp; done)
                | (obtain rfl : er = 2 := by simpa using hq.symm
                   clear hq h0
                   go_wp2_with fail
                   refine (HYa.out _).mono ?_
                   rintro e w1 ⟨rfl, hb1⟩
                   have HB1 := Lib.hid (HBW.out.trans (hb1.mono HBW.out.size))
                   clear hb1
                   go_wp2_with fail
                   go_ret
                   rw [HR.out]
                   exact ⟨rfl, HB1.out⟩)
          · have hqf : q a = false := by simpa using hqa
            have ho2 : ∀ j : Nat, frm.toNat ≤ j → j < a + 1 → q j = false := fun j q1 q2 => by
              rcases Nat.lt_or_ge j a with h | h
              · exact HO.out j q1 h
              · obtain rfl : j = a := by omega
                exact hqf
            have HO2 := Lib.hid ho2
            rw [hqf] at hq
            have hb0 : (er == 0) = false := by
              have := hq.symm
              simp only [Bool.or_eq_false_iff] at this
              exact this.1
            rw [hb0, Bool.false_or] at hq
            first
              | (rw [Bool.true_and] at hq
                 have hb2 : (er == 2) = false := hq.symm
                 clear hq hqf hqa ho2
                 go_wp2_with fail
                 refine (HYa.out _).mono ?_
                 rintro e w1 ⟨rfl, hb1⟩
                 have HB1 := Lib.hid (HBW.out.trans (hb1.mono HBW.out.size))
                 clear hb1
                 go_wp2_with fail
                 go_roundg (L - (a + 1))
                 case measure => have := HG.out; omega
                 case rel => exact ⟨a + 1, by go_num, by omega, Lib.hid rfl, HO2, HB1.out⟩)
              | (clear hq hqf hqa ho2
                 go_wp2_with fail
                 refine (HYa.out _).mono ?_
                 rintro e w1 ⟨rfl, hb1⟩
                 have HB1 := Lib.hid (HBW.out.trans (hb1.mono HBW.out.size))
                 clear hb1
                 go_wp2_with fail
                 go_roundg (L - (a + 1))
                 case measure => have := HG.out; omega
                 case rel => exact ⟨a + 1, by go_num, by omega, Lib.hid rfl, HO2, HB1.out⟩)
      · have hR := HN.out (fun j q1 q2 => HO.out j q1 (by omega))
        have HR := Lib.hid hR
        clear hR
        go_wp2_with fail
        go_ret
        rw [HR.out]
        exact ⟨rfl, HBW.out⟩

set_option maxRecDepth 100000 in
set_option maxHeartbeats 1000000 in
theorem rcount_any (xs : List Int) (hl : xs.length ≤ 100000000000) (w : World) (hb : ∀ x ∈ xs, 0 ≤ x ∧ x < 256) :
    Calls Try.prog 28 #[.string (strOfNums xs)] w fun e w' => e = .returned (.int .i64 (countI (begI false xs) xs.length)) ∧ Below w.heap.size w w' := by
  have hsz := strOfNums_size xs
  have HY := Lib.hid (fun W k hk => rwhy_any xs hl W hb k hk)
  have HBE := Lib.hid (begI_eq false xs)
  have HCL := Lib.hid (count_le (begI false xs))
  clear hb
  generalize begI false xs = q at HBE HCL ⊢
  generalize strOfNums xs = s at hsz HY ⊢
  obtain ⟨L, hL⟩ : ∃ L, xs.length = L := ⟨_, rfl⟩
  rw [hL] at hsz HY hl ⊢
  clear hL
  go_enter Try.func28, Try.ntmps28
  go_wp2_with fail
  go_loopg [3, 4] L (fun g n i wr => ∃ k a : Nat, n = .int .i64 k ∧ i = .int .i64 a ∧ a ≤ L ∧ Hid (L - a = g) ∧ Hid (countI q a = k) ∧ Below w.heap.size w wr)
  case atStart => exact ⟨0, 0, rfl, rfl, Nat.zero_le _, Lib.hid rfl, Lib.hid rfl, Below.refl _ _⟩
  case round =>
    obtain ⟨k, a, rfl, rfl, ha, HG, HK, hbw⟩ := hrel
    have HBW := Lib.hid hbw
    clear hbw
    have hka : k ≤ a := by have := HCL.out a; have := HK.out; omega
    by_cases hlt : a < L
    · have HYa := Lib.hid (fun W => HY.out W a ha)
      have hq := HBE.out a
      generalize (getFr (xs.drop a)).2.2 = er at HYa hq
      rw [Bool.false_and, Bool.or_false] at hq
      by_cases h0 : er = 0
      · subst h0
        have hn : countI q (a + 1) = k + 1 := by rw [countI, HK.out, hq]; rfl
        have HN := Lib.hid hn
        clear hq hn
        go_wp2_with fail
        refine (HYa.out _).mono ?_
        rintro e w1 ⟨rfl, hb1⟩
        have HB1 := Lib.hid (HBW.out.trans (hb1.mono HBW.out.size))
        clear hb1
        go_wp2_with fail
        go_roundg (L - (a + 1))
        case measure => have := HG.out; omega
        case rel => exact ⟨k + 1, a + 1, by go_num, by go_num, by omega, Lib.hid rfl, HN, HB1.out⟩
      · have hb0 : (er == 0) = false := beq_eq_false_iff_ne.2 h0
        have hn : countI q (a + 1) = k := by rw [countI, HK.out, hq, hb0]; rfl
        have HN := Lib.hid hn
        clear hq hn h0
        go_wp2_with fail
        refine (HYa.out _).mono ?_
        rintro e w1 ⟨rfl, hb1⟩
        have HB1 := Lib.hid (HBW.out.trans (hb1.mono HBW.out.size))
        clear hb1
        go_wp2_with fail
        go_roundg (L - (a + 1))
        case measure => have := HG.out; omega
        case rel => exact ⟨k, a + 1, rfl, by go_num, by omega, Lib.hid rfl, HN, HB1.out⟩
    · obtain rfl : a = L := by omega
      go_wp2_with fail
      go_ret
      rw [HK.out]
      exact ⟨rfl, HBW.out⟩
#print axioms rwhy_any
#print axioms rnext_any
#print axioms rcount_any
end Go.Proofs.Ytbbmblodabojeaa
