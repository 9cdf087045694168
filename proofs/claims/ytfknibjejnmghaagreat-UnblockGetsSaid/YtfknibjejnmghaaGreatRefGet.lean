/-
  The document's own answer: the number of a text's bytes.
-/
import Derived.Test.YtfknibjejnmghaaGreatRows
import Derived.Test.YtfknibjejnmghaaGreatPlains
import Derived.WalkKit
import Derived.WalkSpells
import Derived.WalkLawsBesides
import Derived.LoopTactic
import Derived.Lib.Hide
import Derived.Outline
import Derived.Deep.RegionWith
import Derived.Deep.RegionHeld3
import Derived.Test.YtfknibjejnmghaaGreatSlices
import Derived.LoopTactic
namespace Go.Proofs.YtfknibjejnmghaaGreat
open Go.RowKit

set_option maxHeartbeats 1000000 in
/-- No byte below 128 among the first ten. -/
theorem rget_none (xs : List Int) (hb : ∀ x ∈ xs, 0 ≤ x ∧ x < 256) (hl : xs.length ≤ 9223372036854775807) (hno : ∀ j, j < xs.length → j < 10 → 128 ≤ xs.getD j 0) (er : Int) (her : er = if xs.length < 10 then 2 else 3) (w : World) :
    Calls Tryz.prog 9 #[.string (strOfNums xs)] w fun e w' => e = .returned (.tuple #[.int .u64 0, .int .i64 0, .int .i64 er]) ∧ w = w' := by
  have HER := Lib.hid her; clear her
  have hsz := strOfNums_size xs
  have HB := Lib.hid hb; clear hb
  have HNO := Lib.hid hno; clear hno
  go_enter Tryz.func9, Tryz.ntmps9
  go_wp2
  go_loop [5, 6] (fun t i => ∃ k : Nat, k ≤ xs.length ∧ k ≤ 10 ∧ t = .int .i64 (-1) ∧ i = .int .i64 k) (fun _ i => 10 - (intOf i).toNat)
  case atStart => exact ⟨0, Nat.zero_le _, Nat.zero_le _, rfl, rfl⟩
  case round =>
    obtain ⟨k, hk, hk10, rfl, rfl⟩ := hrel
    by_cases hlt : k < xs.length
    · by_cases h10 : k < 10
      · have hat := str_at xs HB.out k hlt (by omega)
        have hge := HNO.out k hlt h10
        generalize xs.getD k 0 = y at hat hge
        go_wp2
        exact ⟨⟨k + 1, by omega, by omega, rfl, by go_num⟩, by simp [intOf]; omega⟩
      · obtain rfl : k = 10 := by omega
        go_wp2
        go_ret3
        exact ⟨by rw [HER.out, if_neg (by omega)]; rfl, rfl⟩
    · obtain rfl : k = xs.length := by omega
      by_cases h10 : xs.length < 10
      · go_wp2
        go_ret3
        exact ⟨by rw [HER.out, if_pos h10]; rfl, rfl⟩
      · go_wp2
        go_ret3
        exact ⟨by rw [HER.out, if_neg (by omega)]; rfl, rfl⟩

set_option maxHeartbeats 2000000 in
/-- The first byte below 128 is at place t. -/
theorem rget_some (xs : List Int) (hb : ∀ x ∈ xs, 0 ≤ x ∧ x < 256) (hl : xs.length ≤ 9223372036854775807) (t : Nat) (ht : t < xs.length) (ht10 : t < 10) (hno : ∀ j, j < t → 128 ≤ xs.getD j 0) (hyes : xs.getD t 0 < 128)
    (hv : lastI t (xs.getD t 0) = 0 → val (xs.take (t + 1)) < 18446744073709551616) (r : Value) (hr : r = if lastI t (xs.getD t 0) = 0 then .tuple #[.int .u64 (val (xs.take (t + 1))), .int .i64 (t + 1 : Nat), .int .i64 0] else .tuple #[.int .u64 0, .int .i64 0, .int .i64 (lastI t (xs.getD t 0))]) (w : World) :
    Calls Tryz.prog 9 #[.string (strOfNums xs)] w fun e w' => e = .returned r ∧ w = w' := by
  have HR := Lib.hid hr; clear hr
  have hsz := strOfNums_size xs
  have HB := Lib.hid hb; clear hb
  have HNO := Lib.hid hno; clear hno
  have HV := Lib.hid hv; clear hv
  have hatt := str_at xs HB.out t ht (by omega)
  have hyr := HB.out (xs.getD t 0) (by rw [List.getD, List.getElem?_eq_getElem ht]; simp)
  obtain ⟨y0, y1⟩ := hyr
  generalize hY : xs.getD t 0 = y at hatt hyes HV HR y0 y1
  have HY := Lib.hid hY; clear hY
  have HATT := Lib.hid hatt; clear hatt
  go_enter Tryz.func9, Tryz.ntmps9
  go_wp2
  go_loop [5, 6] (fun l i => ∃ k : Nat, k ≤ t + 1 ∧ l = .int .i64 (if k = t + 1 then (t : Int) else -1) ∧ i = .int .i64 k) (fun _ i => 11 - (intOf i).toNat)
  case atStart => exact ⟨0, Nat.zero_le _, by simp, rfl⟩
  case round =>
    obtain ⟨k, hk, rfl, rfl⟩ := hrel
    rcases (by omega : k < t ∨ k = t ∨ k = t + 1) with hlt | rfl | rfl
    · have hat := str_at xs HB.out k (by omega) (by omega)
      have hge := HNO.out k hlt
      generalize xs.getD k 0 = z at hat hge
      rw [if_neg (by omega)]
      go_wp2
      exact ⟨⟨k + 1, by omega, by rw [if_neg (by omega)], by go_num⟩, by simp [intOf]; omega⟩
    · have hat := HATT.out
      rw [if_neg (by omega)]
      go_wp2
      exact ⟨⟨k + 1, by omega, by rw [if_pos rfl], by go_num⟩, by simp [intOf]; omega⟩
    · have hat := HATT.out
      rw [if_pos rfl]
      by_cases c1 : t = 9 ∧ 1 < y
      · obtain ⟨rfl, c1⟩ := c1
        have e1 : lastI 9 y = 3 := by unfold lastI; rw [if_pos ⟨rfl, c1⟩]
        have E1 := Lib.hid e1; clear e1
        go_wp2_with fail
        all_goals (go_ret3; exact ⟨by rw [HR.out, E1.out]; rfl, rfl⟩)
      · by_cases c2 : 0 < t ∧ y = 0
        · obtain ⟨c2, rfl⟩ := c2
          have e1 : lastI t 0 = 4 := by unfold lastI; rw [if_neg (by omega), if_pos ⟨c2, rfl⟩]
          have E1 := Lib.hid e1; clear e1
          by_cases c9 : t = 9
          · subst c9
            go_wp2_with fail
            all_goals (go_ret3; exact ⟨by rw [HR.out, E1.out]; rfl, rfl⟩)
          · have b9 : ((t : Int) == 9) = false := beq_eq_false_iff_ne.2 (by omega)
            go_wp2_with fail
            all_goals (go_ret3; exact ⟨by rw [HR.out, E1.out]; rfl, rfl⟩)
        · have e1 : lastI t y = 0 := by unfold lastI; rw [if_neg c1, if_neg c2]
          have hv := HV.out e1
          have E1 := Lib.hid e1; clear e1
          have hr : r = .tuple #[.int .u64 (val (xs.take (t + 1))), .int .i64 ((t : Int) + 1), .int .i64 0] := by rw [HR.out, if_pos E1.out]; rfl
          have HR2 := Lib.hid hr; clear hr
          have HVV := Lib.hid hv; clear hv
          have hyn : ∀ j, j ≤ t → ∃ z, 0 ≤ z ∧ z < 256 ∧ xs.getD j 0 = z ∧ val ((xs.take (t + 1)).drop j) = z % 128 + 128 * val ((xs.take (t + 1)).drop (j + 1)) := fun j hj => by
            have hjl : j < xs.length := by omega
            have hz := HB.out (xs.getD j 0) (by rw [List.getD, List.getElem?_eq_getElem hjl]; simp)
            refine ⟨_, hz.1, hz.2, rfl, ?_⟩
            have hjl' : j < (xs.take (t + 1)).length := by simp; omega
            rw [List.drop_eq_getElem_cons hjl', val]
            simp [List.getD, List.getElem?_eq_getElem hjl]
          have HYN := Lib.hid hyn; clear hyn
          have hd := val_drop_le (xs.take (t + 1))
          have HD := Lib.hid hd; clear hd
          have hnn := fun j => val_nonneg ((xs.take (t + 1)).drop j)
          have HNN := Lib.hid hnn; clear hnn
          have hend : val ((xs.take (t + 1)).drop (t + 1)) = 0 := by rw [List.drop_of_length_le (by simp; omega)]; rfl
          have HEND := Lib.hid hend; clear hend
          have hbeg : (xs.take (t + 1)).drop 0 = xs.take (t + 1) := by simp
          have HBEG := Lib.hid hbeg; clear hbeg
          have hatS := fun j (hj : j < xs.length) => str_at xs HB.out j hj (by omega)
          have HAT := Lib.hid hatS; clear hatS
          generalize hL : xs.take (t + 1) = l at HYN HD HNN HEND HBEG HR2 HVV
          clear HV HR hL HY
          have key : (t = 9 ∧ y = 1) ∨ (t ≠ 9 ∧ 0 < t ∧ y ≠ 0) ∨ t = 0 := by omega
          clear c1 c2
          rcases key with ⟨rfl, rfl⟩ | ⟨n9, h0, hy0⟩ | rfl
          · go_wp2_with fail
            all_goals
              clear hat
              go_loop [7, 8] (fun n i => ∃ m : Int, -1 ≤ m ∧ m ≤ (9 : Int) ∧ i = .int .i64 m ∧ n = .int .u64 (val (l.drop (m + 1).toNat))) (fun _ i => (intOf i + 1).toNat)
              case atStart => exact ⟨(9 : Int), by omega, by omega, rfl, by rw [show ((9 : Int) + 1).toNat = 9 + 1 by omega, HEND.out]⟩
              case round =>
                obtain ⟨m, m0, m1, rfl, rfl⟩ := hrel
                by_cases hm : m = -1
                · subst hm
                  have ez : (-1 + 1 : Int).toNat = 0 := rfl
                  rw [ez, HBEG.out]
                  go_wp2_with fail
                  go_ret3
                  exact ⟨by rw [HR2.out]; rfl, rfl⟩
                · obtain ⟨j, rfl⟩ := Int.eq_ofNat_of_zero_le (show 0 ≤ m by omega)
                  clear hm
                  obtain ⟨z, z0, z1, hz, hzv⟩ := HYN.out j (by omega)
                  have hjx : j < xs.length := by omega
                  have hatj := HAT.out j hjx
                  rw [hz] at hatj
                  have n0 := HNN.out (j + 1)
                  have n1 := HD.out j
                  have n2 := HVV.out
                  have n3 : 128 * val (l.drop (j + 1)) + z % 128 < 18446744073709551616 := by omega
                  have HZV := Lib.hid hzv; clear hzv hz n1 n2
                  have ej : ((j : Int) + 1).toNat = j + 1 := by omega
                  rw [ej]
                  clear ej
                  have ev : val (l.drop j) = 128 * val (l.drop (j + 1)) + z % 128 := by rw [HZV.out]; omega
                  have EV := Lib.hid ev; clear ev
                  generalize val (l.drop (j + 1)) = N at n0 n3 EV ⊢
                  go_wp2_with fail
                  refine ⟨⟨(j : Int) - 1, by omega, by omega, rfl, ?_⟩, by simp [intOf]⟩
                  rw [show ((j : Int) - 1 + 1).toNat = j by omega, EV.out]
          · have b9 : ((t : Int) == 9) = false := beq_eq_false_iff_ne.2 (by omega)
            have by0 : (y == 0) = false := beq_eq_false_iff_ne.2 hy0
            clear n9 hy0
            go_wp2_with fail
            all_goals
              clear hat
              go_loop [7, 8] (fun n i => ∃ m : Int, -1 ≤ m ∧ m ≤ (t : Int) ∧ i = .int .i64 m ∧ n = .int .u64 (val (l.drop (m + 1).toNat))) (fun _ i => (intOf i + 1).toNat)
              case atStart => exact ⟨(t : Int), by omega, by omega, rfl, by rw [show ((t : Int) + 1).toNat = t + 1 by omega, HEND.out]⟩
              case round =>
                obtain ⟨m, m0, m1, rfl, rfl⟩ := hrel
                by_cases hm : m = -1
                · subst hm
                  have ez : (-1 + 1 : Int).toNat = 0 := rfl
                  rw [ez, HBEG.out]
                  go_wp2_with fail
                  go_ret3
                  exact ⟨by rw [HR2.out]; rfl, rfl⟩
                · obtain ⟨j, rfl⟩ := Int.eq_ofNat_of_zero_le (show 0 ≤ m by omega)
                  clear hm
                  obtain ⟨z, z0, z1, hz, hzv⟩ := HYN.out j (by omega)
                  have hjx : j < xs.length := by omega
                  have hatj := HAT.out j hjx
                  rw [hz] at hatj
                  have n0 := HNN.out (j + 1)
                  have n1 := HD.out j
                  have n2 := HVV.out
                  have n3 : 128 * val (l.drop (j + 1)) + z % 128 < 18446744073709551616 := by omega
                  have HZV := Lib.hid hzv; clear hzv hz n1 n2
                  have ej : ((j : Int) + 1).toNat = j + 1 := by omega
                  rw [ej]
                  clear ej
                  have ev : val (l.drop j) = 128 * val (l.drop (j + 1)) + z % 128 := by rw [HZV.out]; omega
                  have EV := Lib.hid ev; clear ev
                  generalize val (l.drop (j + 1)) = N at n0 n3 EV ⊢
                  go_wp2_with fail
                  refine ⟨⟨(j : Int) - 1, by omega, by omega, rfl, ?_⟩, by simp [intOf]⟩
                  rw [show ((j : Int) - 1 + 1).toNat = j by omega, EV.out]
          · go_wp2_with fail
            all_goals
              clear hat
              go_loop [7, 8] (fun n i => ∃ m : Int, -1 ≤ m ∧ m ≤ (0 : Int) ∧ i = .int .i64 m ∧ n = .int .u64 (val (l.drop (m + 1).toNat))) (fun _ i => (intOf i + 1).toNat)
              case atStart => exact ⟨(0 : Int), by omega, by omega, rfl, by rw [show ((0 : Int) + 1).toNat = 0 + 1 by omega, HEND.out]⟩
              case round =>
                obtain ⟨m, m0, m1, rfl, rfl⟩ := hrel
                by_cases hm : m = -1
                · subst hm
                  have ez : (-1 + 1 : Int).toNat = 0 := rfl
                  rw [ez, HBEG.out]
                  go_wp2_with fail
                  go_ret3
                  exact ⟨by rw [HR2.out]; rfl, rfl⟩
                · obtain ⟨j, rfl⟩ := Int.eq_ofNat_of_zero_le (show 0 ≤ m by omega)
                  clear hm
                  obtain ⟨z, z0, z1, hz, hzv⟩ := HYN.out j (by omega)
                  have hjx : j < xs.length := by omega
                  have hatj := HAT.out j hjx
                  rw [hz] at hatj
                  have n0 := HNN.out (j + 1)
                  have n1 := HD.out j
                  have n2 := HVV.out
                  have n3 : 128 * val (l.drop (j + 1)) + z % 128 < 18446744073709551616 := by omega
                  have HZV := Lib.hid hzv; clear hzv hz n1 n2
                  have ej : ((j : Int) + 1).toNat = j + 1 := by omega
                  rw [ej]
                  clear ej
                  have ev : val (l.drop j) = 128 * val (l.drop (j + 1)) + z % 128 := by rw [HZV.out]; omega
                  have EV := Lib.hid ev; clear ev
                  generalize val (l.drop (j + 1)) = N at n0 n3 EV ⊢
                  go_wp2_with fail
                  refine ⟨⟨(j : Int) - 1, by omega, by omega, rfl, ?_⟩, by simp [intOf]⟩
                  rw [show ((j : Int) - 1 + 1).toNat = j by omega, EV.out]

/-- Is there a byte below 128 among the first ten, and which is the first? -/
theorem first_of (xs : List Int) : ∀ k : Nat, (∀ j, j < xs.length → j < k → 128 ≤ xs.getD j 0) ∨ ∃ t, t < k ∧ t < xs.length ∧ (∀ j, j < t → 128 ≤ xs.getD j 0) ∧ xs.getD t 0 < 128 := by
  intro k
  induction k with
  | zero => exact .inl fun _ _ h => absurd h (Nat.not_lt_zero _)
  | succ k ih =>
    rcases ih with h | ⟨t, h1, h2, h3, h4⟩
    · by_cases hk : k < xs.length
      · by_cases hx : xs.getD k 0 < 128
        · exact .inr ⟨k, by omega, hk, fun j hj => h j (by omega) hj, hx⟩
        · exact .inl fun j h1 h2 => by
            by_cases e : j = k
            · subst e; omega
            · exact h j h1 (by omega)
      · exact .inl fun j h1 h2 => h j h1 (by omega)
    · exact .inr ⟨t, by omega, h2, h3, h4⟩

/-- The document's Get. -/
theorem rget_any (xs : List Int) (hb : ∀ x ∈ xs, 0 ≤ x ∧ x < 256) (hl : xs.length ≤ 9223372036854775807) (w : World) :
    Calls Tryz.prog 9 #[.string (strOfNums xs)] w fun e w' => e = .returned (.tuple #[.int .u64 (getI xs).1, .int .i64 (getI xs).2.1, .int .i64 (getI xs).2.2]) ∧ w = w' := by
  rcases first_of xs 10 with h | ⟨t, h1, h2, h3, h4⟩
  · by_cases h10 : xs.length < 10
    · have e := lenI_short xs h10 (fun j hj => h j hj (by omega))
      have eg : getI xs = (0, 0, 2) := by unfold getI; rw [e]; rfl
      rw [eg]
      exact rget_none xs hb hl h 2 (by rw [if_pos h10]) w
    · have e := lenI_long xs (by omega) (fun j hj => h j (by omega) hj)
      have eg : getI xs = (0, 0, 3) := by unfold getI; rw [e]; rfl
      rw [eg]
      exact rget_none xs hb hl h 3 (by rw [if_neg h10]) w
  · have e := lenI_found xs t h1 h3 h2 h4
    refine rget_some xs hb hl t h2 h1 h3 h4 (fun h0 => ?_) _ ?_ w
    · have h2' : (lenI 0 xs).2 = 0 := by rw [e]; exact h0
      have := (getI_back xs hb h2').2.2.2.2
      rw [e] at this
      exact this
    · unfold getI
      rw [e]
      by_cases h0 : lastI t (xs.getD t 0) = 0
      · simp only [h0, if_true]
      · simp only [h0, if_false]
        rfl
#print axioms rget_any
end Go.Proofs.YtfknibjejnmghaaGreat
