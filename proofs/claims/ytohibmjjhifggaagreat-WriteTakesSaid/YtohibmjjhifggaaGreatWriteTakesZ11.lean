/-
  What the theorem of WriteTakes rests on, part 11 of 11.
-/
import Derived.OpenShut
import Derived.Lib.SmallJoins
import Derived.Test.YtohibmjjhifggaaGreatWriteTakesZ10
namespace Go.Proofs.YtohibmjjhifggaaGreat
open Go.RowKit Go.ChangeShapes Go.WideShapes
set_option linter.unusedVariables false
/-- What holds at the outer loop's head of the document's own Sizes. -/
def RsRel (w : World) (n : Nat) (sig : List Pr) (ps : List Pm) (most : Int) (L : List Nat) (gk : Nat) (av ov : Value) (wr : World) : Prop :=
  ∃ (a : Nat) (ks : List Nat) (cc : Nat) (A1 : Option Addr), av = .int .i64 a ∧ ov = .slice A1 ks.length cc ∧ a ≤ n ∧ Hid (n - a ≤ gk) ∧ Hid (ks.length ≤ a) ∧ Hid (wr.ownsRow w.heap.size 3 1 (.slice A1 ks.length cc) ks.length (szVs ks)) ∧ Hid (L = ks ++ sizesC sig (ps.drop a) most) ∧ Hid (Below w.heap.size w wr)
theorem RsRel.next {w w3 : World} {n a z k1 c3 : Nat} {sig : List Pr} {ps : List Pm} {most : Int} {L ks : List Nat} {A3 : Option Addr}
    (ho : w3.ownsRow w.heap.size 3 1 (.slice A3 (ks.length + 1) c3) (ks.length + 1) (szVs (ks ++ [z]))) (hb : Below w.heap.size w w3) (hc : COk sig ps most) (hl : L = ks ++ sizesC sig (ps.drop a) most) (hlt : a < n) (hn : ps.length = n) (hk : firstC sig (ps.drop a) most = k1) (hz : z = k1) (hka : ks.length ≤ a) :
    RsRel w n sig ps most L (n - (a + z)) (.int .i64 ((a : Int) + (z : Int))) (.slice A3 (ks.length + 1) c3) w3 := by
  subst hz
  have h0 : 0 < (ps.drop a).length := by rw [List.length_drop]; omega
  have hf := (hc.drop a).first h0
  rw [hk, List.length_drop] at hf
  have hs := (hc.drop a).sizes h0
  rw [hk, List.drop_drop] at hs
  refine ⟨a + z, ks ++ [z], c3, A3, by rw [Int.natCast_add], by rw [List.length_append]; rfl, by omega, Lib.hid (Nat.le_refl _), Lib.hid (by rw [List.length_append]; simp; omega), Lib.hid (by rw [List.length_append]; exact ho), Lib.hid ?_, Lib.hid hb⟩
  rw [hl, hs, List.append_assoc]
  rfl
section
variable (A : Option Addr) (c : Nat) (ds : List Pd) (T : Option Addr) (ct : Nat) (ps : List Pm) (most : Int) (w : World)
set_option maxRecDepth 100000 in
set_option maxHeartbeats 4000000 in
theorem rsizes_any (hrow : PredRow w w.heap.size (.slice A ds.length c) ds) (ht : TrRow w w.heap.size (.slice T ps.length ct) ps) (hlen : ps.length ≤ 4398046510976) :
    Calls Tryz.prog 30 #[.slice A ds.length c, .slice T ps.length ct, .int .i64 most] w (SzGot w (sizesR (ds.map (·.p)) ps most)) := by
  obtain ⟨-, hc1, hc2⟩ := ht.1.len
  have bN : Below w.heap.size w (w.alloc (.cells #[] 3)) := (Below.refl _ _).alloc (Nat.le_refl _) _
  have HNO := Lib.hid (own_none1 w w.heap.size 3 (Nat.le_refl _))
  have HBN := Lib.hid bN
  unfold SzGot sizesR whyC
  by_cases h0 : most < 1
  · rw [if_pos h0, if_neg (by decide)]
    clear hrow ht bN
    go_enter Tryz.func30, Tryz.ntmps30
    go_wp2_with fail
    go_ret2
    exact ⟨_, _, rfl, HNO.out, HBN.out⟩
  · rw [if_neg h0]
    have HCK := Lib.hid (rtcheck_any A c ds T ct ps (w.alloc (.cells #[] 3)) ((hrow.below bN).more bN.size) ((ht.below bN).more bN.size))
    by_cases h1 : (checkT (ds.map (·.p)) (ps.map (·.p))).1 = 0
    · rw [if_neg (show ¬ (checkT (ds.map (·.p)) (ps.map (·.p))).1 ≠ 0 from fun h => h h1)]
      rw [h1] at HCK
      generalize (checkT (ds.map (·.p)) (ps.map (·.p))).2 = C2 at HCK
      have hsok : SOk (ds.map (·.p)) ps := ⟨h1, ht.fits⟩
      have HTX := Lib.hid (fun (a z m : Nat) (hm : m = z) (h1 : 1 ≤ z) (h2 : z ≤ 1024) (h3 : a + z ≤ ps.length) (W : World) (h : Below w.heap.size w W) => show Calls Tryz.prog 49 #[.slice (T.map (fun x => x.add (a * 2))) m (ct - a)] W fun e w' => e = .returned (.string (strOfNums (payB ((ps.drop a).take z)))) ∧ Below W.heap.size W w' from by
        have hl : ((ps.drop a).take z).length = z := by rw [List.length_take, List.length_drop]; omega
        have hr := (ht.drop (k := a) (A' := T.map (fun x => x.add (a * 2))) (by omega) (Or.inr rfl)).take (k := z) (by rw [List.length_drop]; omega)
        have hh := rtext_any (T.map (fun x => x.add (a * 2))) (ct - a) ((ps.drop a).take z) W ((hr.below h).more h.size) (((hsok.drop a).take z).bok (by omega)) (by omega)
        rw [hl] at hh
        rw [hm]
        exact hh)
      have HS := Lib.hid hsok
      have HFT := Lib.hid ht.fits
      have HWHY := Lib.hid (show whyC (ds.map (·.p)) ps most = if aloneC (ds.map (·.p)) ps = true then 0 else 6 by unfold whyC; rw [if_neg h0, if_neg (fun h => h h1)])
      obtain ⟨R, hR⟩ : ∃ R : List Nat × Int, (if (if aloneC (ds.map (·.p)) ps = true then (0 : Int) else 6) = 0 then (sizesC (ds.map (·.p)) ps most, (0 : Int)) else ([], if aloneC (ds.map (·.p)) ps = true then (0 : Int) else 6)) = R := ⟨_, rfl⟩
      rw [hR]
      have HR := Lib.hid hR
      clear hrow ht h1 hR hsok bN
      obtain ⟨n, hn⟩ : ∃ n, ps.length = n := ⟨_, rfl⟩
      rw [hn] at HCK HTX hc1 hlen ⊢
      have HN := Lib.hid hn
      clear hn
      obtain ⟨i0, hi, hy0, hy1, hy2⟩ := info_parts Tryz.infoIntB
      obtain ⟨wN, hwN⟩ : ∃ wN, w.alloc (.cells #[] 3) = wN := ⟨_, rfl⟩
      rw [hwN] at HCK HNO HBN
      have hsN : w.heap.size ≤ wN.heap.size := HBN.out.size
      go_enter Tryz.func30, Tryz.ntmps30
      go_wp2_with fail
      clear hwN
      refine HCK.out.mono ?_
      rintro e w1 ⟨rfl, hb1⟩
      have HNO1 := Lib.hid (own_below HNO.out hb1)
      have HB1 := Lib.hid (HBN.out.trans (hb1.mono hsN))
      clear hb1
      go_wp2_with fail
      go_loopg [11] n (fun gk i wr => ∃ k : Nat, i = .int .i64 k ∧ k ≤ n ∧ Hid (n - k = gk) ∧ Hid (∀ (j : Nat) (p : Pm), j < k → ps[j]? = some p → fitB (ds.map (·.p)) [p] = true) ∧ Hid (Below w1.heap.size w1 wr))
      case atStart => exact ⟨0, rfl, Nat.zero_le _, Lib.hid rfl, Lib.hid (fun j p hj _ => absurd hj (Nat.not_lt_zero _)), Lib.hid (Below.refl _ _)⟩
      case round =>
        obtain ⟨k, rfl, hk, HGK, HALL, HB⟩ := hrel
        by_cases hlt : k < n
        · obtain ⟨d, hd⟩ : ∃ d, ps[k]? = some d := ⟨_, List.getElem?_eq_getElem (by rw [HN.out]; exact hlt)⟩
          have hdt : (ps.drop k).take 1 = [d] := by rw [List.take_add_one, List.getElem?_drop, show k + 0 = k from rfl, hd]; rfl
          have htx := HTX.out k 1 1 rfl (Nat.le_refl _) (by omega) (by omega) wr (HB1.out.trans (HB.out.mono HB1.out.size))
          have hfd := fitB_of (((HS.out.drop k).takes (n := 1) (Nat.le_refl _) (by omega) (by rw [List.length_drop, HN.out]; omega)))
          rw [hdt] at htx hfd
          obtain ⟨X, hX⟩ : ∃ X, payB [d] = X := ⟨_, rfl⟩
          rw [hX] at htx hfd
          have hss : (strOfNums X).size = X.length := strOfNums_size X
          have HTXT := Lib.hid htx
          have HD := Lib.hid hd
          have HFD := Lib.hid hfd
          have hne : ¬ ct = k := by omega
          clear htx hd hdt hfd hX
          by_cases hbig : 4096 < X.length
          · have hbi : (4096 : Int) < (X.length : Int) := by omega
            have hR6 : R = ([], 6) := by
              have ha : aloneC (ds.map (·.p)) ps = false := aloneC_no HD.out (by rw [HFD.out]; simp; omega)
              rw [← HR.out, ha]
              rfl
            have HR6 := Lib.hid hR6
            clear hR6
            go_wp2_with fail
            refine HTXT.out.mono ?_
            rintro e w5 ⟨rfl, hb5⟩
            have HNO5 := Lib.hid (own_below (own_below HNO1.out HB.out) hb5)
            have HB5 := Lib.hid (HB1.out.trans ((HB.out.trans (hb5.mono HB.out.size)).mono HB1.out.size))
            clear hb5
            go_wp2_with fail
            go_ret2
            exact ⟨some ⟨w.heap.size, 0, none⟩, 0, by rw [HR6.out]; rfl, by rw [HR6.out]; exact HNO5.out, HB5.out⟩
          · have hbi : ¬ (4096 : Int) < (X.length : Int) := by omega
            have HF1 := Lib.hid (show fitB (ds.map (·.p)) [d] = true by rw [HFD.out]; simp; omega)
            go_wp2_with fail
            refine HTXT.out.mono ?_
            rintro e w5 ⟨rfl, hb5⟩
            have HB5 := Lib.hid (HB.out.trans (hb5.mono HB.out.size))
            clear hb5
            go_wp2_with fail
            go_roundg (n - (k + 1))
            case measure => have := HGK.out; omega
            case rel => exact ⟨k + 1, by go_num, by omega, Lib.hid rfl, Lib.hid (fun j p hj hp => by
              by_cases hjk : j = k
              · subst hjk
                rw [HD.out] at hp
                injection hp with hp
                rw [← hp]
                exact HF1.out
              · exact HALL.out j p (by omega) hp), HB5⟩
        · obtain rfl : n = k := by omega
          have hal : aloneC (ds.map (·.p)) ps = true := aloneC_yes (fun j p hp => HALL.out j p (by rw [← HN.out]; exact (List.getElem?_eq_some_iff.1 hp).1) hp)
          have hRR : R = (sizesC (ds.map (·.p)) ps most, 0) := by rw [← HR.out, hal]; rfl
          have HC := Lib.hid (cok_of (by rw [HWHY.out, hal]; rfl) HFT.out)
          obtain ⟨L, hL⟩ : ∃ L, sizesC (ds.map (·.p)) ps most = L := ⟨_, rfl⟩
          rw [hL] at hRR
          have HL := Lib.hid hL
          subst hRR
          obtain ⟨w2, hw2⟩ : ∃ w2, w2 = wr := ⟨_, rfl⟩
          subst hw2
          have b3 := (Below.refl w2.heap.size w2).alloc (Nat.le_refl _) (.cells #[] 3)
          have hzw : w.heap.size ≤ w2.heap.size := (HB1.out.trans (HB.out.mono HB1.out.size)).size
          have HO3 := Lib.hid (own_none1 w2 w.heap.size 3 hzw)
          have HB3 := Lib.hid ((HB1.out.trans (HB.out.mono HB1.out.size)).trans (b3.mono hzw))
          have RNEXT := @RsRel.next w
          clear hal hL b3
          by_cases hm : (1024 : Int) < most
          all_goals (
          go_wp2_with fail
          go_loopg [13, 12] n (fun gk av ov wr => RsRel w n (ds.map (·.p)) ps most L gk av ov wr)
          case atStart => exact ⟨0, [], 0, some ⟨w2.heap.size, 0, none⟩, rfl, rfl, Nat.zero_le _, Lib.hid (Nat.sub_le _ _), Lib.hid (Nat.le_refl _), HO3, Lib.hid (by rw [List.nil_append, List.drop_zero]; exact HL.out.symm), HB3⟩
          case round =>
            obtain ⟨a, ks, cc, A1, rfl, rfl, ha, HGA, HKA, HOW, HLQ, HB⟩ := hrel
            by_cases hlt : a < n
            · obtain ⟨k1, hk1⟩ : ∃ k1, firstC (ds.map (·.p)) (ps.drop a) most = k1 := ⟨_, rfl⟩
              have hf := (HC.out.drop a).first (by rw [List.length_drop, HN.out]; omega)
              rw [hk1, List.length_drop, HN.out] at hf
              have HK1 := Lib.hid hk1
              obtain ⟨hf1, hf2, hf3, hf4, hf5⟩ := hf
              have HF5 := Lib.hid hf5
              clear hk1 hf5
              obtain ⟨wx, hwx⟩ : ∃ wx, wx = wr := ⟨_, rfl⟩
              subst hwx
              go_wp2_with fail
              go_loopg [14] n (fun gm v wr => ∃ z : Nat, v = .int .i64 z ∧ z ≤ k1 ∧ Hid (n - z = gm) ∧ Hid (Below wx.heap.size wx wr))
              case atStart => exact ⟨0, rfl, Nat.zero_le _, Lib.hid rfl, Lib.hid (Below.refl _ _)⟩
              case round =>
                obtain ⟨z, rfl, hz, HGZ, HBI⟩ := hrel
                have hct : ¬ ct = a := by omega
                by_cases hzk : z < k1
                · have htx := HTX.out a (z + 1) (a + z + 1 - a) (by omega) (by omega) (by omega) (by omega) wr (HB.out.trans (HBI.out.mono HB.out.size))
                  have hfit := (HC.out.drop a).ok.fewer (m := z + 1) (n := k1) (by omega) (by omega) (by omega) (by rw [List.length_drop, HN.out]; omega) HF5.out
                  rw [fitB_of ((HC.out.drop a).ok.takes (n := z + 1) (by omega) (by omega) (by rw [List.length_drop, HN.out]; omega)), decide_eq_true_iff] at hfit
                  obtain ⟨X, hX⟩ : ∃ X, payB ((ps.drop a).take (z + 1)) = X := ⟨_, rfl⟩
                  rw [hX] at htx hfit
                  have hss : (strOfNums X).size = X.length := strOfNums_size X
                  have HTXT := Lib.hid htx
                  have hbi : (X.length : Int) ≤ 4096 := by omega
                  have e1 : (z : Int) < 1024 := by omega
                  have e2 : (z : Int) < most := by omega
                  have e3 : (a : Int) + (z : Int) < (n : Int) := by omega
                  have e4 : (a : Int) + (z : Int) + 1 ≤ (ct : Int) := by omega
                  clear htx hfit hX
                  go_wp2_with fail
                  refine HTXT.out.mono ?_
                  rintro e w5 ⟨rfl, hb5⟩
                  have HB5 := Lib.hid (HBI.out.trans (hb5.mono HBI.out.size))
                  clear hb5
                  go_wp2_with fail
                  go_roundg (n - (z + 1))
                  case measure => have := HGZ.out; omega
                  case rel => exact ⟨z + 1, by go_num, by omega, Lib.hid rfl, HB5⟩
                · obtain rfl : z = k1 := by omega
                  by_cases hx : (z : Int) < 1024 ∧ (z : Int) < most
                  · obtain ⟨e1, e2⟩ := hx
                    by_cases hx2 : a + z < n
                    · have htx := HTX.out a (z + 1) (a + z + 1 - a) (by omega) (by omega) (by omega) (by omega) wr (HB.out.trans (HBI.out.mono HB.out.size))
                      have hover := (HC.out.drop a).noMore (k := z) HK1.out (by rw [List.length_drop, HN.out]; omega) (by omega) e2
                      rw [putB_of ((HC.out.drop a).ok.takes (n := z + 1) (by omega) (by omega) (by rw [List.length_drop, HN.out]; omega))] at hover
                      obtain ⟨X, hX⟩ : ∃ X, payB ((ps.drop a).take (z + 1)) = X := ⟨_, rfl⟩
                      rw [hX] at htx hover
                      have hbig : 4096 < X.length := by
                        rcases Nat.lt_or_ge 4096 X.length with h | h
                        · exact h
                        · rw [if_neg (by omega)] at hover; cases hover
                      have hss : (strOfNums X).size = X.length := strOfNums_size X
                      have HTXT := Lib.hid htx
                      have hbi : ¬ (X.length : Int) ≤ 4096 := by omega
                      have e3 : (a : Int) + (z : Int) < (n : Int) := by omega
                      have e4 : (a : Int) + (z : Int) + 1 ≤ (ct : Int) := by omega
                      clear htx hover hX
                      go_wp2_with fail
                      refine HTXT.out.mono ?_
                      rintro e w5 ⟨rfl, hb5⟩
                      have HBI := Lib.hid (HBI.out.trans (hb5.mono HBI.out.size))
                      clear hb5
                      obtain ⟨wr, hwr⟩ : ∃ wr, wr = w5 := ⟨_, rfl⟩
                      subst hwr
                      obtain ⟨wy, hwy⟩ : ∃ wy, wy = wr := ⟨_, rfl⟩
                      subst hwy
                      have HO := Lib.hid (own_below (own_below HOW.out HBI.out) ((Below.refl wy.heap.size wy).alloc (Nat.le_refl _) (.cells #[.int .i64 (z : Int)] 3)))
                      have HER := Lib.hid (ERow.new wy 3 [.int .i64 (z : Int)] (n := 1) (by unfold maxLen; omega))
                      have HBA := Lib.hid (((HB.out.trans (HBI.out.mono HB.out.size)).trans (((Below.refl wy.heap.size wy).alloc (Nat.le_refl _) (.cells #[.int .i64 (z : Int)] 3)).mono (Nat.le_trans HB.out.size HBI.out.size))))
                      have hyw : w.heap.size ≤ wy.heap.size := Nat.le_trans HB.out.size HBI.out.size
                      go_wp2_with (at_builtin; refine wpList_append_erow _ rfl _ _ 49 3 rfl w.heap.size i0 (.int .i64 0) 1 8 Tryz.underlying49 hi hy0 hy1 hy2 rfl (by decide) (.slice A1 ks.length cc) ks.length (szVs ks) (by rfl) HO.out (wy.heap.size + 1) (.slice (some ⟨wy.heap.size, 0, none⟩) 1 1) 1 [.int .i64 (z : Int)] (by rfl) (by simpa using HER.out) rfl (by simp [Value.oneCell']) (by have := HKA.out; unfold maxLen; omega) (by have := HKA.out; omega) (by rw [World.size_alloc]; omega) (ks.length + 1) rfl (szVs (ks ++ [z])) (szVs_snoc _ _) ?_; intro A3 c3 w3 hown3 hg3 hat3; have HO3 := Lib.hid hown3; have HB3 := Lib.hid (HBA.out.grown hg3 (by rw [World.size_alloc]; omega) (fun j e => (World.ownsRow.lt HO.out j e).1)); clear hown3 hg3 hat3)
                      go_roundg (n - (a + z))
                      case measure => have := HGA.out; omega
                      case rel => exact RNEXT HO3.out HB3.out HC.out HLQ.out hlt HN.out HK1.out rfl HKA.out
                    · have e3 : ¬ (a : Int) + (z : Int) < (n : Int) := by omega
                      obtain ⟨wy, hwy⟩ : ∃ wy, wy = wr := ⟨_, rfl⟩
                      subst hwy
                      have HO := Lib.hid (own_below (own_below HOW.out HBI.out) ((Below.refl wy.heap.size wy).alloc (Nat.le_refl _) (.cells #[.int .i64 (z : Int)] 3)))
                      have HER := Lib.hid (ERow.new wy 3 [.int .i64 (z : Int)] (n := 1) (by unfold maxLen; omega))
                      have HBA := Lib.hid (((HB.out.trans (HBI.out.mono HB.out.size)).trans (((Below.refl wy.heap.size wy).alloc (Nat.le_refl _) (.cells #[.int .i64 (z : Int)] 3)).mono (Nat.le_trans HB.out.size HBI.out.size))))
                      have hyw : w.heap.size ≤ wy.heap.size := Nat.le_trans HB.out.size HBI.out.size
                      go_wp2_with (at_builtin; refine wpList_append_erow _ rfl _ _ 49 3 rfl w.heap.size i0 (.int .i64 0) 1 8 Tryz.underlying49 hi hy0 hy1 hy2 rfl (by decide) (.slice A1 ks.length cc) ks.length (szVs ks) (by rfl) HO.out (wy.heap.size + 1) (.slice (some ⟨wy.heap.size, 0, none⟩) 1 1) 1 [.int .i64 (z : Int)] (by rfl) (by simpa using HER.out) rfl (by simp [Value.oneCell']) (by have := HKA.out; unfold maxLen; omega) (by have := HKA.out; omega) (by rw [World.size_alloc]; omega) (ks.length + 1) rfl (szVs (ks ++ [z])) (szVs_snoc _ _) ?_; intro A3 c3 w3 hown3 hg3 hat3; have HO3 := Lib.hid hown3; have HB3 := Lib.hid (HBA.out.grown hg3 (by rw [World.size_alloc]; omega) (fun j e => (World.ownsRow.lt HO.out j e).1)); clear hown3 hg3 hat3)
                      go_roundg (n - (a + z))
                      case measure => have := HGA.out; omega
                      case rel => exact RNEXT HO3.out HB3.out HC.out HLQ.out hlt HN.out HK1.out rfl HKA.out
                  · first
                      | (have e1 : ¬ (z : Int) < 1024 := by omega
                         obtain ⟨wy, hwy⟩ : ∃ wy, wy = wr := ⟨_, rfl⟩
                         subst hwy
                         have HO := Lib.hid (own_below (own_below HOW.out HBI.out) ((Below.refl wy.heap.size wy).alloc (Nat.le_refl _) (.cells #[.int .i64 (z : Int)] 3)))
                         have HER := Lib.hid (ERow.new wy 3 [.int .i64 (z : Int)] (n := 1) (by unfold maxLen; omega))
                         have HBA := Lib.hid (((HB.out.trans (HBI.out.mono HB.out.size)).trans (((Below.refl wy.heap.size wy).alloc (Nat.le_refl _) (.cells #[.int .i64 (z : Int)] 3)).mono (Nat.le_trans HB.out.size HBI.out.size))))
                         have hyw : w.heap.size ≤ wy.heap.size := Nat.le_trans HB.out.size HBI.out.size
                         go_wp2_with (at_builtin; refine wpList_append_erow _ rfl _ _ 49 3 rfl w.heap.size i0 (.int .i64 0) 1 8 Tryz.underlying49 hi hy0 hy1 hy2 rfl (by decide) (.slice A1 ks.length cc) ks.length (szVs ks) (by rfl) HO.out (wy.heap.size + 1) (.slice (some ⟨wy.heap.size, 0, none⟩) 1 1) 1 [.int .i64 (z : Int)] (by rfl) (by simpa using HER.out) rfl (by simp [Value.oneCell']) (by have := HKA.out; unfold maxLen; omega) (by have := HKA.out; omega) (by rw [World.size_alloc]; omega) (ks.length + 1) rfl (szVs (ks ++ [z])) (szVs_snoc _ _) ?_; intro A3 c3 w3 hown3 hg3 hat3; have HO3 := Lib.hid hown3; have HB3 := Lib.hid (HBA.out.grown hg3 (by rw [World.size_alloc]; omega) (fun j e => (World.ownsRow.lt HO.out j e).1)); clear hown3 hg3 hat3)
                         go_roundg (n - (a + z))
                         case measure => have := HGA.out; omega
                         case rel => exact RNEXT HO3.out HB3.out HC.out HLQ.out hlt HN.out HK1.out rfl HKA.out)
                      | (have e1 : ¬ (z : Int) < most := by omega
                         obtain ⟨wy, hwy⟩ : ∃ wy, wy = wr := ⟨_, rfl⟩
                         subst hwy
                         have HO := Lib.hid (own_below (own_below HOW.out HBI.out) ((Below.refl wy.heap.size wy).alloc (Nat.le_refl _) (.cells #[.int .i64 (z : Int)] 3)))
                         have HER := Lib.hid (ERow.new wy 3 [.int .i64 (z : Int)] (n := 1) (by unfold maxLen; omega))
                         have HBA := Lib.hid (((HB.out.trans (HBI.out.mono HB.out.size)).trans (((Below.refl wy.heap.size wy).alloc (Nat.le_refl _) (.cells #[.int .i64 (z : Int)] 3)).mono (Nat.le_trans HB.out.size HBI.out.size))))
                         have hyw : w.heap.size ≤ wy.heap.size := Nat.le_trans HB.out.size HBI.out.size
                         go_wp2_with (at_builtin; refine wpList_append_erow _ rfl _ _ 49 3 rfl w.heap.size i0 (.int .i64 0) 1 8 Tryz.underlying49 hi hy0 hy1 hy2 rfl (by decide) (.slice A1 ks.length cc) ks.length (szVs ks) (by rfl) HO.out (wy.heap.size + 1) (.slice (some ⟨wy.heap.size, 0, none⟩) 1 1) 1 [.int .i64 (z : Int)] (by rfl) (by simpa using HER.out) rfl (by simp [Value.oneCell']) (by have := HKA.out; unfold maxLen; omega) (by have := HKA.out; omega) (by rw [World.size_alloc]; omega) (ks.length + 1) rfl (szVs (ks ++ [z])) (szVs_snoc _ _) ?_; intro A3 c3 w3 hown3 hg3 hat3; have HO3 := Lib.hid hown3; have HB3 := Lib.hid (HBA.out.grown hg3 (by rw [World.size_alloc]; omega) (fun j e => (World.ownsRow.lt HO.out j e).1)); clear hown3 hg3 hat3)
                         go_roundg (n - (a + z))
                         case measure => have := HGA.out; omega
                         case rel => exact RNEXT HO3.out HB3.out HC.out HLQ.out hlt HN.out HK1.out rfl HKA.out)
            · obtain rfl : n = a := by omega
              have hlk : L = ks := by rw [HLQ.out, List.drop_of_length_le (by rw [HN.out]; exact Nat.le_refl _), sizesC_nil, List.append_nil]
              have HLK := Lib.hid hlk
              clear hlk
              go_wp2_with fail
              go_ret2
              exact ⟨A1, cc, by rw [HLK.out]; rfl, by rw [HLK.out]; exact HOW.out, HB.out⟩)
    · rw [if_pos h1]
      have hne : ((checkT (ds.map (·.p)) (ps.map (·.p))).1 != 0) = true := bne_iff_ne.2 h1
      generalize checkT (ds.map (·.p)) (ps.map (·.p)) = C at HCK h1 hne ⊢
      rw [if_neg h1]
      clear hrow ht h1 bN
      go_enter Tryz.func30, Tryz.ntmps30
      go_wp2_with fail
      refine HCK.out.mono ?_
      rintro e w1 ⟨rfl, hb1⟩
      have HNO1 := Lib.hid (own_below HNO.out hb1)
      have HB1 := Lib.hid (HBN.out.trans (hb1.mono HBN.out.size))
      clear hb1
      go_wp2_with fail
      go_ret2
      exact ⟨_, _, rfl, HNO1.out, HB1.out⟩
end
end Go.Proofs.YtohibmjjhifggaaGreat
namespace Go.Proofs.YtohibmjjhifggaaGreat
open Go.RowKit Go.ChangeShapes Go.WideShapes
set_option linter.unusedVariables false
theorem Tryz.infoStrW : (Tryz.prog.info? 9).map (fun i => (i.zero, i.size, i.bytes)) = some (some (.string ⟨#[]⟩), 1, 16) := by kernel_rfl
theorem own_row1 (w : World) (base : Nat) (e : TypeId) (us : List Value) (hb : base ≤ w.heap.size) (hl : us.length ≤ 1000) : (w.alloc (.cells us.toArray e)).ownsRow base e 1 (.slice (some ⟨w.heap.size, 0, none⟩) us.length us.length) us.length us :=
  ⟨by simp, .inr ⟨w.heap.size, us.length, us.toArray, rfl, hb, heap_alloc_new w _, Nat.le_refl _, by unfold maxLen; omega, by simp, by simp⟩⟩
theorem flat_take (L : List (List Int)) (k : Nat) : ((L.take k).flatten).length ≤ L.flatten.length := by
  have h : L.flatten = (L.take k).flatten ++ (L.drop k).flatten := by rw [← List.flatten_append, List.take_append_drop]
  rw [h, List.length_append]
  omega
theorem flat_le {b : Nat} : ∀ (L : List (List Int)), (∀ t ∈ L, t.length ≤ b) → L.flatten.length ≤ b * L.length
  | [], _ => by simp
  | t :: L, h => by
    have h1 := h t (List.mem_cons_self ..)
    have h2 := flat_le L (fun x hx => h x (List.mem_cons_of_mem _ hx))
    rw [List.flatten_cons, List.length_append, List.length_cons, Nat.mul_succ]
    omega
set_option maxRecDepth 100000 in
set_option maxHeartbeats 1000000 in
theorem rjoin_any (A : Option Addr) (c : Nat) (L : List (List Int)) (w : World) (hrow : ERow w w.heap.size (.slice A L.length c) L.length (strVs L)) (hl : L.flatten.length ≤ 9223372036854775807) :
    Calls Tryz.prog 12 #[.slice A L.length c] w fun e w' => e = .returned (.string (strOfNums L.flatten)) ∧ Below w.heap.size w w' := by
  obtain ⟨-, q1, q2⟩ := hrow.len
  have HROW := Lib.hid hrow
  obtain ⟨F, hF⟩ : ∃ F : Nat → List Int, (fun k => (L.take k).flatten) = F := ⟨_, rfl⟩
  have HF := Lib.hid hF
  have hF0 : F 0 = [] := by rw [← hF]; rfl
  have hFn : F L.length = L.flatten := by rw [← hF]; show (L.take L.length).flatten = _; rw [List.take_length]
  rw [← hFn]
  have HF0 := Lib.hid hF0
  have HL := Lib.hid hl
  obtain ⟨n, hn⟩ : ∃ n, L.length = n := ⟨_, rfl⟩
  rw [hn] at HROW q1 ⊢
  have HN := Lib.hid hn
  clear hrow hF hF0 hFn hl hn
  go_enter Tryz.func12, Tryz.ntmps12
  go_wp2_with fail
  go_loopg [3, 4] n (fun gk s i wr => ∃ k : Nat, i = .int .i64 k ∧ s = .string (strOfNums (F k)) ∧ k ≤ n ∧ Hid (n - k = gk) ∧ Hid (Below w.heap.size w wr))
  case atStart => exact ⟨0, rfl, by rw [HF0.out]; rfl, Nat.zero_le _, Lib.hid rfl, Lib.hid (Below.refl _ _)⟩
  case round =>
    obtain ⟨k, rfl, rfl, hk, HGK, HB⟩ := hrel
    by_cases hlt : k < n
    · obtain ⟨t, ht⟩ : ∃ t, L[k]? = some t := ⟨_, List.getElem?_eq_getElem (by rw [HN.out]; exact hlt)⟩
      obtain ⟨b, o, rfl, hb, hc⟩ := (HROW.out.below HB.out).block (by omega)
      have x0 := hc k _ (strVs_at L ht)
      have hst : F k ++ t = F (k + 1) := by rw [← HF.out]; show (L.take k).flatten ++ t = (L.take (k + 1)).flatten; rw [List.take_add_one, ht, List.flatten_append]; simp
      have hle : (F (k + 1)).length ≤ 9223372036854775807 := by rw [← HF.out]; exact Nat.le_trans (flat_take L _) HL.out
      have hadd := add_to (P := Tryz.prog) hst hle wr
      obtain ⟨F1, hF1⟩ : ∃ F1, F (k + 1) = F1 := ⟨_, rfl⟩
      obtain ⟨F0, hF0⟩ : ∃ F0, F k = F0 := ⟨_, rfl⟩
      rw [hF1] at hle
      rw [hF0, hF1] at hadd
      rw [hF0]
      have HF1 := Lib.hid hF1
      clear hst hF1 hF0 hc ht
      go_wp2_with fail
      go_roundg (n - (k + 1))
      case measure => have := HGK.out; omega
      case rel => exact ⟨k + 1, by go_num, by rw [HF1.out], by omega, Lib.hid rfl, HB⟩
    · obtain rfl : n = k := by omega
      go_wp2_with fail
      go_ret
      exact ⟨rfl, HB.out⟩
/-- What Parts answers, and where. -/
def PtsGot (w : World) (r : List (List Int) × Int) (e : Ending) (W' : World) : Prop :=
  ∃ A c, e = .returned (.tuple #[.slice A r.1.length c, .int .i64 r.2]) ∧ W'.ownsRow w.heap.size 9 1 (.slice A r.1.length c) r.1.length (strVs r.1) ∧ Below w.heap.size w W'
/-- What holds at the loop's head. -/
def RpRel (w : World) (B n m : Nat) (sig : List Pr) (ps : List Pm) (most : Int) (ks : List Nat) (R : List (List Int)) (gk : Nat) (av iv ov : Value) (wr : World) : Prop :=
  ∃ (a k : Nat) (ms : List Nat) (os : List (List Int)) (cc : Nat) (A1 : Option Addr), av = .int .i64 a ∧ iv = .int .i64 k ∧ ov = .slice A1 os.length cc ∧ a ≤ n ∧ k ≤ m ∧ Hid (m - k = gk) ∧ Hid (os.length = k + 1) ∧ Hid (ks.drop k = ms) ∧ Hid (CutC sig most (ps.drop a) ms) ∧
    Hid (wr.ownsRow B 9 1 (.slice A1 os.length cc) os.length (strVs os)) ∧ Hid (os ++ (cutsOf ms (ps.drop a)).map (frB sig) = R) ∧ Hid (Below w.heap.size w wr)
theorem RpRel.next {w w3 : World} {B n m a k z c3 : Nat} {sig : List Pr} {ps : List Pm} {most : Int} {ks ms : List Nat} {os R : List (List Int)} {A3 : Option Addr} {X : List Int}
    (ho : w3.ownsRow B 9 1 (.slice A3 (os.length + 1) c3) (os.length + 1) (strVs (os ++ [X]))) (hb : Below w.heap.size w w3) (hk : k < m) (hol : os.length = k + 1) (hms : ks.drop k = z :: ms) (hct : CutC sig most ((ps.drop a).drop z) ms) (haz : a + z ≤ n)
    (hX : frB sig ((ps.drop a).take z) = X) (hr : os ++ (cutsOf (z :: ms) (ps.drop a)).map (frB sig) = R) :
    RpRel w B n m sig ps most ks R (m - (k + 1)) (.int .i64 ((a : Int) + (z : Int))) (.int .i64 ((k : Int) + 1)) (.slice A3 (os.length + 1) c3) w3 := by
  have hms2 : ks.drop (k + 1) = ms := by
    have : (ks.drop k).drop 1 = ms := by rw [hms]; rfl
    rwa [List.drop_drop] at this
  rw [List.drop_drop] at hct
  refine ⟨a + z, k + 1, ms, os ++ [X], c3, A3, by rw [Int.natCast_add], by go_num, by rw [List.length_append]; rfl, haz, hk, Lib.hid rfl, Lib.hid (by rw [List.length_append, hol]; rfl), Lib.hid hms2, Lib.hid hct, Lib.hid (by rw [List.length_append]; exact ho), Lib.hid ?_, Lib.hid hb⟩
  rw [← hr, cutsOf, List.map_cons, hX, List.drop_drop, List.append_assoc]
  rfl
section
variable (A : Option Addr) (c : Nat) (ds : List Pd) (T : Option Addr) (ct : Nat) (ps : List Pm) (most : Int) (w : World)
set_option maxRecDepth 100000 in
set_option maxHeartbeats 2000000 in
theorem rparts_any (hrow : PredRow w w.heap.size (.slice A ds.length c) ds) (ht : TrRow w w.heap.size (.slice T ps.length ct) ps) (hlen : ps.length ≤ 4398046510976) :
    Calls Tryz.prog 11 #[.slice A ds.length c, .slice T ps.length ct, .int .i64 most] w (PtsGot w (partsR (ds.map (·.p)) ps most)) := by
  obtain ⟨-, hc1, hc2⟩ := ht.1.len
  have HSZ := rsizes_any A c ds T ct ps most w hrow ht hlen
  unfold sizesR at HSZ
  unfold PtsGot partsR
  by_cases hw : whyC (ds.map (·.p)) ps most = 0
  · rw [if_pos hw] at HSZ ⊢
    have hcok := cok_of hw ht.fits
    have hcut := COk.cut _ hcok rfl
    have hmn := COk.length hcok _ rfl
    obtain ⟨ks, hks⟩ : ∃ ks, sizesC (ds.map (·.p)) ps most = ks := ⟨_, rfl⟩
    obtain ⟨R, hR⟩ : ∃ R, partsW (ds.map (·.p)) ps most = R := ⟨_, rfl⟩
    have HR := Lib.hid (show [(frameS (ds.map (·.p))).1] ++ (cutsOf ks ps).map (frB (ds.map (·.p))) = R by rw [← hR, ← hks]; rfl)
    rw [hks] at HSZ hcut hmn
    rw [hR]
    obtain ⟨m, hm⟩ : ∃ m, ks.length = m := ⟨_, rfl⟩
    have HSZ2 : Calls Tryz.prog 30 #[.slice A ds.length c, .slice T ps.length ct, .int .i64 most] w fun e W' => ∃ As cs, e = .returned (.tuple #[.slice As m cs, .int .i64 0]) ∧ W'.ownsRow w.heap.size 3 1 (.slice As m cs) m (szVs ks) ∧ Below w.heap.size w W' := by rw [← hm]; exact HSZ
    have HSZ := Lib.hid HSZ2
    have HFR := Lib.hid (fun (a z q : Nat) (hq : q = z) (h3 : a + z ≤ ps.length) (W : World) (h : Below w.heap.size w W) => show Calls Tryz.prog 31 #[.slice A ds.length c, .slice (T.map (fun x => x.add (a * 2))) q (ct - a)] W fun e w' => e = .returned (.tuple #[.string (strOfNums (frameB (ds.map (·.p)) ((ps.drop a).take z)).1), .int .i64 (frameB (ds.map (·.p)) ((ps.drop a).take z)).2]) ∧ Below W.heap.size W w' from by
      have hl : ((ps.drop a).take z).length = z := by rw [List.length_take, List.length_drop]; omega
      have hr := (ht.drop (k := a) (A' := T.map (fun x => x.add (a * 2))) (by omega) (Or.inr rfl)).take (k := z) (by rw [List.length_drop]; omega)
      have hh := rframe14_any A c ds (T.map (fun x => x.add (a * 2))) (ct - a) ((ps.drop a).take z) W ((hrow.below h).more h.size) ((hr.below h).more h.size)
      rw [hl] at hh
      rw [hq]
      exact hh)
    have HHD := Lib.hid (fun (W : World) (h : Below w.heap.size w W) => rsbframe_any A c ds W ((hrow.below h).more h.size))
    have HCUT := Lib.hid hcut
    obtain ⟨n, hn⟩ : ∃ n, ps.length = n := ⟨_, rfl⟩
    rw [hm, hn] at hmn
    rw [hn] at HSZ HFR hc1 hlen ⊢
    have HN := Lib.hid hn
    have HM := Lib.hid hm
    generalize frameS (ds.map (·.p)) = S at HR HHD
    clear hrow ht hcok hcut hw hks HSZ2 hR hm hn
    obtain ⟨i0, hi, hy0, hy1, hy2⟩ := info_parts Tryz.infoStrW
    go_enter Tryz.func11, Tryz.ntmps11
    go_wp2_with fail
    refine HSZ.out.mono ?_
    rintro e w1 ⟨As, cs, rfl, hown, hb1⟩
    have HKS := Lib.hid (ERow.of_own hown)
    have HB1 := Lib.hid hb1
    clear hown hb1
    go_wp2_with fail
    refine (HHD.out w1 HB1.out).mono ?_
    rintro e w2 ⟨rfl, hb2⟩
    obtain ⟨w3, hw3⟩ : ∃ w3, w2.alloc (.cells #[.string (strOfNums S.1)] 9) = w3 := ⟨_, rfl⟩
    have b3 : Below w2.heap.size w2 w3 := by rw [← hw3]; exact (Below.refl _ _).alloc (Nat.le_refl _) _
    have ho3 : w3.ownsRow w1.heap.size 9 1 (.slice (some ⟨w2.heap.size, 0, none⟩) 1 1) 1 (strVs [S.1]) := by
      rw [← hw3]
      exact own_row1 w2 w1.heap.size 9 (strVs [S.1]) hb2.size (by simp [strVs])
    have HO3 := Lib.hid ho3
    have HB13 := Lib.hid (hb2.trans (b3.mono hb2.size))
    have HB3 := Lib.hid (HB1.out.trans ((hb2.trans (b3.mono hb2.size)).mono HB1.out.size))
    have HKS3 := Lib.hid ((HKS.out.below (hb2.trans (b3.mono hb2.size))))
    have hk13 : w1.heap.size ≤ w3.heap.size := (hb2.trans (b3.mono hb2.size)).size
    clear hb2 b3 ho3
    go_wp2_with fail
    have RNEXT := @RpRel.next w
    have hww3 : w.heap.size ≤ w3.heap.size := HB3.out.size
    go_loopg [13, 14, 12] m (fun gk av iv ov wr => RpRel w w1.heap.size n m (ds.map (·.p)) ps most ks R gk av iv ov wr ∧ Hid (Below w1.heap.size w1 wr))
    case atStart => exact ⟨⟨0, 0, ks, [S.1], 1, some ⟨w2.heap.size, 0, none⟩, rfl, rfl, rfl, Nat.zero_le _, Nat.zero_le _, Lib.hid rfl, Lib.hid rfl, Lib.hid rfl, Lib.hid (by rw [List.drop_zero]; exact HCUT.out), HO3, Lib.hid (by rw [List.drop_zero]; exact HR.out), HB3⟩, HB13⟩
    case round =>
      obtain ⟨⟨a, k, ms, os, cc, A1, rfl, rfl, rfl, ha, hk, HGK, HOL, HMS, HCT, HOW, HRR, HB⟩, HBW⟩ := hrel
      by_cases hlt : k < m
      · obtain ⟨z, hz⟩ : ∃ z, ks[k]? = some z := ⟨_, List.getElem?_eq_getElem (by rw [HM.out]; exact hlt)⟩
        obtain ⟨ms2, hms2⟩ : ∃ ms2, ms = z :: ms2 := ⟨ks.drop (k + 1), by
          rw [← HMS.out, List.drop_eq_getElem_cons (by rw [HM.out]; exact hlt)]
          rw [List.getElem?_eq_getElem (by rw [HM.out]; exact hlt)] at hz
          injection hz with hz
          rw [hz]⟩
        subst hms2
        obtain ⟨hcq, hl0, hfz, hct2⟩ := HCT.out.inv
        have hf := hcq.first hl0
        rw [hfz, List.length_drop, HN.out] at hf
        rw [List.length_drop, HN.out] at hl0
        have hz1 := hf.1
        have haz : a + z ≤ n := by omega
        have HCT2 := Lib.hid hct2
        obtain ⟨b, o, rfl, hb, hcell⟩ := (HKS.out.below HBW.out).block (by omega)
        have x0 := hcell k _ (szVs_at hz)
        have hfr := HFR.out a z z rfl haz wr HB.out
        obtain ⟨X, hX⟩ : ∃ X, (frameB (ds.map (·.p)) ((ps.drop a).take z)).1 = X := ⟨_, rfl⟩
        obtain ⟨X2, hX2⟩ : ∃ X2, (frameB (ds.map (·.p)) ((ps.drop a).take z)).2 = X2 := ⟨_, rfl⟩
        rw [hX, hX2] at hfr
        have HX := Lib.hid hX
        have HFC := Lib.hid hfr
        have hne : ¬ ct = a := by omega
        have e1 : (a : Int) + (z : Int) ≤ (ct : Int) := by omega
        clear hcq hfz hct2 hf hcell hz hfr hX hX2
        go_wp2_with fail
        refine HFC.out.mono ?_
        rintro e w4 ⟨rfl, hb4⟩
        have hwr : w.heap.size ≤ wr.heap.size := HB.out.size
        have hw1r : w1.heap.size ≤ wr.heap.size := HBW.out.size
        have z4 := hb4.size
        have ba := (Below.refl w4.heap.size w4).alloc (Nat.le_refl _) (.cells #[.string (strOfNums X)] 9)
        have HO := Lib.hid (own_below (own_below HOW.out hb4) ba)
        have HER := Lib.hid (ERow.new w4 9 [.string (strOfNums X)] (n := 1) (by unfold maxLen; omega))
        have HB4 := Lib.hid ((HB.out.trans (hb4.mono hwr)).trans (ba.mono (by omega)))
        have HBW4 := Lib.hid ((HBW.out.trans (hb4.mono hw1r)).trans (ba.mono (by omega)))
        have xw : w1.cell? ⟨b, o + k, none⟩ = some (.int .i64 z) := (HBW.out.cell (p := ⟨b, o + k, none⟩) hb).symm.trans x0
        clear hb4 ba x0
        go_wp2_with (at_builtin; refine wpList_append_erow _ rfl _ _ 40 9 rfl w1.heap.size i0 (.string ⟨#[]⟩) 1 16 Tryz.underlying40 hi hy0 hy1 hy2 rfl (by decide) (.slice A1 os.length cc) os.length (strVs os) (by rfl) HO.out (w4.heap.size + 1) (.slice (some ⟨w4.heap.size, 0, none⟩) 1 1) 1 [.string (strOfNums X)] (by rfl) (by simpa using HER.out) rfl (by simp [Value.oneCell']) (by have := HOL.out; unfold maxLen; omega) (by have := HOL.out; omega) (by rw [World.size_alloc]; omega) (os.length + 1) rfl (strVs (os ++ [X])) (strVs_snoc _ _).symm ?_; intro A5 c5 w5 hown5 hg5 hat5; have HO5 := Lib.hid hown5; have hbw5 := HBW4.out.grown hg5 (by rw [World.size_alloc]; omega) (fun j e => (World.ownsRow.lt HO.out j e).1); have HB5 := Lib.hid (HB4.out.grown hg5 (by rw [World.size_alloc]; omega) (fun j e => Nat.le_trans HB1.out.size (World.ownsRow.lt HO.out j e).1)); have x5 := (hbw5.cell (p := ⟨b, o + k, none⟩) hb).trans xw; have HBW5 := Lib.hid hbw5; clear hown5 hg5 hat5 hbw5)
        go_roundg (m - (k + 1))
        case measure => have := HGK.out; omega
        case rel => exact ⟨RNEXT HO5.out HB5.out hlt HOL.out HMS.out HCT2.out haz HX.out HRR.out, HBW5⟩
      · have hkm : m = k := by omega
        subst hkm
        have h0 : ms = [] := by rw [← HMS.out, List.drop_of_length_le (by rw [HM.out]; exact Nat.le_refl _)]
        have hrr : os = R := by
          have := HRR.out
          rw [h0, cutsOf, List.map_nil, List.append_nil] at this
          exact this
        subst hrr
        clear h0
        go_wp2_with fail
        go_ret2
        exact ⟨A1, cc, rfl, own_base HOW.out HB1.out.size, HB.out⟩
  · rw [if_neg hw] at HSZ ⊢
    have hne : (whyC (ds.map (·.p)) ps most != 0) = true := bne_iff_ne.2 hw
    generalize whyC (ds.map (·.p)) ps most = C at HSZ hne ⊢
    have HSZ2 : Calls Tryz.prog 30 #[.slice A ds.length c, .slice T ps.length ct, .int .i64 most] w fun e W' => ∃ As cs, e = .returned (.tuple #[.slice As 0 cs, .int .i64 C]) ∧ W'.ownsRow w.heap.size 3 1 (.slice As 0 cs) 0 [] ∧ Below w.heap.size w W' := HSZ
    have HSZ := Lib.hid HSZ2
    clear hrow ht hw HSZ2
    go_enter Tryz.func11, Tryz.ntmps11
    go_wp2_with fail
    refine HSZ.out.mono ?_
    rintro e w1 ⟨As, cs, rfl, hown, hb1⟩
    have HO1 := Lib.hid (own_none1 w1 w.heap.size 9 hb1.size)
    have HB1 := Lib.hid (hb1.alloc hb1.size (.cells #[] 9))
    clear hown hb1
    go_wp2_with fail
    go_ret2
    exact ⟨_, _, rfl, HO1.out, HB1.out⟩
theorem partsR_flat (sig : List Pr) (l : List Pm) (most : Int) (hf : ∀ p ∈ l, p.Fits ∧ ∀ e ∈ p.evs, ∀ a ∈ e.args, a.Fits) : (partsR sig l most).1.flatten.length ≤ 4200 * (l.length + 1) := by
  unfold partsR
  by_cases hw : whyC sig l most = 0
  · rw [if_pos hw]
    have hm := COk.length (cok_of hw hf) _ rfl
    have h := flat_le (b := 4200) (partsW sig l most) (fun t ht => by
      unfold partsW at ht
      rcases List.mem_cons.1 ht with rfl | ht
      · exact frameS_length sig
      · obtain ⟨b, _, rfl⟩ := List.mem_map.1 ht
        exact frB_length sig b)
    have hl : (partsW sig l most).length = (sizesC sig l most).length + 1 := by unfold partsW cutsC; rw [List.length_cons, List.length_map, cutsOf_length]
    rw [hl] at h
    exact Nat.le_trans h (by omega)
  · rw [if_neg hw]; simp
set_option maxRecDepth 100000 in
set_option maxHeartbeats 1000000 in
theorem rbytes_any (hrow : PredRow w w.heap.size (.slice A ds.length c) ds) (ht : TrRow w w.heap.size (.slice T ps.length ct) ps) (hlen : ps.length ≤ 4398046510976) :
    Calls Tryz.prog 14 #[.slice A ds.length c, .slice T ps.length ct, .int .i64 most] w fun e w' => e = .returned (.tuple #[.string (strOfNums (partsR (ds.map (·.p)) ps most).1.flatten), .int .i64 (partsR (ds.map (·.p)) ps most).2]) ∧ Below w.heap.size w w' := by
  have HP := rparts_any A c ds T ct ps most w hrow ht hlen
  have hfl := partsR_flat (ds.map (·.p)) ps most ht.fits
  unfold PtsGot at HP
  generalize partsR (ds.map (·.p)) ps most = R at HP hfl ⊢
  have HP := Lib.hid HP
  have HFL := Lib.hid (show R.1.flatten.length ≤ 9223372036854775807 by omega)
  clear hrow ht hfl
  go_enter Tryz.func14, Tryz.ntmps14
  go_wp2_with fail
  refine HP.out.mono ?_
  rintro e w1 ⟨A1, c1, rfl, hown, hb1⟩
  have HJ := Lib.hid (rjoin_any A1 c1 R.1 w1 (ERow.of_own hown) HFL.out)
  have HB1 := Lib.hid hb1
  clear hown hb1
  go_wp2_with fail
  refine HJ.out.mono ?_
  rintro e w2 ⟨rfl, hb2⟩
  have HB2 := Lib.hid (HB1.out.trans (hb2.mono HB1.out.size))
  clear hb2
  go_wp2_with fail
  go_ret2
  exact ⟨rfl, HB2.out⟩
set_option maxRecDepth 100000 in
set_option maxHeartbeats 1000000 in
theorem radd_any (q : Pm) (hrow : PredRow w w.heap.size (.slice A ds.length c) ds) (ht : TrRow w w.heap.size (.slice T ps.length ct) ps) (hq : q.Ok w w.heap.size) :
    Calls Tryz.prog 8 #[.slice A ds.length c, .slice T ps.length ct, q.val] w fun e w' => e = .returned (.int .i64 (addW (ds.map (·.p)) ps q)) ∧ Below w.heap.size w w' := by
  obtain ⟨-, hc1, hc2⟩ := ht.1.len
  obtain ⟨N, hN⟩ : ∃ N, w.heap.size = N := ⟨_, rfl⟩
  obtain ⟨u0, hu0⟩ : ∃ u, w.alloc (.cells #[.int .u64 q.tm, .slice q.A q.evs.length q.c] 35) = u := ⟨_, rfl⟩
  have s0 : u0.heap.size = N + 1 := by rw [← hu0, World.size_alloc, hN]
  have b0 : Below N w u0 := by rw [← hu0]; exact (Below.refl _ _).alloc (by omega) _
  have h0 : Held u0 N 35 #[.int .u64 q.tm, .slice q.A q.evs.length q.c] := by rw [← hu0, ← hN]; exact heap_alloc_new w _
  obtain ⟨u1, hu1⟩ : ∃ u, u0.alloc (.cells #[.int .u64 q.tm, .slice q.A q.evs.length q.c] 35) = u := ⟨_, rfl⟩
  have s1 : u1.heap.size = N + 1 + 1 := by rw [← hu1, World.size_alloc, s0]
  have b1 : Below (N + 1) u0 u1 := by rw [← hu1]; exact (Below.refl _ _).alloc (by omega) _
  have h1 : Held u1 (N + 1) 35 #[.int .u64 q.tm, .slice q.A q.evs.length q.c] := by rw [← hu1, ← s0]; exact heap_alloc_new u0 _
  have k0 : Held u1 N 35 #[.int .u64 q.tm, .slice q.A q.evs.length q.c] := h0.below b1 (by omega)
  have hb : Below N w u1 := b0.trans (b1.mono (by omega))
  rw [hN] at hrow ht hq ⊢
  have HK := Lib.hid (And.intro k0 (And.intro h1 hb))
  have x0 := h0.cell 0
  have x1 := h0.cell 1
  have y0 := k0.cell 0
  have y1 := k0.cell 1
  simp at x0 x1 y0 y1
  unfold addW Pm.val
  by_cases hn : ps.length = 0
  · have hps : ps = [] := List.eq_nil_of_length_eq_zero hn
    subst hps
    have htr : TrRow u1 u1.heap.size (.slice (some ⟨N + 1, 0, none⟩) 1 1) [q] := ⟨ERow.held (us := flatN [q]) h1 (by omega) (by unfold maxLen; omega), fun d hd => by
      obtain rfl := List.mem_singleton.1 hd
      exact (hq.below hb).more (by omega)⟩
    have HCK := Lib.hid (rtcheck_any A c ds (some ⟨N + 1, 0, none⟩) 1 [q] u1 ((hrow.below hb).more (by omega)) htr)
    rw [show (([] : List Pm).drop (([] : List Pm).length - 1) ++ [q]) = [q] from rfl]
    have HROW := Lib.hid hrow
    have HQ := Lib.hid hq
    have HK2 := Lib.hid (And.intro k0 hb)
    generalize checkT (ds.map (·.p)) ([q].map (·.p)) = C at HCK ⊢
    obtain ⟨P, hP⟩ : ∃ P, putB (ds.map (·.p)) [q] = P := ⟨_, rfl⟩
    rw [hP]
    obtain ⟨R, hR⟩ : ∃ R : Int, (if C.1 ≠ 0 then C.1 else P.2) = R := ⟨_, rfl⟩
    rw [hR]
    have HP := Lib.hid hP
    have HR := Lib.hid hR
    clear hP hR
    clear hrow ht hq htr h0 h1 b0 b1 k0 hb
    go_enter Tryz.func8, Tryz.ntmps8
    go_wp2_with fail
    by_cases hC : C.1 = 0
    · have hRP : R = P.2 := by rw [← HR.out, if_neg (fun h => h hC)]
      have HRP := Lib.hid hRP
      rw [hC] at HCK
      clear hC hRP
      go_wp2_with fail
      refine HCK.out.mono ?_
      rintro e w2 ⟨rfl, hb2⟩
      have zw := hb2.size
      have y0 := (HK2.out.1.below hb2 HK2.out.1.lt).cell 0
      have y1 := (HK2.out.1.below hb2 HK2.out.1.lt).cell 1
      simp at y0 y1
      have hb3 := (Below.refl w2.heap.size w2).alloc (Nat.le_refl _) (.cells #[.int .u64 q.tm, .slice q.A q.evs.length q.c] 35)
      have hbw := ((HK2.out.2.trans (hb2.mono (by omega))).trans (hb3.mono (by omega)))
      have htr3 : TrRow (w2.alloc (.cells #[.int .u64 q.tm, .slice q.A q.evs.length q.c] 35)) (w2.alloc (.cells #[.int .u64 q.tm, .slice q.A q.evs.length q.c] 35)).heap.size (.slice (some ⟨w2.heap.size, 0, none⟩) 1 1) [q] := ⟨ERow.new w2 35 (flatN [q]) (n := 1) (by unfold maxLen; omega), fun d hd => by
        obtain rfl := List.mem_singleton.1 hd
        exact (HQ.out.below hbw).more (by rw [World.size_alloc]; omega)⟩
      have hpt := (rput14_any A c ds (some ⟨w2.heap.size, 0, none⟩) 1 [q] _ ((HROW.out.below hbw).more (by rw [World.size_alloc]; omega)) htr3)
      have HBW := Lib.hid hbw
      have zz : N ≤ (w2.alloc (.cells #[.int .u64 q.tm, .slice q.A q.evs.length q.c] 35)).heap.size := by rw [World.size_alloc]; omega
      have HZZ := Lib.hid zz
      rw [HP.out] at hpt
      have HPT := Lib.hid hpt
      clear hpt hb2 hb3 hbw htr3 zz
      go_wp2_with fail
      refine HPT.out.mono ?_
      rintro e w4 ⟨rfl, hb4⟩
      have HB4 := Lib.hid (HBW.out.trans (hb4.mono HZZ.out))
      clear hb4 y0 y1
      go_wp2_with fail
      go_ret
      exact ⟨by rw [HRP.out]; rfl, HB4.out⟩
    · have hRP : R = C.1 := by rw [← HR.out, if_pos hC]
      have HRP := Lib.hid hRP
      have hne : (C.1 != 0) = true := bne_iff_ne.2 hC
      clear hC hRP
      go_wp2_with fail
      refine HCK.out.mono ?_
      rintro e w2 ⟨rfl, hb2⟩
      have HB2 := Lib.hid (HK2.out.2.trans (hb2.mono (by omega)))
      clear hb2
      go_wp2_with fail
      go_ret
      exact ⟨by rw [HRP.out]; rfl, HB2.out⟩
  · obtain ⟨m, hm⟩ : ∃ m, ps.length - 1 = m := ⟨_, rfl⟩
    obtain ⟨n, hnn⟩ : ∃ n, ps.length = n := ⟨_, rfl⟩
    obtain ⟨d, hd⟩ : ∃ d, ps[m]? = some d := ⟨_, List.getElem?_eq_getElem (by omega)⟩
    have hdr : ps.drop m = [d] := by
      rw [List.drop_eq_getElem_cons (by omega), List.drop_of_length_le (by omega)]
      rw [List.getElem?_eq_getElem (by omega)] at hd
      injection hd with hd
      rw [hd]
    obtain ⟨b, o, rfl, hlt, v0, v1, hok, -, -⟩ := (ht.below hb).at hd
    rw [hm, hdr]
    rw [hnn] at hm hn hc1 ⊢
    have hmn : m + 1 = n := by omega
    have e1 : (n : Int) - 1 = (m : Int) := by omega
    have e2 : IntKind.i64.wrap ((n : Int) - 1) = (m : Int) := by rw [IntWalk.i64_in _ (by omega)]; omega
    have e3 : (m : Int) < (n : Int) := by omega
    have e4 : ¬ (n : Int) ≤ (m : Int) := by omega
    have e5 : (0 : Int) ≤ (m : Int) := by omega
    have e6 : ¬ (m : Int) < 0 := by omega
    have e7 : IntKind.i64.wrap (m : Int) = (m : Int) := IntWalk.i64_in _ (by omega)
    have e8 : m < n := by omega
    obtain ⟨w5, hw5⟩ : ∃ w5, u1.drew.alloc (.cells #[.int .u64 d.tm, .slice d.A d.evs.length d.c, .int .u64 q.tm, .slice q.A q.evs.length q.c] 35) = w5 := ⟨_, rfl⟩
    have b5 : Below u1.heap.size u1 w5 := by rw [← hw5]; exact (Below.refl _ _).drew.alloc (Nat.le_refl _) _
    have s5 : w5.heap.size = N + 1 + 1 + 1 := by rw [← hw5, World.size_alloc]; show u1.heap.size + 1 = _; rw [s1]
    have h5 : Held w5 (N + 1 + 1) 35 #[.int .u64 d.tm, .slice d.A d.evs.length d.c, .int .u64 q.tm, .slice q.A q.evs.length q.c] := by rw [← hw5, ← s1]; exact heap_alloc_new u1.drew _
    have hb5 : Below N w w5 := hb.trans (b5.mono (by omega))
    have HS5 := Lib.hid (show w5.cell? ⟨b, o + m * 2, none⟩ = some (.int .u64 d.tm) ∧ w5.cell? ⟨b, o + m * 2 + 1, none⟩ = some (.slice d.A d.evs.length d.c) ∧ w5.cell? ⟨N, 0, none⟩ = some (.int .u64 q.tm) ∧ w5.cell? ⟨N, 1, none⟩ = some (.slice q.A q.evs.length q.c) from
      ⟨(b5.cell (p := ⟨b, o + m * 2, none⟩) (by show b < u1.heap.size; omega)).trans v0, (b5.cell (p := ⟨b, o + m * 2 + 1, none⟩) (by show b < u1.heap.size; omega)).trans v1, (b5.cell (p := ⟨N, 0, none⟩) (by show N < u1.heap.size; omega)).trans y0, (b5.cell (p := ⟨N, 1, none⟩) (by show N < u1.heap.size; omega)).trans y1⟩)
    have htr : TrRow w5 w5.heap.size (.slice (some ⟨N + 1 + 1, 0, none⟩) 2 2) [d, q] := ⟨ERow.held (us := flatN [d, q]) h5 (by omega) (by unfold maxLen; omega), fun x hx => by
      rcases List.mem_cons.1 hx with rfl | hx
      · exact (hok.below (b5.mono (by omega))).more (by omega)
      · obtain rfl := List.mem_singleton.1 hx
        exact (hq.below hb5).more (by omega)⟩
    have HCK := Lib.hid (rtcheck_any A c ds (some ⟨N + 1 + 1, 0, none⟩) 2 [d, q] w5 ((hrow.below hb5).more (by omega)) htr)
    rw [show ([d] ++ [q] : List Pm) = [d, q] from rfl]
    have HROW := Lib.hid hrow
    have HQ := Lib.hid hq
    have HK2 := Lib.hid (And.intro (k0.below b5 (by omega)) hb5)
    generalize checkT (ds.map (·.p)) ([d, q].map (·.p)) = C at HCK ⊢
    obtain ⟨P, hP⟩ : ∃ P, putB (ds.map (·.p)) [q] = P := ⟨_, rfl⟩
    rw [hP]
    obtain ⟨R, hR⟩ : ∃ R : Int, (if C.1 ≠ 0 then C.1 else P.2) = R := ⟨_, rfl⟩
    rw [hR]
    have HP := Lib.hid hP
    have HR := Lib.hid hR
    clear hP hR
    clear hrow ht hq htr h0 h1 b0 b1 k0 hb hd hdr hok h5 hb5 b5 hm hn hmn
    go_enter Tryz.func8, Tryz.ntmps8
    go_wp2_with fail
    go_region_held3 (fun W => W.cell? ⟨b, o + m * 2, none⟩ = some (.int .u64 d.tm) ∧ W.cell? ⟨b, o + m * 2 + 1, none⟩ = some (.slice d.A d.evs.length d.c) ∧ W.cell? ⟨N, 0, none⟩ = some (.int .u64 q.tm) ∧ W.cell? ⟨N, 1, none⟩ = some (.slice q.A q.evs.length q.c))
      (first | exact ⟨v0, v1, y0, y1⟩ | exact HS5.out) (fail)
    all_goals (
    by_cases hC : C.1 = 0
    · have hRP : R = P.2 := by rw [← HR.out, if_neg (fun h => h hC)]
      have HRP := Lib.hid hRP
      rw [hC] at HCK
      clear hC hRP
      go_wp2_with fail
      refine HCK.out.mono ?_
      rintro e w2 ⟨rfl, hb2⟩
      have zw := hb2.size
      have y0 := (HK2.out.1.below hb2 HK2.out.1.lt).cell 0
      have y1 := (HK2.out.1.below hb2 HK2.out.1.lt).cell 1
      simp at y0 y1
      have hb3 := (Below.refl w2.heap.size w2).alloc (Nat.le_refl _) (.cells #[.int .u64 q.tm, .slice q.A q.evs.length q.c] 35)
      have hbw := ((HK2.out.2.trans (hb2.mono (by omega))).trans (hb3.mono (by omega)))
      have htr3 : TrRow (w2.alloc (.cells #[.int .u64 q.tm, .slice q.A q.evs.length q.c] 35)) (w2.alloc (.cells #[.int .u64 q.tm, .slice q.A q.evs.length q.c] 35)).heap.size (.slice (some ⟨w2.heap.size, 0, none⟩) 1 1) [q] := ⟨ERow.new w2 35 (flatN [q]) (n := 1) (by unfold maxLen; omega), fun d hd => by
        obtain rfl := List.mem_singleton.1 hd
        exact (HQ.out.below hbw).more (by rw [World.size_alloc]; omega)⟩
      have hpt := (rput14_any A c ds (some ⟨w2.heap.size, 0, none⟩) 1 [q] _ ((HROW.out.below hbw).more (by rw [World.size_alloc]; omega)) htr3)
      have HBW := Lib.hid hbw
      have zz : N ≤ (w2.alloc (.cells #[.int .u64 q.tm, .slice q.A q.evs.length q.c] 35)).heap.size := by rw [World.size_alloc]; omega
      have HZZ := Lib.hid zz
      rw [HP.out] at hpt
      have HPT := Lib.hid hpt
      clear hpt hb2 hb3 hbw htr3 zz
      go_wp2_with fail
      refine HPT.out.mono ?_
      rintro e w4 ⟨rfl, hb4⟩
      have HB4 := Lib.hid (HBW.out.trans (hb4.mono HZZ.out))
      clear hb4 y0 y1
      go_wp2_with fail
      go_ret
      exact ⟨by rw [HRP.out]; rfl, HB4.out⟩
    · have hRP : R = C.1 := by rw [← HR.out, if_pos hC]
      have HRP := Lib.hid hRP
      have hne : (C.1 != 0) = true := bne_iff_ne.2 hC
      clear hC hRP
      go_wp2_with fail
      refine HCK.out.mono ?_
      rintro e w2 ⟨rfl, hb2⟩
      have HB2 := Lib.hid (HK2.out.2.trans (hb2.mono (by omega)))
      clear hb2
      go_wp2_with fail
      go_ret
      exact ⟨by rw [HRP.out]; rfl, HB2.out⟩)
end
end Go.Proofs.YtohibmjjhifggaaGreat

namespace Go.Proofs.YtohibmjjhifggaaGreat
open Go.RowKit Go.ChangeShapes Go.WideShapes
set_option linter.unusedVariables false
/-- xs: the points that lie in the caller's own row; ys: those that the writer has. -/
structure LwAt (W0 W : World) (N NX n g : Nat) (A : Option Addr) (c : Nat) (es : List Pd) (most : Int) (l : List Pm) (XA : Option Addr) (xc : Nat) (xs ys : List Pm) (KA : Option Addr) (kc : Nat) (bg : Bool) (bs : List Bk) (out : List Int) : Prop where
  wr : WAt W n g A c es most bg false KA kc bs
  row : W.ownsRow NX 35 2 (.slice XA xs.length xc) xs.length (flatN xs)
  mem : ∀ d ∈ xs, d ∈ l
  dis : ∀ j, ob XA = some j → ¬ WS g KA bs j
  inv : Inv (es.map (·.p)) most ys bg out bs
  low : Below N W0 W
  n0 : N = W0.heap.size
  n1 : N ≤ n
  n2 : n ≤ NX
  n3 : NX ≤ W.heap.size
section
variable {W0 W W' : World} {N NX n g c xc kc : Nat} {A XA KA : Option Addr} {es : List Pd} {most : Int} {l xs ys : List Pm} {bg : Bool} {bs : List Bk} {out : List Int} {q : Pm}
theorem LwAt.low' (h : LwAt W0 W N NX n g A c es most l XA xc xs ys KA kc bg bs out) : Below W0.heap.size W0 W := by rw [← h.n0]; exact h.low
theorem LwAt.below (h : LwAt W0 W N NX n g A c es most l XA xc xs ys KA kc bg bs out) (hb : Below W.heap.size W W') : LwAt W0 W' N NX n g A c es most l XA xc xs ys KA kc bg bs out :=
  ⟨h.wr.below hb, own_below h.row hb, h.mem, h.dis, h.inv, h.low.trans (hb.mono (by have := h.n1; have := h.n2; have := h.n3; omega)), h.n0, h.n1, h.n2, Nat.le_trans h.n3 hb.size⟩
theorem own_spared {S : Nat → Prop} {m k : Nat} {e : TypeId} {sz : Nat} {v : Value} {us : List Value} (h : W.ownsRow m e sz v k us) (hp : PartN S W W') (hm : ∀ j, v.ownBlock = some j → ¬ S j) : W'.ownsRow m e sz v k us := by
  refine ⟨h.1, ?_⟩
  rcases h.2 with h2 | ⟨g, cap, cur, rfl, q2, q3, r⟩
  · exact .inl h2
  · exact .inr ⟨g, cap, cur, rfl, q2, (hp.block g (Array.getElem?_eq_some_iff.1 q3).1 (hm g rfl)).trans q3, r⟩
/-- A point is added, or not. -/
theorem LwAt.add {V : Int} {e : Ending} (h : LwAt W0 W N NX n g A c es most l XA xc xs xs KA kc bg bs out) (hg : AddGot W n g A c es most bg false KA kc bs q (whyW (es.map (·.p)) false (lastB bs).ps q) e W') (hq : q.Fits ∧ ∀ e ∈ q.evs, ∀ a ∈ e.args, a.Fits) (hV : addW (es.map (·.p)) xs q = V) :
    e = .returned (.int .i64 V) ∧ ∃ KA' kc' bs', (V ≠ 0 → Hid (LwAt W0 W' N NX n g A c es most l XA xc xs xs KA' kc' bg bs' out)) ∧ (V = 0 → Hid (LwAt W0 W' N NX n g A c es most l XA xc xs (xs ++ [q]) KA' kc' bg bs' out)) := by
  have hwhy : whyW (es.map (·.p)) false (lastB bs).ps q = V := by
    rcases h.inv.why (q := q) with h2 | h2
    · exact h2.trans hV
    · exact absurd hq h2
  rw [hwhy] at hg
  obtain ⟨he, KA', kc', bs', hw, hp, hs, h1, h2⟩ := hg
  have hn3 := h.n3
  have hn1 := h.n1
  have hn2 := h.n2
  have hrow : W'.ownsRow NX 35 2 (.slice XA xs.length xc) xs.length (flatN xs) := own_spared h.row hp (fun j hj => h.dis j (by rw [← ob_own XA xs.length xc]; exact hj))
  have hdis : ∀ j, ob XA = some j → ¬ WS g KA' bs' j := fun j hj hw2 => by
    rcases hs j hw2 with h3 | h3
    · exact h.dis j hj h3
    · have := (World.ownsRow.lt h.row j (by rw [ob_own]; exact hj)).2
      omega
  have hlow : Below N W0 W' := h.low.trans (hp.low (by omega) (fun i hi hw2 => by have := (h.wr.lt hw2).1; omega))
  have hsz := hp.size
  refine ⟨he, KA', kc', bs', fun hv => Lib.hid ⟨hw, hrow, h.mem, hdis, ?_, hlow, h.n0, hn1, hn2, by omega⟩, fun hv => Lib.hid ⟨hw, hrow, h.mem, hdis, ?_, hlow, h.n0, hn1, hn2, by omega⟩⟩
  · rw [h1 hv]; exact h.inv
  · exact h.inv.add (by rw [hV, hv]) hq (h2 hv)
/-- It is laid behind the caller's own points. -/
theorem LwAt.append {XA' : Option Addr} {xc' : Nat} (h : LwAt W0 W N NX n g A c es most l XA xc xs (xs ++ [q]) KA kc bg bs out) (hq : q ∈ l) (ho : W'.ownsRow NX 35 2 (.slice XA' (xs.length + 1) xc') (xs.length + 1) (flatN (xs ++ [q]))) (hg : W.grownBy W' (Value.slice XA xs.length xc).ownBlock)
    (hat : (Value.slice XA' (xs.length + 1) xc').ownBlock = (Value.slice XA xs.length xc).ownBlock ∨ (Value.slice XA' (xs.length + 1) xc').ownBlock = some W.heap.size) : LwAt W0 W' N NX n g A c es most l XA' xc' (xs ++ [q]) (xs ++ [q]) KA kc bg bs out := by
  have hn3 := h.n3
  have hn1 := h.n1
  have hn2 := h.n2
  have hl : (xs ++ [q]).length = xs.length + 1 := by simp
  have hsz := hg.size
  refine ⟨h.wr.grown h.row (fun j hj => h.dis j (by rw [← ob_own XA xs.length xc]; exact hj)) hn2 hg, by rw [hl]; exact ho, fun d hd => ?_, fun j hj hw => ?_, h.inv, h.low.trans ((Below.refl N W).grown hg (by omega) (fun j hj => by have := (World.ownsRow.lt h.row j hj).1; omega)), h.n0, hn1, hn2, by omega⟩
  · rcases List.mem_append.1 hd with hd | hd
    · exact h.mem d hd
    · rw [List.mem_singleton.1 hd]; exact hq
  · rw [ob_own, ob_own] at hat
    rcases hat with h4 | h4
    · exact h.dis j (by rw [← h4]; exact hj) hw
    · rw [h4] at hj
      injection hj with hj
      have := (h.wr.lt hw).2
      omega
/-- What is sure is taken. -/
theorem LwAt.take {e : Ending} (h : LwAt W0 W N NX n g A c es most l XA xc xs xs KA kc bg bs out) (hg : TakeGot W n g A c es most bg false bs (bs.length - 1) e W') :
    ∃ TA tc X, e = .returned (.slice TA X.length tc) ∧ Row W' W'.heap.size (.slice TA X.length tc) X ∧ Hid (out ++ X = sureW (es.map (·.p)) xs most) ∧ ∃ KA' kc' bs', Hid (LwAt W0 W' N NX n g A c es most l XA xc xs xs KA' kc' true bs' (out ++ X)) := by
  obtain ⟨⟨TA, tc, he, ho⟩, ⟨KA', kc', hw, hob⟩, hp⟩ := hg
  obtain ⟨hi1, hi2⟩ := h.inv.take
  have hn3 := h.n3
  have hn1 := h.n1
  have hn2 := h.n2
  have hsz := hp.size
  have hdj : ∀ j, ob XA = some j → j ≠ g := fun j hj e => h.dis j hj (.inl e)
  refine ⟨TA, tc, _, he, Row.of_own ho, Lib.hid hi1, KA', kc', bs.drop (bs.length - 1), Lib.hid ⟨hw, own_spared h.row hp (fun j hj => hdj j (by rw [← ob_own XA xs.length xc]; exact hj)), h.mem, fun j hj hw2 => ?_, hi2, h.low.trans (hp.low (by omega) (fun i hi e => by have := h.wr.low; omega)), h.n0, hn1, hn2, by omega⟩⟩
  rcases hw2 with hw2 | hw2 | ⟨x, hx, hw2⟩
  · exact hdj j hj hw2
  · have h5 := hob j hw2
    have := (World.ownsRow.lt h.row j (by rw [ob_own]; exact hj)).2
    omega
  · exact h.dis j hj (.inr (.inr ⟨x, List.mem_of_mem_drop hx, hw2⟩))
/-- How long what was taken is. -/
theorem sure_short (sig : List Pr) {l : List Pm} {most : Int} (h : COk sig l most) : (sureW sig l most).length ≤ 4200 * (l.length + 1) ∧ (bytesW sig l most).length ≤ 4200 * (l.length + 1) ∧ partsR sig l most = (partsW sig l most, 0) := by
  have hr : partsR sig l most = (partsW sig l most, 0) := by unfold partsR; rw [if_pos h.why]
  have hf := partsR_flat sig l most h.ok.fits
  rw [hr] at hf
  exact ⟨Nat.le_trans (flat_take _ _) hf, hf, hr⟩
end
/-- A closed writer. -/
theorem shut_take {W : World} {n g kc : Nat} {KA : Option Addr} (h : WAt W n g none 0 [] 0 true true KA kc []) : Calls Tryz.prog 10 #[.pointer (some ⟨g, 0, none⟩)] W fun e w' => (∃ TA tc, e = .returned (.slice TA 0 tc)) ∧ (∃ KA' kc', WAt w' n g none 0 [] 0 true true KA' kc' []) ∧ PartN (fun j => n ≤ j) W w' := by
  refine (wTake_any h (by simp)).mono ?_
  rintro e w' ⟨⟨TA, tc, he, _⟩, ⟨KA', kc', hw, _⟩, hp⟩
  exact ⟨⟨TA, tc, he⟩, ⟨KA', kc', hw⟩, hp.more (fun j e => by have := h.low; omega)⟩
theorem shut_close {W : World} {n g kc : Nat} {KA : Option Addr} (h : WAt W n g none 0 [] 0 true true KA kc []) : Calls Tryz.prog 13 #[.pointer (some ⟨g, 0, none⟩)] W fun e w' => (∃ TA tc, e = .returned (.slice TA 0 tc)) ∧ (∃ KA' kc', WAt w' n g none 0 [] 0 true true KA' kc' []) ∧ PartN (fun j => n ≤ j) W w' := by
  refine (wClose_any h (by simp)).mono ?_
  rintro e w' ⟨⟨TA, tc, he, _⟩, hw, hp⟩
  exact ⟨⟨TA, tc, he⟩, ⟨none, 0, hw⟩, hp.more (fun j e => by have := h.low; omega)⟩
theorem shut_add {W : World} {n g kc : Nat} {KA : Option Addr} (h : WAt W n g none 0 [] 0 true true KA kc []) : Calls Tryz.prog 9 #[.pointer (some ⟨g, 0, none⟩), .agg #[.int .u64 0, .slice none 0 0]] W fun e w' => e = .returned (.int .i64 1) ∧ PartN (fun j => n ≤ j) W w' := by
  have ha := wadd_any h ⟨0, [], none, 0⟩ ⟨⟨ERow.nil _ _, by simp⟩, show (0 : Int) ≤ 0 ∧ (0 : Int) < 18446744073709551616 by decide⟩ ⟨by simp, by simp⟩ (by simp) (by rw [lastB_nil]; simp)
  refine ha.mono ?_
  rintro e w' ⟨he, KA', kc', bs', _, hp, _⟩
  exact ⟨he, hp.more (fun j e => (h.lt e).1)⟩
/-- The first elements of a row of elements of one cell. -/
theorem ERow.take1 {w : World} {B n M c : Nat} {A1 : Option Addr} {us : List Value} (h : ERow w B (.slice A1 n c) n us) (hM : M ≤ n) : ERow w B (.slice A1 M c) M (us.take M) := by
  obtain ⟨A', c', hv, h1, h2, h3, h4⟩ := h
  injection hv with e1 e2 e3
  subst e1 e3
  refine ⟨A1, c, rfl, by omega, h2, h3, fun h0 => ?_⟩
  obtain ⟨b, o, e, hb, hc⟩ := h4 (by omega)
  refine ⟨b, o, e, hb, fun i u hi => hc i u ?_⟩
  rw [List.getElem?_take] at hi
  split at hi
  · exact hi
  · cases hi
end Go.Proofs.YtohibmjjhifggaaGreat

namespace Go.Proofs.YtohibmjjhifggaaGreat
open Go.RowKit Go.ChangeShapes Go.WideShapes
set_option linter.unusedVariables false
set_option maxRecDepth 100000 in
set_option maxHeartbeats 1000000 in
theorem wwhole_nil (w : World) (A : Option Addr) (c : Nat) (ds : List Pd) (hrow : PredRow w w.heap.size (.slice A ds.length c) ds) (hck : checkP (ds.map (·.p)) = 0) :
    Calls Tryz.prog 32 #[.slice A ds.length c, .slice none 0 0, .int .i64 1] w fun e w' => ∃ g KA kc, e = .returned (.tuple #[.pointer (some ⟨g, 0, none⟩), .int .i64 0]) ∧ WAt w' w.heap.size g A c ds 0 false false KA kc [] ∧ Below w.heap.size w w' := by
  have hb := cblocks_any A c ds none 0 [] 1 w hrow (TrRow.nil _ _) ⟨by simp, by simp⟩
  have hw0 : whyC (ds.map (·.p)) [] 1 = 0 := by
    unfold whyC
    rw [if_neg (by omega), List.map_nil, if_neg (by rw [checkT_none hck (fun j hj => absurd hj (Nat.not_lt_zero _))]; simp), if_pos (by unfold aloneC; rfl)]
  unfold blocksR BkGot at hb
  rw [if_pos hw0] at hb
  have HB := Lib.hid hb
  have HR := Lib.hid hrow
  clear hb hrow hw0
  go_enter Tryz.func32, Tryz.ntmps32
  go_wp2_with fail
  refine HB.out.mono ?_
  rintro e w1 ⟨A1, c1, bs, rfl, hk, hm, hb1⟩
  have hbs : bs = [] := by
    have h2 : bs.map (fun b => b.ps.map (·.p)) = ([] : List (List Pn)) := hm
    exact List.map_eq_nil_iff.1 h2
  subst hbs
  have HK := Lib.hid hk
  have HB1 := Lib.hid hb1
  clear hk hm hb1
  obtain ⟨u, hu⟩ : ∃ u, w1.alloc (.cells #[.slice A ds.length c, .int .i64 0, .bool false, .slice A1 ([] : List Bk).length c1, .bool false] 59) = u := ⟨_, rfl⟩
  have bu : Below w1.heap.size w1 u := by rw [← hu]; exact (Below.refl _ _).alloc (Nat.le_refl _) _
  have HU : Hid (WAt u w.heap.size w1.heap.size A c ds 0 false false A1 c1 []) := Lib.hid ⟨by rw [← hu]; exact heap_alloc_new w1 _, HB1.out.size, (HR.out.below HB1.out).below (bu.mono HB1.out.size), HK.out.below bu, fun i j x y k hi => by simp at hi⟩
  have HBU := Lib.hid (HB1.out.trans (bu.mono HB1.out.size))
  rw [List.length_nil] at hu ⊢
  clear bu
  go_wp2_with fail
  go_ret2
  exact ⟨_, A1, c1, rfl, HU.out, HBU.out⟩
set_option maxRecDepth 100000 in
set_option maxHeartbeats 1000000 in
theorem wbytes_nil (w : World) (A : Option Addr) (c : Nat) (ds : List Pd) (hrow : PredRow w w.heap.size (.slice A ds.length c) ds) (hck : checkP (ds.map (·.p)) = 0) :
    Calls Tryz.prog 17 #[.slice A ds.length c, .slice none 0 0, .int .i64 1] w fun e w' => ∃ TA tc, e = .returned (.tuple #[.slice TA (frameS (ds.map (·.p))).1.length tc, .int .i64 0]) ∧ Row w' w'.heap.size (.slice TA (frameS (ds.map (·.p))).1.length tc) (frameS (ds.map (·.p))).1 ∧ Below w.heap.size w w' := by
  have HW := Lib.hid (wwhole_nil w A c ds hrow hck)
  have hX : takeX (ds.map (·.p)) false [] = (frameS (ds.map (·.p))).1 := by unfold takeX framesL; simp
  have HCL := Lib.hid (fun (W : World) g KA kc (h : WAt W w.heap.size g A c ds 0 false false KA kc []) => wClose_any h (by simp))
  rw [hX] at HCL
  clear hrow hX hck
  generalize (frameS (ds.map (·.p))).1 = X at HCL ⊢
  go_enter Tryz.func17, Tryz.ntmps17
  go_wp2_with fail
  refine HW.out.mono ?_
  rintro e w1 ⟨g, KA, kc, rfl, hw, hb1⟩
  have HC1 := Lib.hid (HCL.out w1 g KA kc hw)
  have HLO := Lib.hid hw.low
  have HB1 := Lib.hid hb1
  clear hw hb1
  go_wp2_with fail
  refine HC1.out.mono ?_
  rintro e w2 ⟨⟨TA, tc, rfl, hown⟩, hw2, hp⟩
  have HO := Lib.hid (Row.of_own hown)
  have HB2 := Lib.hid (HB1.out.trans (hp.low HB1.out.size (fun i hi e => by have := HLO.out; omega)))
  clear hown hw2 hp
  go_wp2_with fail
  go_ret2
  exact ⟨TA, tc, rfl, HO.out, HB2.out⟩
set_option maxRecDepth 100000 in
set_option maxHeartbeats 1000000 in
theorem fix17_any (w : World) : Calls Tryz.prog 5 #[] w fun e w' => e = .returned (.bool true) ∧ Below w.heap.size w w' := by
  obtain ⟨n, hn⟩ : ∃ n, w.heap.size = n := ⟨_, rfl⟩
  obtain ⟨u0, hu0⟩ : ∃ u, w.alloc (.cells #[.string { data := #[113] }, .slice none 0 0] 51) = u := ⟨_, rfl⟩
  have s0 : u0.heap.size = n + 1 := by rw [← hu0, World.size_alloc, hn]
  have b0 : Below n w u0 := by rw [← hu0]; exact (Below.refl _ _).alloc (by omega) _
  have h0 : Held u0 n 51 #[.string { data := #[113] }, .slice none 0 0] := by rw [← hu0, ← hn]; exact heap_alloc_new w _
  have hpr : PredRow u0 u0.heap.size (.slice (some ⟨n, 0, none⟩) 1 1) [⟨⟨[113], []⟩, none, 0⟩] := by
    exact row_one (d := ⟨⟨[113], []⟩, none, 0⟩) h0 ⟨none, 0, rfl, Nat.le_refl _, Nat.zero_le _, fun _ => rfl, fun h => absurd h (by simp)⟩ ⟨by unfold maxLen; simp, by simp, by simp⟩
  have HBY := Lib.hid (wbytes_nil u0 (some ⟨n, 0, none⟩) 1 [⟨⟨[113], []⟩, none, 0⟩] hpr rfl)
  have HRF := Lib.hid (fun W (hb : Below u0.heap.size u0 W) => rsbframe_any (some ⟨n, 0, none⟩) 1 [⟨⟨[113], []⟩, none, 0⟩] W ((hpr.below hb).more hb.size))
  have hs : frameS (([⟨⟨[113], []⟩, none, 0⟩] : List Pd).map (·.p)) = ((frameS (([⟨⟨[113], []⟩, none, 0⟩] : List Pd).map (·.p))).1, 0) := by rfl
  generalize frameS (([⟨⟨[113], []⟩, none, 0⟩] : List Pd).map (·.p)) = F at HBY HRF hs
  have HS := Lib.hid (congrArg Prod.snd hs)
  have HB0 := Lib.hid b0
  clear h0 hpr b0 hs
  go_enter Tryz.func5, Tryz.ntmps5
  go_wp2_with fail
  refine HBY.out.mono ?_
  rintro e w1 ⟨TA, tc, rfl, hrow, hb1⟩
  have HR1 := Lib.hid (HRF.out w1 hb1)
  have HROW := Lib.hid hrow
  have HB1 := Lib.hid (HB0.out.trans (hb1.mono (by omega)))
  clear hrow hb1
  go_wp2_with fail
  refine HR1.out.mono ?_
  rintro e w2 ⟨rfl, hb2⟩
  rw [show F.2 = 0 from HS.out]
  have hcv := (HROW.out.below hb2).convert (P := Tryz.prog) 38 5 9 Tryz.underlying38 Tryz.underlying5 Tryz.underlying9
  have HB2 := Lib.hid (HB1.out.trans (hb2.mono (by have := HB1.out.size; omega)))
  clear hb2
  go_wp2_with fail
  go_ret
  exact ⟨rfl, by rw [hn]; exact HB2.out⟩
end Go.Proofs.YtohibmjjhifggaaGreat

namespace Go.Proofs.YtohibmjjhifggaaGreat
open Go.RowKit
def greatOne (p : Pr) : Bool := decide (30 < p.args.length) || decide (100 < p.name.length)
def greatP (l : List Pr) : Bool := l.any greatOne || decide (100 < l.length)
theorem greatP_no {l : List Pr} (h : greatP l = false) : l.length ≤ 100 ∧ ∀ p ∈ l, p.args.length ≤ 30 ∧ p.name.length ≤ 100 := by
  unfold greatP at h
  rw [Bool.or_eq_false_iff] at h
  refine ⟨by simpa using h.2, fun p hp => ?_⟩
  have := (List.any_eq_false.1 h.1) p hp
  simp only [greatOne, Bool.or_eq_true, decide_eq_true_eq, not_or] at this
  omega
set_option maxRecDepth 100000 in
set_option maxHeartbeats 2000000 in
theorem great_any (A : Option Addr) (c : Nat) (ds : List Pd) (w : World) (hrow : PredRow w w.heap.size (.slice A ds.length c) ds) :
    Calls Tryz.prog 15 #[.slice A ds.length c] w fun e w' => e = .returned (.bool (greatP (ds.map (·.p)))) ∧ Below w.heap.size w w' := by
  obtain ⟨_, hc1, hc2⟩ : ∃ _ : True, ds.length ≤ c ∧ c ≤ 9223372036854775807 := by
    obtain ⟨A', c', hv, q1, q2⟩ := hrow.form
    injection hv with _ _ e3
    exact ⟨trivial, by omega, by omega⟩
  have hyes := fun (d : Pd) (hd : d ∈ ds) (h : greatOne d.p = true) => (show greatP (ds.map (·.p)) = true by
    unfold greatP
    rw [Bool.or_eq_true]
    exact .inl (List.any_eq_true.2 ⟨d.p, List.mem_map.2 ⟨d, hd, rfl⟩, h⟩))
  have hno := fun (h : ∀ j, j < ds.length → ∀ d, ds[j]? = some d → greatOne d.p = false) => (show greatP (ds.map (·.p)) = decide (100 < ds.length) by
    unfold greatP
    rw [List.length_map, show (ds.map (·.p)).any greatOne = false from by
      rw [List.any_eq_false]
      intro p hp
      obtain ⟨d, hd, rfl⟩ := List.mem_map.1 hp
      obtain ⟨j, hj⟩ := List.mem_iff_getElem?.1 hd
      rw [h j (List.getElem?_eq_some_iff.1 hj).1 d hj]
      simp]
    rfl)
  generalize greatP (ds.map (·.p)) = R at hyes hno ⊢
  have HY := Lib.hid hyes
  have HN := Lib.hid hno
  have HROW := Lib.hid hrow
  clear hyes hno hrow
  go_enter Tryz.func15, Tryz.ntmps15
  go_wp2_with fail
  go_loopg [7] ds.length (fun gk i wr => ∃ k : Nat, k ≤ ds.length ∧ i = .int .i64 k ∧ Hid (ds.length - k = gk) ∧ Hid (∀ j, j < k → ∀ d, ds[j]? = some d → greatOne d.p = false) ∧ Below w.heap.size w wr)
  case atStart => exact ⟨0, Nat.zero_le _, rfl, Lib.hid rfl, Lib.hid (fun j h => absurd h (Nat.not_lt_zero _)), Below.refl _ _⟩
  case round =>
    obtain ⟨k, hk, rfl, HGK, HJ, hbw⟩ := hrel
    have hsz := hbw.size
    by_cases hlt : k < ds.length
    · obtain ⟨d, hd⟩ : ∃ d, ds[k]? = some d := ⟨_, List.getElem?_eq_getElem hlt⟩
      obtain ⟨b, o, rfl, hb, x0, x1, hir, hfit, ha1, ha2⟩ := (HROW.out.below hbw).at hd
      have hst := fun (h : greatOne d.p = false) => step_lt (P := fun j => ∀ d, ds[j]? = some d → greatOne d.p = false) HJ.out (fun d' hd' => by rw [hd] at hd'; injection hd' with e; rw [← e]; exact h)
      have hy := HY.out d (List.mem_of_getElem? hd)
      have hsn := strOfNums_size d.p.name
      have hnl : d.p.name.length ≤ 9223372036854775807 := by have := hfit.1; unfold maxLen at this; omega
      have HB := Lib.hid (hbw.alloc hsz (.cells #[.string (strOfNums d.p.name), .slice d.A d.p.args.length d.c] 51))
      clear hir hfit hd hbw
      by_cases h1 : 30 < d.p.args.length
      · have h1i : (30 : Int) < (d.p.args.length : Int) := by omega
        have HR := Lib.hid (hy (by simp [greatOne, h1]))
        clear hst hy
        go_wp2_with fail
        go_ret
        exact ⟨by rw [HR.out]; rfl, HB.out⟩
      · have h1i : (d.p.args.length : Int) ≤ 30 := by omega
        by_cases h2 : 100 < d.p.name.length
        · have h2i : (100 : Int) < (d.p.name.length : Int) := by omega
          have HR := Lib.hid (hy (by simp [greatOne, h2]))
          clear hst hy
          go_wp2_with fail
          go_ret
          exact ⟨by rw [HR.out]; rfl, HB.out⟩
        · have h2i : (d.p.name.length : Int) ≤ 100 := by omega
          have HJ2 := Lib.hid (hst (by simp [greatOne, h1, h2]))
          clear hst hy
          go_wp2_with fail
          go_roundg (ds.length - (k + 1))
          case measure => have := HGK.out; omega
          case rel => exact ⟨k + 1, by omega, by go_num, Lib.hid rfl, HJ2, HB.out⟩
    · obtain rfl : k = ds.length := by omega
      have HR := Lib.hid (HN.out HJ.out)
      go_wp2_with fail
      go_ret
      exact ⟨by rw [HR.out]; exact congrArg (fun b => Ending.returned (Value.bool b)) (decide_eq_decide.2 (by omega)), hbw⟩
end Go.Proofs.YtohibmjjhifggaaGreat
namespace Go.Proofs.YtohibmjjhifggaaGreat
open Go.RowKit
set_option maxRecDepth 100000 in
set_option maxHeartbeats 2000000 in
theorem tgreat_any (T : Option Addr) (ct : Nat) (ps : List Pm) (most : Int) (w : World) (hrow : TrRow w w.heap.size (.slice T ps.length ct) ps) :
    Calls Tryz.prog 16 #[.slice T ps.length ct, .int .i64 most] w fun e w' => (∃ b, e = .returned (.bool b)) ∧ Below w.heap.size w w' := by
  obtain ⟨-, hc1, hc2⟩ := hrow.1.len
  have HTR := Lib.hid hrow
  clear hrow
  go_enter Tryz.func16, Tryz.ntmps16
  go_wp2_with fail
  go_loopg [5, 16] ps.length (fun gk n i wr => ∃ (k : Nat) (s : Int), k ≤ ps.length ∧ i = .int .i64 k ∧ n = .int .i64 s ∧ Hid (ps.length - k = gk) ∧ Hid (Below w.heap.size w wr))
  case atStart => exact ⟨0, _, Nat.zero_le _, rfl, rfl, Lib.hid rfl, Lib.hid (Below.refl _ _)⟩
  case round =>
    obtain ⟨k, s, hk, rfl, rfl, HGK, HB⟩ := hrel
    by_cases hlt : k < ps.length
    · obtain ⟨d, hd⟩ : ∃ d, ps[k]? = some d := ⟨_, List.getElem?_eq_getElem hlt⟩
      have hz := HB.out.size
      obtain ⟨b, o, rfl, hb, x0, x1, hok, hl1, hl2⟩ := (HTR.out.below HB.out).at hd
      obtain ⟨w4, hw4⟩ : ∃ w4, wr.alloc (.cells #[.int .u64 d.tm, .slice d.A d.evs.length d.c] 35) = w4 := ⟨_, rfl⟩
      have s4 : w4.heap.size = wr.heap.size + 1 := by rw [← hw4, World.size_alloc]
      have hb4 : Below wr.heap.size wr w4 := by rw [← hw4]; exact (Below.refl _ _).alloc (Nat.le_refl _) _
      have hh4 : Held w4 wr.heap.size 35 #[.int .u64 d.tm, .slice d.A d.evs.length d.c] := by rw [← hw4]; exact heap_alloc_new wr _
      have y1 := hh4.cell 1
      simp at y1
      have HB4 := Lib.hid (HB.out.trans (hb4.mono hz))
      have hok4 := hok.below (hb4.mono hz)
      obtain ⟨dA, hdA⟩ : ∃ dA, d.A = dA := ⟨_, rfl⟩
      have hgr := hok4.1
      rw [hdA] at hgr y1 x1 hw4
      have HGR := Lib.hid hgr
      clear hok hd hh4 hok4 hgr hdA
      obtain ⟨wx, hwx⟩ : ∃ wx, wx = wr := ⟨_, rfl⟩
      subst hwx
      by_cases hm : most < wrap64 (s + (d.evs.length : Int))
      · go_wp2_with fail
        go_ret
        exact ⟨⟨_, rfl⟩, HB4.out⟩
      · have hmd : decide (most < wrap64 (s + (d.evs.length : Int))) = false := decide_eq_false hm
        clear hm
        go_wp2_with fail
        clear hw4 x0 x1 y1
        go_loopg [5, 31] d.evs.length (fun gm n i wr2 => ∃ (m : Nat) (s2 : Int), m ≤ d.evs.length ∧ i = .int .i64 m ∧ n = .int .i64 s2 ∧ Hid (d.evs.length - m = gm) ∧ Hid (Below w4.heap.size w4 wr2))
        case atStart => exact ⟨0, _, Nat.zero_le _, rfl, rfl, Lib.hid rfl, Lib.hid (Below.refl _ _)⟩
        case round =>
          obtain ⟨m, s2, hm, rfl, rfl, HGM, HB5⟩ := hrel
          by_cases hml : m < d.evs.length
          · obtain ⟨x, hx⟩ : ∃ x, d.evs[m]? = some x := ⟨_, List.getElem?_eq_getElem hml⟩
            have hz5 := HB5.out.size
            obtain ⟨b2, o2, rfl, hb2, u0, u1, hokx, hl3, hl4⟩ := (HGR.out.below (HB5.out.mono (by omega))).at hx
            obtain ⟨w6, hw6⟩ : ∃ w6, wr.alloc (.cells #[.int .i64 x.p, .slice x.A x.args.length x.c] 73) = w6 := ⟨_, rfl⟩
            have s6 : w6.heap.size = wr.heap.size + 1 := by rw [← hw6, World.size_alloc]
            have hb6 : Below wr.heap.size wr w6 := by rw [← hw6]; exact (Below.refl _ _).alloc (Nat.le_refl _) _
            have hh6 : Held w6 wr.heap.size 73 #[.int .i64 x.p, .slice x.A x.args.length x.c] := by rw [← hw6]; exact heap_alloc_new wr _
            have v1 := hh6.cell 1
            simp at v1
            have HB6 := Lib.hid (HB5.out.trans (hb6.mono hz5))
            have hok6 := hokx.below (hb6.mono (by omega))
            obtain ⟨xA, hxA⟩ : ∃ xA, x.A = xA := ⟨_, rfl⟩
            have hgx := hok6.1
            rw [hxA] at hgx u1 v1 hw6
            have HGX := Lib.hid hgx
            clear hokx hx hh6 hok6 hgx hxA
            obtain ⟨wy, hwy⟩ : ∃ wy, wy = wr := ⟨_, rfl⟩
            subst hwy
            go_wp2_with fail
            clear hw6 u0 u1 v1
            go_loopg [5, 43] x.args.length (fun gj n i wr3 => ∃ (j : Nat) (s3 : Int), j ≤ x.args.length ∧ i = .int .i64 j ∧ n = .int .i64 s3 ∧ Hid (x.args.length - j = gj) ∧ Hid (Below w6.heap.size w6 wr3))
            case atStart => exact ⟨0, _, Nat.zero_le _, rfl, rfl, Lib.hid rfl, Lib.hid (Below.refl _ _)⟩
            case round =>
              obtain ⟨j, s3, hj, rfl, rfl, HGJ, HB7⟩ := hrel
              by_cases hjl : j < x.args.length
              · obtain ⟨a, ha⟩ : ∃ a, x.args[j]? = some a := ⟨_, List.getElem?_eq_getElem hjl⟩
                have hz7 := HB7.out.size
                obtain ⟨b3, o3, rfl, hb3, q0, q1, q2, hfit⟩ := (HGX.out.below (HB7.out.mono (by omega))).at ha
                have hsn := strOfNums_size a.s
                have hsl : a.s.length ≤ 9223372036854775807 := by have := hfit.1; unfold maxLen at this; simpa using this
                have HB8 := Lib.hid (HB7.out.alloc hz7 (.cells #[.int .i64 a.t, .int .i64 a.n, .string (strOfNums a.s)] 75))
                clear hfit ha
                go_wp2_with fail
                go_roundg (x.args.length - (j + 1))
                case measure => have := HGJ.out; omega
                case rel => exact ⟨j + 1, _, by omega, by go_num, rfl, Lib.hid rfl, HB8⟩
              · obtain rfl : j = x.args.length := by omega
                go_wp2_with fail
                go_roundg (d.evs.length - (m + 1))
                case measure => have := HGM.out; omega
                case rel => exact ⟨m + 1, _, by omega, by go_num, rfl, Lib.hid rfl, Lib.hid (HB6.out.trans (HB7.out.mono (by omega)))⟩
          · obtain rfl : m = d.evs.length := by omega
            go_wp2_with fail
            go_roundg (ps.length - (k + 1))
            case measure => have := HGK.out; omega
            case rel => exact ⟨k + 1, _, by omega, by go_num, rfl, Lib.hid rfl, Lib.hid (HB4.out.trans (HB5.out.mono (by omega)))⟩
    · obtain rfl : k = ps.length := by omega
      go_wp2_with fail
      go_ret
      exact ⟨⟨_, rfl⟩, HB.out⟩
end Go.Proofs.YtohibmjjhifggaaGreat

namespace Go.Proofs.YtohibmjjhifggaaGreat
open Go.RowKit Go.ChangeShapes Go.WideShapes
set_option linter.unusedVariables false
set_option maxRecDepth 100000 in
set_option maxHeartbeats 1000000 in
theorem great17_any (A : Option Addr) (c : Nat) (ds : List Pd) (T : Option Addr) (ct : Nat) (ps : List Pm) (w : World) (hrow : PredRow w w.heap.size (.slice A ds.length c) ds) (ht : TrRow w w.heap.size (.slice T ps.length ct) ps) :
    Calls Tryz.prog 4 #[.slice A ds.length c, .slice T ps.length ct] w fun e w' => (∃ b, e = .returned (.bool b) ∧ (b = false → greatP (ds.map (·.p)) = false)) ∧ Below w.heap.size w w' := by
  have HG := Lib.hid (great_any A c ds w hrow)
  have HT := Lib.hid (fun W (hb : Below w.heap.size w W) => tgreat_any T ct ps 1500 W ((ht.below hb).more hb.size))
  generalize greatP (ds.map (·.p)) = g at HG ⊢
  clear hrow ht
  cases g with
  | true =>
    go_enter Tryz.func4, Tryz.ntmps4
    go_wp2_with fail
    refine HG.out.mono ?_
    rintro e w1 ⟨rfl, hb1⟩
    go_wp2_with fail
    go_ret
    exact ⟨⟨true, rfl, fun h => (by cases h)⟩, hb1⟩
  | false =>
    go_enter Tryz.func4, Tryz.ntmps4
    go_wp2_with fail
    refine HG.out.mono ?_
    rintro e w1 ⟨rfl, hb1⟩
    have HT1 := Lib.hid (HT.out w1 hb1)
    have HB1 := Lib.hid hb1
    clear hb1
    go_wp2_with fail
    refine HT1.out.mono ?_
    rintro e w2 ⟨⟨b, rfl⟩, hb2⟩
    have HB2 := Lib.hid (HB1.out.trans (hb2.mono HB1.out.size))
    clear hb2
    go_wp2_with fail
    go_ret
    exact ⟨⟨b, rfl, by simp⟩, HB2.out⟩
section
variable {H : Type} {enc : TypeId × Value → H} {P : Program} {w : World} {base : Nat} {spare : Nat → Bool} {held : Bool}
/-- An argument of two whole numbers. -/
theorem open_pair {r : Reach} {b0 : Nat} {t e : TypeId} {v : Value} {d : DataW H} {p : List MemPlace} (ht : P.underlying t = some (.array 2 e)) (he : P.underlying e = some (.int .i64)) (hC : P.cellsOf t = 2) (hE : P.cellsOf e = 1)
    (hv : Value.okWide P w r b0 t v) (h : DataW.Trod enc P w base spare held t v d p) : ∃ x y : Int, v = .agg #[.int .i64 x, .int .i64 y] ∧ (Lit.int .i64 x).wf = true ∧ (Lit.int .i64 y).wf = true := by
  simp only [Value.okWide, ht] at hv
  obtain ⟨cs, rfl, hsz, _⟩ := hv
  obtain ⟨c0, c1, rfl⟩ := Joins.array2 (hsz.trans hC)
  obtain ⟨fuel, hf⟩ := h
  obtain ⟨xs, m, rfl, _, _, hl, hx⟩ := DataW.trod_array ht hf
  have h0 := hx 0 (by omega)
  have h1 := hx 1 (by omega)
  obtain ⟨x0, e0⟩ : ∃ x, xs[0]? = some x := ⟨_, List.getElem?_eq_getElem (by omega)⟩
  obtain ⟨x1, e1⟩ : ∃ x, xs[1]? = some x := ⟨_, List.getElem?_eq_getElem (by omega)⟩
  rw [hE, e0] at h0
  rw [hE, e1] at h1
  have g0 : DataW.trod enc P w base spare held m e [c0] = some x0 := by simpa [Value.cells] using h0
  have g1 : DataW.trod enc P w base spare held m e [c1] = some x1 := by simpa [Value.cells] using h1
  obtain ⟨x, hx1, _, wx⟩ := DataW.trod_int he g0
  obtain ⟨y, hy1, _, wy⟩ := DataW.trod_int he g1
  injection hx1 with hx1 _
  injection hy1 with hy1 _
  subst hx1 hy1
  exact ⟨x, y, rfl, wx, wy⟩
end
end Go.Proofs.YtohibmjjhifggaaGreat
