/-
  (*Feed).tell with find.Open: the parts that are told of the bytes that are held, and what is left of these.
-/
import Derived.Test.YtfaedecfpnmnjaaFeedTold
namespace Go.Proofs.Ytfaedecfpnmnjaa
open Go.RowKit

set_option maxRecDepth 100000 in
set_option maxHeartbeats 2000000 in
theorem tellO_any (xs : List Int) (hsm : xs.length ≤ 100000000000) (hbx : ∀ x ∈ xs, 0 ≤ x ∧ x < 256)
    (I : List Sg → Nat → Nat → Prop) (hstep : ∀ ps a o r, I ps a o → a ≤ o → o ≤ r → r < xs.length → nextI true (xs.drop o) 0 = ((r - o : Nat) : Int) → Begins xs r → I (ps ++ gapS a r ++ [frS xs r]) (r + (getFr (xs.drop r)).2.1) (r + (getFr (xs.drop r)).2.1))
    (w : World) (g : Nat) (vh : Value) (hvh : ∀ n, vh ≠ .int .u8 n) (a o : Nat) (cl : Bool) (hao : a ≤ o) (ho : o ≤ xs.length) (hI : I [] a o) (hf : FeedAt w g vh a xs.length cl)
    (A : Option Addr) (n c : Nat) (hn : n = (xs.drop o).length) (hrow : Row w w.heap.size (.slice A n c) (xs.drop o)) :
    Calls Try.prog 38 #[.pointer (some ⟨g, 0, none⟩), .slice A n c, .func (.func 8) #[] #[]] w (Tells w g vh cl xs A true I) := by
  obtain ⟨i0, hi, hz0, hz1, hz2⟩ := info_parts Try.infoSeg
  subst hn
  have HFN := Lib.hid (fun A c o W (h : Row W W.heap.size (.slice A (xs.drop o).length c) (xs.drop o)) => open_any A c (xs.drop o) (by rw [List.length_drop]; omega) W h (drop_bytes hbx o) 0 (by omega) (by omega))
  have HFN1 := Lib.hid (HFN.out A c o w hrow)
  have HST := Lib.hid hstep
  have HBX := Lib.hid hbx
  have HROW := Lib.hid hrow
  have HF := Lib.hid hf
  have HI := Lib.hid hI
  have hlo : ∀ o, (xs.drop o).length = xs.length - o := fun o => List.length_drop
  clear hstep hbx hrow hf hI
  rw [hlo] at HROW HFN1 ⊢
  have HLO := Lib.hid hlo
  clear hlo
  go_enter Try.func38, Try.ntmps38
  go_wp2_with fail
  refine HFN1.out.mono ?_
  rintro e w1 ⟨rfl, hb1⟩
  have HF1 := Lib.hid (HF.out.below hb1 HF.out.lt)
  have HR1 := Lib.hid ((HROW.out.below hb1).more hb1.size)
  have HG1 := Lib.hid (grown_below hb1 (some g))
  clear HROW HF hb1 HFN1
  go_wp2_with fail
  go_loopg [1, 6, 8, 9] (xs.length - o) (fun gk bb tt pp ff wr => ∃ (ps : List Pt) (a1 o1 : Nat) (Ab : Option Addr) (cb : Nat) (At : Option Addr) (ct : Nat), bb = .slice Ab (xs.length - o1) cb ∧ tt = .slice At ps.length ct ∧ pp = .int .i64 (max (nextI true (xs.drop o1) 0) 0) ∧ ff = .bool (decide (0 ≤ nextI true (xs.drop o1) 0)) ∧
    a1 ≤ o1 ∧ o1 ≤ xs.length ∧ ps.length ≤ o1 ∧ Hid (xs.length - o1 = gk) ∧ Hid (Segs wr w.heap.size (.slice At ps.length ct) ps) ∧ Hid (NewP w.heap.size ps) ∧ Hid (I (ps.map (·.s)) a1 o1) ∧ Hid (FeedAt wr g vh a1 xs.length cl) ∧ Hid (w.grownBy wr (some g)) ∧
    Hid (Row wr wr.heap.size (.slice Ab (xs.length - o1) cb) (xs.drop o1)) ∧ Hid (∀ x, Ab = some x → ∃ y, A = some y ∧ x.block = y.block))
  case atStart =>
    exact ⟨[], a, o, A, c, none, 0, rfl, rfl, rfl, rfl, hao, ho, Nat.zero_le _, Lib.hid rfl, Lib.hid (Segs.nil _ _), Lib.hid (NewP.nil _), Lib.hid HI.out, Lib.hid HF1.out, Lib.hid HG1.out, Lib.hid HR1.out, Lib.hid (fun x e => ⟨x, e, rfl⟩)⟩
  case round =>
    obtain ⟨ps, a1, o1, Ab, cb, At, ct, rfl, rfl, rfl, rfl, ha1, ho1, hpl, HGK, HS, HNP, HII, HFR, HGR, HRO, HAB⟩ := hrel
    rcases nextI_ways true (xs.drop o1) with hR | ⟨r, hR, hr⟩
    · have HRR := Lib.hid hR
      rw [hR, show max (-1 : Int) 0 = 0 from rfl, show decide ((0 : Int) ≤ -1) = false from rfl]
      clear hR
      go_wp2_with fail
      go_ret2
      exact ⟨_, none, 0, 0, ps, a1, o1, xs.length, rfl, HS.out, HNP.out, HII.out, ha1, ho1, Nat.le_refl _, HFR.out, HGR.out, by rw [List.drop_length]; exact Row.nil _ _, fun x e => (by cases e), by omega, .inl ⟨HRR.out, rfl⟩⟩
    · have HRR := Lib.hid hR
      rw [hR, show max (r : Int) 0 = (r : Int) by omega, show decide (0 ≤ (r : Int)) = true by simp]
      rw [HLO.out] at hr
      have hrow2 := HRO.out.drop (k := r) (by rw [HLO.out]; omega)
      rw [List.drop_drop, HLO.out] at hrow2
      obtain ⟨q, hq⟩ : ∃ q, o1 + r = q := ⟨_, rfl⟩
      rw [hq] at hrow2
      have hcap : xs.length - o1 ≤ cb ∧ cb ≤ 9223372036854775807 := by
        obtain ⟨_, _, hv, q1, q2, _⟩ := HRO.out
        injection hv with _ e2 e3
        subst e3
        unfold maxLen at q2
        exact ⟨by omega, by omega⟩
      obtain ⟨hcap1, hcap2⟩ := hcap
      have hA3 := fun x (h : (if cb = r then Ab else Ab.map (·.add r)) = some x) => cut_addr h
      rw [if_neg (by omega)] at hrow2 hA3
      have HROW2 := Lib.hid hrow2
      have HA3 := Lib.hid hA3
      clear hR hrow2 hA3
      have hr0 : (0 : Int) ≤ r := by omega
      have hr1 : (r : Int) ≤ ((xs.length - o1 : Nat) : Int) := by omega
      have hr2 : ((xs.length - o1 : Nat) : Int) ≤ cb := by omega
      go_wp2_with fail
      rw [show xs.length - o1 - r = xs.length - q by omega]
      generalize Option.map (fun x : Addr => x.add r) Ab = A3 at HROW2 HA3 ⊢
      have hcap3 : xs.length - q ≤ cb - r ∧ cb - r ≤ 9223372036854775807 := ⟨by omega, by omega⟩
      obtain ⟨c3, hc3⟩ : ∃ c3, cb - r = c3 := ⟨_, rfl⟩
      rw [hc3] at HROW2 hcap3 ⊢
      obtain ⟨hcap31, hcap32⟩ := hcap3
      have hqx : q < xs.length := by omega
      have hoq : o1 ≤ q := by omega
      have hrq : r = q - o1 := by omega
      rw [hrq] at HRR
      have HAT := at_new A3 c3 (xs.drop q) (by rw [HLO.out]; omega) wr (by rw [HLO.out]; exact HROW2.out) (drop_bytes HBX.out q) 0 (Nat.zero_le _)
      rw [List.drop_zero, HLO.out] at HAT
      have HATH := Lib.hid HAT
      clear HAT hc3 hr0 hr1 hr2 hcap1 hcap2 hr hq hrq
      obtain ⟨T, hT⟩ : ∃ T, getFr (xs.drop q) = T := ⟨_, rfl⟩
      rw [hT] at HATH
      have HT := Lib.hid hT
      clear hT
      refine HATH.out.mono ?_
      rintro e w2 ⟨A1, c1, rfl, hrow1, hb2, hn1⟩
      have hz2 := hb2.size
      have HF2 := Lib.hid (HFR.out.below hb2 HFR.out.lt)
      have HS2 := Lib.hid (HS.out.below hb2)
      have HR2 := Lib.hid ((HROW2.out.below hb2).more hb2.size)
      have HG2 := Lib.hid (grown_trans HGR.out (grown_below hb2 (some g)))
      have HP2 := Lib.hid hrow1
      have HN1 := Lib.hid (fun a e => Nat.le_trans HGR.out.size (hn1 a e))
      have ba : Below w2.heap.size w2 (w2.alloc (.cells #[.int .i64 T.1.1, .slice A1 T.1.2.length c1] 30)) := (Below.refl _ _).alloc (Nat.le_refl _) _
      have HF3 := Lib.hid (HF2.out.below ba HF2.out.lt)
      have HS3 := Lib.hid (HS2.out.below ba)
      have HR3 := Lib.hid ((HR2.out.below ba).more ba.size)
      have HG3 := Lib.hid (grown_trans HG2.out (grown_below ba (some g)))
      have HP3 := Lib.hid ((HP2.out.below ba).more ba.size)
      have HK3 := Lib.hid (show Held (w2.alloc (.cells #[.int .i64 T.1.1, .slice A1 T.1.2.length c1] 30)) w2.heap.size 30 #[.int .i64 T.1.1, .slice A1 T.1.2.length c1] from heap_alloc_new w2 _)
      clear hrow1 hb2 hn1 ba HFR HS HROW2 HGR HF2 HS2 HR2 HG2 HP2 HRO
      obtain ⟨er, hE⟩ : ∃ er, T.2.2 = er := ⟨_, rfl⟩
      rw [hE]
      have HE := Lib.hid hE; clear hE
      by_cases her : er = 0
      · subst her
        have hbg : Begins xs q := by unfold Begins; rw [HT.out, HE.out]
        have hbi := begins_in HBX.out hbg
        rw [HT.out] at hbi
        obtain ⟨hi1, hi2, _, hi4, _, _⟩ := hbi
        have HBG := Lib.hid hbg
        obtain ⟨w3, hw3⟩ : ∃ w3, w2.alloc (.cells #[.int .i64 T.1.1, .slice A1 T.1.2.length c1] 30) = w3 := ⟨_, rfl⟩
        rw [hw3] at HF3 HS3 HR3 HG3 HP3 HK3
        obtain ⟨F, hF⟩ : ∃ F, w2.heap.size = F := ⟨_, rfl⟩
        rw [hF] at HK3
        have hfl3 := HF3.out.lt
        have hkl3 := HK3.out.lt
        have y2 := HF3.out.cell 2
        simp at y2
        have hql : ((xs.length - q : Nat) : Int) = (xs.length : Int) - q := by omega
        clear hbg hz2 hcap31 hcap32
        go_wp2_with fail
        rw [show (xs.length : Int) - ((xs.length : Int) - q) = q by omega]
        refine (skip_any w3 g vh a1 q xs.length cl HF3.out w.heap.size (.slice At ps.length ct) ps HS3.out HG3.out.size (by omega) (by omega) (by omega) hvh).mono ?_
        rintro e w4 ⟨v4, rfl, hs4, hf4, hbut4⟩
        rw [Nat.max_eq_right (by omega)] at hf4
        have hrown : ∀ j, (.slice At ps.length ct : Value).ownBlock = some j → w.heap.size ≤ j := fun j e => (HS3.out.1.lt j e).1
        have hnob := FeedAt.nob HF3.out hvh
        have hclean : ∀ j, (.slice At ps.length ct : Value).ownBlock = some j → ∀ (i : Nat) (n : Int), w3.cell? ⟨j, i, none⟩ ≠ some (.int .u8 n) := fun j e => HS3.out.2.1 j e
        have hfk := frame_feed HK3.out HF3.out
        have HK4 := Lib.hid (hbut4.held HK3.out hfk (fun e => (HS3.out.apart HK3.out (by decide)).elim (fun h => by rw [h] at e; cases e) (fun h => h e.symm)))
        have HP4 := Lib.hid ((hbut4.clean HP3.out hnob hclean).more hbut4.size)
        have HR4 := Lib.hid ((hbut4.clean HR3.out hnob hclean).more hbut4.size)
        have HG4 := Lib.hid (But.join HG3.out hbut4 hrown)
        obtain ⟨A4, c4, ev, hc41, hc42⟩ := hs4.form
        obtain ⟨N4, hN4⟩ : ∃ N4, (ps ++ gapP a1 q).length = N4 := ⟨_, rfl⟩
        have hN42 : N4 ≤ ps.length + 1 := by rw [← hN4, List.length_append]; have := gapP_len a1 q; omega
        rw [hN4] at ev hc41
        subst ev
        have HN4 := Lib.hid hN4
        have HS4 := Lib.hid hs4
        have HF4 := Lib.hid hf4
        have hfl4 := hf4.lt
        have x1 := hf4.cell 1
        have xf := hf4.frozen 1
        have k0 := HK4.out.cell 0
        have k1 := HK4.out.cell 1
        have hkl4 := HK4.out.lt
        simp at x1 k0 k1
        have HSB := Lib.hid (fun W (h : Below w4.heap.size w4 W) => hs4.below h)
        have HFR := Lib.hid (fun W N (hN : W.heap.size = N) (h : Row W W.heap.size (.slice A1 T.1.2.length c1) T.1.2) => fr_row W N hN ⟨q, T.2.1, true, T.1.1, T.1.2⟩ A1 c1 h)
        have HP4B := Lib.hid (fun W (h : Below w4.heap.size w4 W) => (HP4.out.below h).more h.size)
        clear hs4 hf4 hbut4 hrown hnob hclean hfk hN4 HS3 HF3 HK3 HP3 HR3 HG3 hw3 hF hfl3 hkl3 y2
        simp only at HFR
        go_wp2_with fail
        go_region_law (first | (refine step_append_segs (by rfl) (.tmp 49) (.tmp 57) 38 (by rfl) i0 _ Try.underlying38 hi hz0 hz1 (by omega) rfl w.heap.size (.slice A4 N4 c4) (ps ++ gapP a1 q) (by rfl) (HSB.out _ (by first | exact (Below.refl _ _).alloc (Nat.le_refl _) _ | exact ((Below.refl _ _).drew).alloc (Nat.le_refl _) _)) (.slice (some ⟨w4.heap.size, 0, none⟩) 1 1) [⟨⟨q, T.2.1, true, T.1.1, T.1.2⟩, A1, c1⟩] (by rfl) (HFR.out _ _ rfl HP4.out) (by rw [HN4.out]; simp; omega) (by simp; have := HG4.out.size; omega) ?_; intro v5 w5 hs5 hg5))
        all_goals
          obtain ⟨hbut5, hf5⟩ := app_but HF4.out HS4.out (by first | exact ((Below.refl _ _).alloc (Nat.le_refl _) _).drew | exact ((Below.refl _ _).drew).alloc (Nat.le_refl _) _) hg5
          obtain ⟨A5, c5, ev, _, _⟩ := hs5.form
          rw [List.length_append, HN4.out, List.length_singleton] at ev
          subst ev
          have hr5 := (hbut5.clean HR4.out (FeedAt.nob HF4.out hvh) (fun j e => HS4.out.2.1 j e)).more hbut5.size
          have hput := grown_put w5 g 1 (.int .i64 ((q : Int) + (T.2.1 : Nat)))
          have HR6 := Lib.hid (((But.of_one hput none).clean hr5 (FeedAt.nob hf5 hvh) (fun j e => by cases e)).more hput.size)
          have HG6 := Lib.hid (grown_trans (But.join HG4.out hbut5 (fun j e => (HS4.out.1.lt j e).1)) hput)
          have HS6 := Lib.hid (hs5.past hf5 hvh 1 (.int .i64 ((q : Int) + (T.2.1 : Nat))))
          have HF6 := Lib.hid (show FeedAt (w5.setCell ⟨g, 1, none⟩ (.int .i64 ((q : Int) + (T.2.1 : Nat)))) g vh (q + T.2.1) xs.length cl by rw [FeedAt, show ((q + T.2.1 : Nat) : Int) = (q : Int) + (T.2.1 : Nat) by omega]; simpa using hf5.put 1 (.int .i64 ((q : Int) + (T.2.1 : Nat))))
          have hfl5 := hf5.lt
          have z1 := hf5.cell 1
          have zf := hf5.frozen 1
          simp at z1
          have hrow6 := HR6.out.drop (k := T.2.1) (by rw [HLO.out]; omega)
          rw [List.drop_drop, HLO.out] at hrow6
          have hA6 := fun x (h : (if c3 = T.2.1 then A3 else A3.map (·.add T.2.1)) = some x) => cut_addr h
          have HROW6 := Lib.hid hrow6
          have HA6 := Lib.hid hA6
          have s0 : (0 : Int) ≤ (T.2.1 : Nat) := by omega
          have s1 : ((T.2.1 : Nat) : Int) ≤ ((xs.length - q : Nat) : Int) := by omega
          have hc3 : xs.length - q ≤ c3 := by
            obtain ⟨_, _, hv, q1, _⟩ := HR6.out
            injection hv with _ e2 e3
            subst e3
            omega
          have s2 : ((xs.length - q : Nat) : Int) ≤ c3 := by omega
          clear hs5 hg5 hbut5 hf5 hr5 hput hrow6 hA6 x1 xf k0 k1 HK4 HP4 HR4 HG4 HSB HFR HP4B
          by_cases hck : c3 = T.2.1
          · rw [if_pos hck, show c3 - T.2.1 = 0 by omega] at HROW6
            simp only [if_pos hck] at HA6
            go_wp2_with fail
            rw [show xs.length - q - T.2.1 = xs.length - (q + T.2.1) by omega]
            have HC := HFN.out A3 0 (q + T.2.1) _ (by rw [HLO.out]; exact HROW6.out)
            rw [HLO.out] at HC
            have HCH := Lib.hid HC
            clear HC
            refine HCH.out.mono ?_
            rintro e w7 ⟨rfl, hb7⟩
            have HF7 := Lib.hid (HF6.out.below hb7 HF6.out.lt)
            have HS7 := Lib.hid (HS6.out.below hb7)
            have HR7 := Lib.hid ((HROW6.out.below hb7).more hb7.size)
            have HG7 := Lib.hid (grown_trans HG6.out (grown_below hb7 (some g)))
            clear hb7
            go_wp2_with fail
            go_roundg (xs.length - (q + T.2.1))
            case measure => have := HGK.out; omega
            case rel =>
              have hl7 : (ps ++ gapP a1 q ++ [(⟨⟨q, T.2.1, true, T.1.1, T.1.2⟩, A1, c1⟩ : Pt)]).length = N4 + 1 := by rw [List.length_append, HN4.out, List.length_singleton]
              refine ⟨ps ++ gapP a1 q ++ [⟨⟨q, T.2.1, true, T.1.1, T.1.2⟩, A1, c1⟩], q + T.2.1, q + T.2.1, A3, 0, A5, c5, rfl, by rw [hl7], rfl, rfl, Nat.le_refl _, by omega, by omega, Lib.hid rfl, Lib.hid (by rw [hl7]; exact HS7.out), Lib.hid ?_, Lib.hid ?_, Lib.hid HF7.out, Lib.hid HG7.out, Lib.hid HR7.out, Lib.hid ?_⟩
              · refine (HNP.out.append (gapP_new _ _ _)).append ?_
                intro p hp a e
                rw [List.mem_singleton] at hp
                subst hp
                exact HN1.out a e
              · have := HST.out _ a1 o1 q HII.out ha1 hoq hqx HRR.out HBG.out
                rw [frS, HT.out] at this
                rw [List.map_append, List.map_append, gapP_map]
                exact this
              · intro x e
                obtain ⟨y, e1, e2⟩ := HA6.out x e
                obtain ⟨z, e3, e4⟩ := HA3.out y e1
                obtain ⟨u, e5, e6⟩ := HAB.out z e3
                exact ⟨u, e5, e2.trans (e4.trans e6)⟩
          · rw [if_neg hck] at HROW6
            simp only [if_neg hck] at HA6
            go_wp2_with fail
            rw [show xs.length - q - T.2.1 = xs.length - (q + T.2.1) by omega]
            generalize Option.map (fun x : Addr => x.add T.2.1) A3 = A6 at HROW6 HA6 ⊢
            obtain ⟨c6, hc6⟩ : ∃ c6, c3 - T.2.1 = c6 := ⟨_, rfl⟩
            rw [hc6] at HROW6 ⊢
            clear hc6
            have HC := HFN.out A6 c6 (q + T.2.1) _ (by rw [HLO.out]; exact HROW6.out)
            rw [HLO.out] at HC
            have HCH := Lib.hid HC
            clear HC
            refine HCH.out.mono ?_
            rintro e w7 ⟨rfl, hb7⟩
            have HF7 := Lib.hid (HF6.out.below hb7 HF6.out.lt)
            have HS7 := Lib.hid (HS6.out.below hb7)
            have HR7 := Lib.hid ((HROW6.out.below hb7).more hb7.size)
            have HG7 := Lib.hid (grown_trans HG6.out (grown_below hb7 (some g)))
            clear hb7
            go_wp2_with fail
            go_roundg (xs.length - (q + T.2.1))
            case measure => have := HGK.out; omega
            case rel =>
              have hl7 : (ps ++ gapP a1 q ++ [(⟨⟨q, T.2.1, true, T.1.1, T.1.2⟩, A1, c1⟩ : Pt)]).length = N4 + 1 := by rw [List.length_append, HN4.out, List.length_singleton]
              refine ⟨ps ++ gapP a1 q ++ [⟨⟨q, T.2.1, true, T.1.1, T.1.2⟩, A1, c1⟩], q + T.2.1, q + T.2.1, A6, c6, A5, c5, rfl, by rw [hl7], rfl, rfl, Nat.le_refl _, by omega, by omega, Lib.hid rfl, Lib.hid (by rw [hl7]; exact HS7.out), Lib.hid ?_, Lib.hid ?_, Lib.hid HF7.out, Lib.hid HG7.out, Lib.hid HR7.out, Lib.hid ?_⟩
              · refine (HNP.out.append (gapP_new _ _ _)).append ?_
                intro p hp a e
                rw [List.mem_singleton] at hp
                subst hp
                exact HN1.out a e
              · have := HST.out _ a1 o1 q HII.out ha1 hoq hqx HRR.out HBG.out
                rw [frS, HT.out] at this
                rw [List.map_append, List.map_append, gapP_map]
                exact this
              · intro x e
                obtain ⟨y, e1, e2⟩ := HA6.out x e
                obtain ⟨z, e3, e4⟩ := HA3.out y e1
                obtain ⟨u, e5, e6⟩ := HAB.out z e3
                exact ⟨u, e5, e2.trans (e4.trans e6)⟩
      · have hne : (er != 0) = true := bne_iff_ne.2 her
        have hne2 : (er == 0) = false := beq_eq_false_iff_ne.2 her
        have hng : ¬ Begins xs q := by unfold Begins; rw [HT.out, HE.out]; exact her
        have HNG := Lib.hid hng
        clear hng her
        go_wp2_with fail
        go_ret2
        exact ⟨_, A3, _, c3, ps, a1, o1, q, rfl, HS3.out, HNP.out, HII.out, ha1, hoq, by omega, HF3.out, HG3.out, HR3.out, fun x e => by obtain ⟨y, e1, e2⟩ := HA3.out x e; obtain ⟨z, e3, e4⟩ := HAB.out y e1; exact ⟨z, e3, e2.trans e4⟩, by omega, .inr ⟨HRR.out, HNG.out⟩⟩
end Go.Proofs.Ytfaedecfpnmnjaa
