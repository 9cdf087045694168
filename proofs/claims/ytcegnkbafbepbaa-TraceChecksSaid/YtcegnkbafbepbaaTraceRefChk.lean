/-
  The document's own answer: why a trace isn't of a signature, and where.
-/
import Derived.Test.YtcegnkbafbepbaaTraceRef
import Derived.BigQuiet
namespace Go.Proofs.Ytcegnkbafbepbaa
open Go.RowKit Go.Shelf

set_option maxRecDepth 100000 in
set_option maxHeartbeats 2000000 in
theorem rtcheck_any (A : Option Addr) (c : Nat) (ds : List Pd) (T : Option Addr) (ct : Nat) (ps : List Pm) (w : World) (hrow : PredRow w w.heap.size (.slice A ds.length c) ds) (ht : TrRow w w.heap.size (.slice T ps.length ct) ps) :
    Calls Try.prog 10 #[.slice A ds.length c, .slice T ps.length ct] w fun e w' => e = .returned (.tuple #[.int .i64 (checkT (ds.map (·.p)) (ps.map (·.p))).1, .int .i64 (checkT (ds.map (·.p)) (ps.map (·.p))).2]) ∧ Below w.heap.size w w' := by
  obtain ⟨-, hc1, hc2⟩ := ht.1.len
  have HCK := Lib.hid (rcheck_any A c ds w hrow)
  have hsig := @checkT_sig (ds.map (·.p)) (ps.map (·.p))
  have hfound := @checkT_found (ds.map (·.p)) (ps.map (·.p))
  have hnone := @checkT_none (ds.map (·.p)) (ps.map (·.p))
  have HEV := Lib.hid (fun (x : Em) (W : World) h1 h2 => revent_any A c ds x W h1 h2)
  generalize checkT (ds.map (·.p)) (ps.map (·.p)) = R at hsig hfound hnone ⊢
  generalize ds.map (·.p) = sig at hsig hfound hnone HCK HEV
  obtain ⟨s, hs⟩ : ∃ s, checkP sig = s := ⟨_, rfl⟩
  rw [hs] at hsig hfound hnone HCK
  have HROW := Lib.hid hrow
  have HTR := Lib.hid ht
  clear hrow ht
  by_cases h0 : s = 0
  case neg =>
    have HR := Lib.hid (hsig h0)
    have h2 : (s != 0) = true := bne_iff_ne.2 h0
    clear h0 hsig hfound hnone
    go_enter Try.func10, Try.ntmps10
    go_wp2_with fail
    refine HCK.out.mono ?_
    rintro e w1 ⟨rfl, rfl⟩
    go_wp2_with fail
    exact bodyPost_ret (v := .tuple #[.int .i64 s, .int .i64 0]) (by simp [results, Try.results10, go_sem]) rfl ⟨by rw [HR.out], Below.refl _ _⟩
  subst h0
  have HF := Lib.hid (fun r (hr : r < (ps.map (·.p)).length) => hfound rfl hr)
  have HNO := Lib.hid (hnone rfl)
  clear hsig hfound hnone hs
  go_enter Try.func10, Try.ntmps10
  go_wp2_with fail
  refine HCK.out.mono ?_
  rintro e w1 ⟨rfl, rfl⟩
  go_wp2_with fail
  go_loopg [7] ps.length (fun gk i wr => ∃ k : Nat, k ≤ ps.length ∧ i = .int .i64 k ∧ Hid (ps.length - k = gk) ∧ Hid (∀ j, j < k → whyT sig (ps.map (·.p)) j = 0) ∧ Hid (Below w.heap.size w wr))
  case atStart => exact ⟨0, Nat.zero_le _, rfl, Lib.hid rfl, Lib.hid (fun j h => absurd h (Nat.not_lt_zero _)), Lib.hid (Below.refl _ _)⟩
  case round =>
    obtain ⟨k, hk, rfl, HGK, HJ, HB⟩ := hrel
    by_cases hlt : k < ps.length
    · obtain ⟨d, hd⟩ : ∃ d, ps[k]? = some d := ⟨_, List.getElem?_eq_getElem hlt⟩
      have hz := HB.out.size
      obtain ⟨b, o, rfl, hb, x0, x1, hok, hl1, hl2⟩ := (HTR.out.below HB.out).at hd
      have hfd := hok.2
      unfold Pm.Fits at hfd
      have hml : d.p.evs.length = d.evs.length := List.length_map _
      have HOK := Lib.hid hok
      have HD := Lib.hid hd
      have FK := fun r (hw : whyT sig (ps.map (·.p)) k = r) (h : r ≠ 0) => (show R = (r, (k : Int)) from (HF.out k (by rw [List.length_map]; exact hlt) HJ.out (by rw [hw]; exact h)).trans (by rw [hw]))
      have SK := fun (hw : whyT sig (ps.map (·.p)) k = 0) => step_lt (P := fun j => whyT sig (ps.map (·.p)) j = 0) HJ.out hw
      have hxx := fun W (h : Below wr.heap.size wr W) => (h.cell (p := ⟨b, o + k * 2 + 1, none⟩) (by simp only; omega)).trans x1
      have HXX := Lib.hid hxx
      clear hok hd hxx
      by_cases hk0 : 0 < k
      · obtain ⟨e, he⟩ : ∃ e, ps[k - 1]? = some e := ⟨_, List.getElem?_eq_getElem (by omega)⟩
        obtain ⟨b', o', ee, hb', z0, _, hoe, _⟩ := (HTR.out.below HB.out).at he
        have hfe := hoe.2
        unfold Pm.Fits at hfe
        injection ee with ee
        injection ee with e1 e2 _
        subst e1 e2
        obtain ⟨j, hj⟩ : ∃ j, k - 1 = j := ⟨_, rfl⟩
        have hkj : k = j + 1 := by omega
        rw [hj] at z0
        rw [hj] at he
        have hki : (k : Int) - 1 = (j : Int) := by omega
        have hek : (ps.map (·.p)).getD k default = d.p := getD_of (at_pn HD.out)
        have hej : (ps.map (·.p)).getD (k - 1) default = e.p := by rw [show k - 1 = j by omega]; exact getD_of (at_pn he)
        clear he hoe hj
        by_cases htm : d.tm < e.tm
        · have hw : whyT sig (ps.map (·.p)) k = 8 := whyT_order ⟨hk0, by rw [hek, hej]; exact htm⟩
          have HR := Lib.hid (FK 8 hw (by decide))
          clear hw hkj hek hej FK SK
          go_wp2_with fail
          go_quiet (fail)
          go_wp2_with fail
          exact bodyPost_ret (v := .tuple #[.int .i64 8, .int .i64 k]) (by simp [results, Try.results10, go_sem]) rfl ⟨by rw [HR.out], HB.out.trans (drewN_low _ _ _)⟩
        · have hw : whyT sig (ps.map (·.p)) k = whyE sig d.p.evs := by
            rw [whyT_else (by rw [hek, hej]; exact fun h => htm h.2), hek]
          have hge : e.tm ≤ d.tm := by omega
          have HFK := Lib.hid (fun h => FK _ hw h)
          have HSK := Lib.hid (fun h => SK (hw.trans h))
          clear hw hkj htm hek hej FK SK
          by_cases hgt : 1024 < d.evs.length
          · have hw6 : whyE sig d.p.evs = 6 := whyE_many (by rw [hml]; exact hgt)
            have HR := Lib.hid (HFK.out (by rw [hw6]; decide))
            rw [hw6] at HR
            have hgi : (1024 : Int) < (d.evs.length : Int) := by omega
            clear hw6
            go_wp2_with fail
            go_quiet (fail)
            go_wp2_with fail
            exact bodyPost_ret (v := .tuple #[.int .i64 6, .int .i64 k]) (by simp [results, Try.results10, go_sem]) rfl ⟨by rw [HR.out], HB.out.trans (drewN_low _ _ _)⟩
          · have hli : (d.evs.length : Int) ≤ 1024 := by omega
            have HFE := Lib.hid (fun r (hr : r < d.p.evs.length) h3 h4 => (show R = (eventT sig (d.p.evs.getD r default), (k : Int)) from by
              have hw := @whyE_found sig d.p.evs (by omega) r hr h3 h4
              have h := HFK.out (by rw [hw]; exact h4)
              rwa [hw] at h))
            have HNE := Lib.hid (fun h3 => HSK.out (@whyE_none sig d.p.evs (by omega) h3))
            have HML := Lib.hid hml
            clear hgt hml
            go_wp2_with fail
            go_quiet (fail)
            go_wp2_with fail
            go_loopg [8] d.evs.length (fun gm i wr2 => ∃ m : Nat, m ≤ d.evs.length ∧ i = .int .i64 m ∧ Hid (d.evs.length - m = gm) ∧ Hid (∀ j, j < m → eventT sig (d.p.evs.getD j default) = 0) ∧ Hid (Below wr.heap.size wr wr2))
            case atStart => exact ⟨0, Nat.zero_le _, rfl, Lib.hid rfl, Lib.hid (fun j h => absurd h (Nat.not_lt_zero _)), Lib.hid (drewN_low _ _ _)⟩
            case round =>
              obtain ⟨m, hm, rfl, HGM, HI, HB2⟩ := hrel
              have x1' := HXX.out _ HB2.out
              have hz2 := HB2.out.size
              clear x0 x1 z0
              by_cases hml : m < d.evs.length
              · obtain ⟨x, hx⟩ : ∃ x, d.evs[m]? = some x := ⟨_, List.getElem?_eq_getElem hml⟩
                have hbb := HB.out.trans (HB2.out.mono hz)
                obtain ⟨b2, o2, e2, hb2, u0, u1, hokx, hl3, hl4⟩ := (HOK.out.1.below (HB2.out.mono hz)).at hx
                rw [e2] at x1'
                have hfx := hokx.2
                unfold Em.Fits at hfx
                have HE := Lib.hid (HEV.out x _ ((HROW.out.below hbb).more hbb.size) (hokx.more hbb.size))
                have HGD := Lib.hid (getD_of (at_ev hx))
                obtain ⟨r, hr⟩ : ∃ r, eventT sig x.e = r := ⟨_, rfl⟩
                rw [hr] at HE
                have HRR := Lib.hid hr
                clear hx hokx hr hbb e2
                go_wp2_with fail
                refine HE.out.mono ?_
                rintro e w5 ⟨rfl, hb5⟩
                have HB5 := Lib.hid (HB2.out.trans (hb5.mono hz2))
                clear hb5
                by_cases h0 : r = 0
                · subst h0
                  have HI2 := Lib.hid (step_lt (P := fun j => eventT sig (d.p.evs.getD j default) = 0) HI.out (by rw [HGD.out]; exact HRR.out))
                  go_wp2_with fail
                  go_roundg (d.evs.length - (m + 1))
                  case measure => have := HGM.out; omega
                  case rel => exact ⟨m + 1, by omega, by go_num, Lib.hid rfl, HI2, HB5⟩
                · have HR := Lib.hid (HFE.out m (by rw [HML.out]; exact hml) HI.out (by rw [HGD.out, HRR.out]; exact h0))
                  rw [HGD.out, HRR.out] at HR
                  have h1 : (r != 0) = true := bne_iff_ne.2 h0
                  clear h0
                  go_wp2_with fail
                  exact bodyPost_ret (v := .tuple #[.int .i64 r, .int .i64 k]) (by simp [results, Try.results10, go_sem]) rfl ⟨by rw [HR.out], HB.out.trans (HB5.out.mono hz)⟩
              · obtain rfl : m = d.evs.length := by omega
                have HJ2 := Lib.hid (HNE.out (fun j hj => HI.out j (by rwa [HML.out] at hj)))
                go_wp2_with fail
                go_roundg (ps.length - (k + 1))
                case measure => have := HGK.out; omega
                case rel => exact ⟨k + 1, by omega, by go_num, Lib.hid rfl, HJ2, Lib.hid (HB.out.trans (HB2.out.mono hz))⟩
      · have hw : whyT sig (ps.map (·.p)) k = whyE sig d.p.evs := by
          rw [whyT_else (fun h => hk0 h.1), getD_of (at_pn HD.out)]
        have hkd : decide (0 < (k : Int)) = false := decide_eq_false (by omega)
        have HFK := Lib.hid (fun h => FK _ hw h)
        have HSK := Lib.hid (fun h => SK (hw.trans h))
        clear hw FK SK
        by_cases hgt : 1024 < d.evs.length
        · have hw6 : whyE sig d.p.evs = 6 := whyE_many (by rw [hml]; exact hgt)
          have HR := Lib.hid (HFK.out (by rw [hw6]; decide))
          rw [hw6] at HR
          have hgi : (1024 : Int) < (d.evs.length : Int) := by omega
          clear hw6
          go_wp2_with fail
          go_quiet (fail)
          go_wp2_with fail
          exact bodyPost_ret (v := .tuple #[.int .i64 6, .int .i64 k]) (by simp [results, Try.results10, go_sem]) rfl ⟨by rw [HR.out], HB.out.trans (drewN_low _ _ _)⟩
        · have hli : (d.evs.length : Int) ≤ 1024 := by omega
          have HFE := Lib.hid (fun r (hr : r < d.p.evs.length) h3 h4 => (show R = (eventT sig (d.p.evs.getD r default), (k : Int)) from by
            have hw := @whyE_found sig d.p.evs (by omega) r hr h3 h4
            have h := HFK.out (by rw [hw]; exact h4)
            rwa [hw] at h))
          have HNE := Lib.hid (fun h3 => HSK.out (@whyE_none sig d.p.evs (by omega) h3))
          have HML := Lib.hid hml
          clear hgt hml
          go_wp2_with fail
          go_quiet (fail)
          go_wp2_with fail
          go_loopg [8] d.evs.length (fun gm i wr2 => ∃ m : Nat, m ≤ d.evs.length ∧ i = .int .i64 m ∧ Hid (d.evs.length - m = gm) ∧ Hid (∀ j, j < m → eventT sig (d.p.evs.getD j default) = 0) ∧ Hid (Below wr.heap.size wr wr2))
          case atStart => exact ⟨0, Nat.zero_le _, rfl, Lib.hid rfl, Lib.hid (fun j h => absurd h (Nat.not_lt_zero _)), Lib.hid (drewN_low _ _ _)⟩
          case round =>
            obtain ⟨m, hm, rfl, HGM, HI, HB2⟩ := hrel
            have x1' := HXX.out _ HB2.out
            have hz2 := HB2.out.size
            clear x0 x1
            by_cases hml : m < d.evs.length
            · obtain ⟨x, hx⟩ : ∃ x, d.evs[m]? = some x := ⟨_, List.getElem?_eq_getElem hml⟩
              have hbb := HB.out.trans (HB2.out.mono hz)
              obtain ⟨b2, o2, e2, hb2, u0, u1, hokx, hl3, hl4⟩ := (HOK.out.1.below (HB2.out.mono hz)).at hx
              rw [e2] at x1'
              have hfx := hokx.2
              unfold Em.Fits at hfx
              have HE := Lib.hid (HEV.out x _ ((HROW.out.below hbb).more hbb.size) (hokx.more hbb.size))
              have HGD := Lib.hid (getD_of (at_ev hx))
              obtain ⟨r, hr⟩ : ∃ r, eventT sig x.e = r := ⟨_, rfl⟩
              rw [hr] at HE
              have HRR := Lib.hid hr
              clear hx hokx hr hbb e2
              go_wp2_with fail
              refine HE.out.mono ?_
              rintro e w5 ⟨rfl, hb5⟩
              have HB5 := Lib.hid (HB2.out.trans (hb5.mono hz2))
              clear hb5
              by_cases h0 : r = 0
              · subst h0
                have HI2 := Lib.hid (step_lt (P := fun j => eventT sig (d.p.evs.getD j default) = 0) HI.out (by rw [HGD.out]; exact HRR.out))
                go_wp2_with fail
                go_roundg (d.evs.length - (m + 1))
                case measure => have := HGM.out; omega
                case rel => exact ⟨m + 1, by omega, by go_num, Lib.hid rfl, HI2, HB5⟩
              · have HR := Lib.hid (HFE.out m (by rw [HML.out]; exact hml) HI.out (by rw [HGD.out, HRR.out]; exact h0))
                rw [HGD.out, HRR.out] at HR
                have h1 : (r != 0) = true := bne_iff_ne.2 h0
                clear h0
                go_wp2_with fail
                exact bodyPost_ret (v := .tuple #[.int .i64 r, .int .i64 k]) (by simp [results, Try.results10, go_sem]) rfl ⟨by rw [HR.out], HB.out.trans (HB5.out.mono hz)⟩
            · obtain rfl : m = d.evs.length := by omega
              have HJ2 := Lib.hid (HNE.out (fun j hj => HI.out j (by rwa [HML.out] at hj)))
              go_wp2_with fail
              go_roundg (ps.length - (k + 1))
              case measure => have := HGK.out; omega
              case rel => exact ⟨k + 1, by omega, by go_num, Lib.hid rfl, HJ2, Lib.hid (HB.out.trans (HB2.out.mono hz))⟩
    · obtain rfl : k = ps.length := by omega
      have HR := Lib.hid (HNO.out (fun j hj => HJ.out j (by rwa [List.length_map] at hj)))
      go_wp2_with fail
      exact bodyPost_ret (v := .tuple #[.int .i64 0, .int .i64 0]) (by simp [results, Try.results10, go_sem]) rfl ⟨by rw [HR.out], HB.out⟩
#print axioms rtcheck_any
end Go.Proofs.Ytcegnkbafbepbaa
