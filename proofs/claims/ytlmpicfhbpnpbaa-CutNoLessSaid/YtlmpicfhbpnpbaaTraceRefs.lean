/-
  The document's own answers: why an event, a trace isn't of a signature, and where.
-/
import Derived.Test.YtlmpicfhbpnpbaaTraceRows
import Derived.Test.YtlmpicfhbpnpbaaSigKit
import Derived.Carry
import Derived.BigQuiet
namespace Go.Proofs.Ytlmpicfhbpnpbaa
open Go.RowKit

set_option maxRecDepth 100000 in
set_option maxHeartbeats 2000000 in
theorem revent_any (A : Option Addr) (c : Nat) (ds : List Pd) (x : Em) (w : World) (hrow : PredRow w w.heap.size (.slice A ds.length c) ds) (hx : x.Ok w w.heap.size) :
    Calls Try.prog 14 #[.slice A ds.length c, x.val] w fun e w' => e = .returned (.int .i64 (eventT (ds.map (·.p)) x.e)) ∧ Below w.heap.size w w' := by
  obtain ⟨hc1, hc2⟩ : ds.length ≤ c ∧ c ≤ 9223372036854775807 := by
    obtain ⟨A', c', hv, q1, q2⟩ := hrow.form
    injection hv with _ _ e3
    exact ⟨by omega, by omega⟩
  have hml : (ds.map (·.p)).length = ds.length := List.length_map _
  obtain ⟨hga, hfp⟩ := hx
  obtain ⟨-, hl1, hl2⟩ := hga.1.len
  unfold Em.Fits at hfp
  have hb1 : Below w.heap.size w (w.alloc (.cells #[.int .i64 x.p, .slice x.A x.args.length x.c] 42)) := (Below.refl _ _).alloc (Nat.le_refl _) _
  by_cases hneg : x.p < 0
  · rw [eventT_name (.inl hneg)]
    clear hrow hga
    go_enter Try.func14, Try.ntmps14
    go_wp2_with fail
    go_ret
    exact ⟨rfl, hb1⟩
  have hn0 : 0 ≤ x.p := by omega
  by_cases hbig : (ds.length : Int) ≤ x.p
  · rw [eventT_name (.inr (by rw [hml]; exact hbig))]
    clear hrow hga
    go_enter Try.func14, Try.ntmps14
    go_wp2_with fail
    go_ret
    exact ⟨rfl, hb1⟩
  obtain ⟨k, hk⟩ : ∃ k : Nat, x.p = k := ⟨x.p.toNat, by omega⟩
  have hkl : k < ds.length := by omega
  obtain ⟨d, hd⟩ : ∃ d, ds[k]? = some d := ⟨_, List.getElem?_eq_getElem hkl⟩
  obtain ⟨b, o, rfl, hb, x0, x1, hir, hfit, ha1, ha2⟩ := hrow.at hd
  have hat := @eventT_arg (ds.map (·.p)) x.e k d.p hk (at_pr hd)
  have hfound := @eventT_found (ds.map (·.p)) x.e k d.p hk (at_pr hd)
  have hnone := @eventT_none (ds.map (·.p)) x.e k d.p hk (at_pr hd)
  generalize eventT (ds.map (·.p)) x.e = R at hat hfound hnone ⊢
  have hvx : x.val = .agg #[.int .i64 k, .slice x.A x.args.length x.c] := by rw [Em.val, hk]
  rw [hvx]
  rw [hk] at hb1
  dsimp only [Em.e] at hat hfound hnone
  obtain ⟨dA, hdA⟩ : ∃ dA, d.A = dA := ⟨_, rfl⟩
  rw [hdA] at x1 hir
  obtain ⟨dc, hdc⟩ : ∃ dc, d.c = dc := ⟨_, rfl⟩
  rw [hdc] at x1 hir ha1 ha2
  obtain ⟨dn, hdn⟩ : ∃ dn, strOfNums d.p.name = dn := ⟨_, rfl⟩
  rw [hdn] at x0
  obtain ⟨ts, hts⟩ : ∃ ts, d.p.args = ts := ⟨_, rfl⟩
  rw [hts] at x1 hir ha1 hat hfound hnone
  obtain ⟨xA, hxA⟩ : ∃ xA, x.A = xA := ⟨_, rfl⟩
  rw [hxA] at hga hb1 ⊢
  obtain ⟨xc, hxc⟩ : ∃ xc, x.c = xc := ⟨_, rfl⟩
  rw [hxc] at hga hb1 hl1 hl2 ⊢
  obtain ⟨gs, has⟩ : ∃ gs, x.args = gs := ⟨_, rfl⟩
  simp only [has] at hga hb1 hl1 hat hfound hnone ⊢
  have y0 := (hb1.cell (p := ⟨b, o + k * 2, none⟩) hb).trans x0
  have y1 := (hb1.cell (p := ⟨b, o + k * 2 + 1, none⟩) hb).trans x1
  clear hvx hk hdA hdc hdn hts hxA hxc has hneg hbig hfp hd hrow hml hn0 hfit x0 x1
  clear x d
  obtain ⟨w2, hw2⟩ : ∃ w2, (w.alloc (.cells #[.int .i64 k, .slice xA gs.length xc] 42)).alloc (.cells #[.string dn, .slice dA ts.length dc] 59) = w2 := ⟨_, rfl⟩
  have s1 : (w.alloc (.cells #[.int .i64 k, .slice xA gs.length xc] 42)).heap.size = w.heap.size + 1 := World.size_alloc _ _
  have s2 : w2.heap.size = w.heap.size + 2 := by rw [← hw2, World.size_alloc, s1]
  have hb2 : Below w.heap.size w w2 := by rw [← hw2]; exact hb1.alloc (by omega) _
  have hh1 : Held w2 w.heap.size 42 #[.int .i64 k, .slice xA gs.length xc] := by rw [← hw2]; exact Held.below (heap_alloc_new w _) ((Below.refl _ _).alloc (Nat.le_refl _) _) (by omega)
  have hh2 : Held w2 (w.heap.size + 1) 59 #[.string dn, .slice dA ts.length dc] := by rw [← hw2, ← s1]; exact heap_alloc_new _ _
  have g1 := hh1.cell 1
  have g2 := hh2.cell 1
  simp at g1 g2
  clear hb1 s1
  by_cases hne : gs.length ≠ ts.length
  · rw [hat hne]
    have hne1 : ((ts.length : Int) != (gs.length : Int)) = true := bne_iff_ne.2 (by omega)
    clear hne hat hfound hnone hga hir hh1 hh2
    go_enter Try.func14, Try.ntmps14
    go_wp2_with fail
    go_ret
    exact ⟨rfl, hb2⟩
  have hle : gs.length = ts.length := by omega
  rw [← hle] at y1 hir ha1 hh2 g2 hw2
  have HF := Lib.hid (fun r hr => hfound hle (r := r) hr)
  have HNO := Lib.hid (hnone hle)
  have HGA := Lib.hid hga
  have HIR := Lib.hid hir
  have HB1 := Lib.hid hb2
  have HLE := Lib.hid hle
  have HALL := Lib.hid (fun W (h : Below w2.heap.size w2 W) => (show W.cell? ⟨w.heap.size, 1, none⟩ = some (.slice xA gs.length xc) ∧ W.cell? ⟨w.heap.size + 1, 1, none⟩ = some (.slice dA gs.length dc) from by
    have v1 := (hh1.below h (by omega)).cell 1
    have v2 := (hh2.below h (by omega)).cell 1
    simp at v1 v2
    exact ⟨v1, v2⟩))
  clear hne hat hfound hnone hga hir hle hb2 hh1 hh2
  go_enter Try.func14, Try.ntmps14
  go_wp2_with fail
  clear y0 y1 g1 g2 hw2
  rename _ ∧ ¬ ds.length ≤ k => hq
  clear hq
  go_loopg [6] gs.length (fun gm i wr => ∃ m : Nat, m ≤ gs.length ∧ i = .int .i64 m ∧ Hid (gs.length - m = gm) ∧ Hid (∀ j, j < m → whyG (ts.getD j 0) (gs.getD j default) = 0) ∧ Hid (Below w2.heap.size w2 wr))
  case atStart => exact ⟨0, Nat.zero_le _, rfl, Lib.hid rfl, Lib.hid (fun j h => absurd h (Nat.not_lt_zero _)), Lib.hid (Below.refl _ _)⟩
  case round =>
    obtain ⟨m, hm, rfl, HGM, HJ, HB⟩ := hrel
    obtain ⟨g1, g2⟩ := HALL.out _ HB.out
    by_cases hml : m < gs.length
    · obtain ⟨a, ha⟩ : ∃ a, gs[m]? = some a := ⟨_, List.getElem?_eq_getElem hml⟩
      have hbb := HB1.out.trans (HB.out.mono (by omega))
      obtain ⟨b2, o2, rfl, hb2, ht⟩ := (HIR.out.below hbb).at (i := m) (by have := HLE.out; omega)
      obtain ⟨b3, o3, rfl, hb3, z0, z1, z2, hfit⟩ := (HGA.out.below hbb).at ha
      have hz := HB.out.size
      have FM := HF.out m hml HJ.out
      have ST := step_lt (P := fun j => whyG (ts.getD j 0) (gs.getD j default) = 0) (k := m) HJ.out
      rw [getD_of ha] at FM ST
      have HFM := Lib.hid FM
      have HST := Lib.hid ST
      generalize ts.getD m 0 = t at ht HFM HST
      obtain ⟨at', an, as'⟩ := a
      have hsn := strOfNums_size as'
      have hsl : as'.length ≤ 9223372036854775807 := by have := hfit.1; unfold maxLen at this; simpa using this
      have hse := str_empty as'
      obtain ⟨w4, hw4⟩ : ∃ w4, wr.alloc (.cells #[.int .i64 at', .int .i64 an, .string (strOfNums as')] 61) = w4 := ⟨_, rfl⟩
      have s4 : w4.heap.size = wr.heap.size + 1 := by rw [← hw4, World.size_alloc]
      have hb4 : Below wr.heap.size wr w4 := by rw [← hw4]; exact (Below.refl _ _).alloc (Nat.le_refl _) _
      have hh4 : Held w4 wr.heap.size 61 #[.int .i64 at', .int .i64 an, .string (strOfNums as')] := by rw [← hw4]; exact heap_alloc_new wr _
      have HB4 := Lib.hid (HB.out.trans (hb4.mono hz))
      have v0 := hh4.cell 0
      have v1 := hh4.cell 1
      have v2 := hh4.cell 2
      simp at v0 v1 v2
      have g2' := (HALL.out _ HB4.out).2
      have ht' := (hb4.cell (p := ⟨b2, o2 + m, none⟩) (by simp only; omega)).trans ht
      generalize strOfNums as' = sv at *
      clear ST FM ha hfit hb4 hh4 hbb g2 ht
      by_cases h1 : at' = t
      case neg =>
        have hw : whyG t ⟨at', an, as'⟩ = 7 := by simp [whyG, h1]
        have HR := Lib.hid ((HFM.out (by rw [hw]; decide)).trans hw)
        have h1c : (at' != t) = true := bne_iff_ne.2 h1
        clear h1 hw HFM HST hse
        go_wp2_with fail
        go_quiet (fail)
        go_wp2_with fail
        go_ret
        exact ⟨by rw [HR.out]; rfl, HB1.out.trans ((HB4.out.trans (drewN_low _ _ _)).mono (by omega))⟩
      subst h1
      by_cases h2 : at' = 1
      · subst h2
        by_cases h3 : as' = []
        · have hs1 : sv.toList.isEmpty = true := by rw [hse, h3]; rfl
          have hl0 : as'.length = 0 := by rw [h3]; rfl
          have HJ2 := Lib.hid (HST.out (show whyG 1 ⟨1, an, as'⟩ = 0 from by simp [whyG, h3]))
          rw [hl0] at hsn
          clear h3 hl0 HFM HST hse hsl
          go_wp2_with fail
          go_quiet (fail)
          go_wp2_with fail
          go_roundg (gs.length - (m + 1))
          case measure => have := HGM.out; omega
          case rel => exact ⟨m + 1, by omega, by go_num, Lib.hid rfl, HJ2, Lib.hid (HB4.out.trans (drewN_low _ _ _))⟩
        · have hs1 : sv.toList.isEmpty = false := by
            rw [hse]
            cases as' with
            | nil => exact absurd rfl h3
            | cons _ _ => rfl
          have hw : whyG 1 ⟨1, an, as'⟩ = 1 := by simp [whyG, h3]
          have HR := Lib.hid ((HFM.out (by rw [hw]; decide)).trans hw)
          clear h3 hw HFM HST hse
          go_wp2_with fail
          go_quiet (fail)
          go_wp2_with fail
          go_ret
          exact ⟨by rw [HR.out]; rfl, HB1.out.trans ((HB4.out.trans (drewN_low _ _ _)).mono (by omega))⟩
      have h2b : (at' == 1) = false := beq_eq_false_iff_ne.2 h2
      by_cases h3 : at' = 2
      · subst h3
        by_cases h4 : an = 0
        case neg =>
          have h4b : (an != 0) = true := bne_iff_ne.2 h4
          have hw : whyG 2 ⟨2, an, as'⟩ = 1 := by simp [whyG, h4]
          have HR := Lib.hid ((HFM.out (by rw [hw]; decide)).trans hw)
          clear h4 hw HFM HST hse
          go_wp2_with fail
          go_quiet (fail)
          go_wp2_with fail
          go_ret
          exact ⟨by rw [HR.out]; rfl, HB1.out.trans ((HB4.out.trans (drewN_low _ _ _)).mono (by omega))⟩
        subst h4
        by_cases h5 : 200 < as'.length
        · have h5i : (200 : Int) < (as'.length : Int) := by omega
          have hw : whyG 2 ⟨2, 0, as'⟩ = 6 := by simp [whyG, h5]
          have HR := Lib.hid ((HFM.out (by rw [hw]; decide)).trans hw)
          clear hw HFM HST hse
          go_wp2_with fail
          go_quiet (fail)
          go_wp2_with fail
          go_ret
          exact ⟨by rw [HR.out]; rfl, HB1.out.trans ((HB4.out.trans (drewN_low _ _ _)).mono (by omega))⟩
        · have h5i : (as'.length : Int) ≤ 200 := by omega
          have HJ2 := Lib.hid (HST.out (show whyG 2 ⟨2, 0, as'⟩ = 0 from by simp [whyG, h5]))
          clear HFM HST hse
          go_wp2_with fail
          go_quiet (fail)
          go_wp2_with fail
          go_roundg (gs.length - (m + 1))
          case measure => have := HGM.out; omega
          case rel => exact ⟨m + 1, by omega, by go_num, Lib.hid rfl, HJ2, Lib.hid (HB4.out.trans (drewN_low _ _ _))⟩
      have h3b : (at' == 2) = false := beq_eq_false_iff_ne.2 h3
      by_cases h5 : 200 < as'.length
      · have h5i : (200 : Int) < (as'.length : Int) := by omega
        have hw : whyG at' ⟨at', an, as'⟩ = 6 := by simp [whyG, h2, h3, h5]
        have HR := Lib.hid ((HFM.out (by rw [hw]; decide)).trans hw)
        clear hw HFM HST hse
        go_wp2_with fail
        go_quiet (fail)
        go_wp2_with fail
        go_ret
        exact ⟨by rw [HR.out]; rfl, HB1.out.trans ((HB4.out.trans (drewN_low _ _ _)).mono (by omega))⟩
      · have h5i : (as'.length : Int) ≤ 200 := by omega
        have HJ2 := Lib.hid (HST.out (show whyG at' ⟨at', an, as'⟩ = 0 from by simp [whyG, h2, h3, h5]))
        clear HFM HST hse
        go_wp2_with fail
        go_quiet (fail)
        go_wp2_with fail
        go_roundg (gs.length - (m + 1))
        case measure => have := HGM.out; omega
        case rel => exact ⟨m + 1, by omega, by go_num, Lib.hid rfl, HJ2, Lib.hid (HB4.out.trans (drewN_low _ _ _))⟩
    · obtain rfl : m = gs.length := by omega
      have HR := Lib.hid (HNO.out HJ.out)
      go_wp2_with fail
      go_ret
      exact ⟨by rw [HR.out]; rfl, HB1.out.trans (HB.out.mono (by omega))⟩
#print axioms revent_any
end Go.Proofs.Ytlmpicfhbpnpbaa

namespace Go.Proofs.Ytlmpicfhbpnpbaa
open Go.RowKit Go.Shelf

set_option maxRecDepth 100000 in
set_option maxHeartbeats 2000000 in
theorem rtcheck_any (A : Option Addr) (c : Nat) (ds : List Pd) (T : Option Addr) (ct : Nat) (ps : List Pm) (w : World) (hrow : PredRow w w.heap.size (.slice A ds.length c) ds) (ht : TrRow w w.heap.size (.slice T ps.length ct) ps) :
    Calls Try.prog 10 #[.slice A ds.length c, .slice T ps.length ct] w fun e w' => e = .returned (.tuple #[.int .i64 (checkT (ds.map (·.p)) (ps.map (·.p))).1, .int .i64 (checkT (ds.map (·.p)) (ps.map (·.p))).2]) ∧ Below w.heap.size w w' := by
  obtain ⟨-, hc1, hc2⟩ := ht.1.len
  have HCK := Lib.hid (rcheck_any A c ds w hrow)
  have hsig := @checkT_sig (ds.map (·.p)) (ps.map (·.p))
  have hfound := @checkT_found (ds.map (·.p)) (ps.map (·.p))
  have hnone := @checkT_none (ds.map (·.p)) (ps.map (·.p))
  have HEV := Lib.hid (fun (x : Em) (W : World) h1 h2 => revent_any A c ds x W h1 h2)
  generalize checkT (ds.map (·.p)) (ps.map (·.p)) = R at hsig hfound hnone ⊢
  generalize ds.map (·.p) = sig at hsig hfound hnone HCK HEV
  obtain ⟨s, hs⟩ : ∃ s, checkP sig = s := ⟨_, rfl⟩
  rw [hs] at hsig hfound hnone HCK
  have HROW := Lib.hid hrow
  have HTR := Lib.hid ht
  clear hrow ht
  by_cases h0 : s = 0
  case neg =>
    have HR := Lib.hid (hsig h0)
    have h2 : (s != 0) = true := bne_iff_ne.2 h0
    clear h0 hsig hfound hnone
    go_enter Try.func10, Try.ntmps10
    go_wp2_with fail
    refine HCK.out.mono ?_
    rintro e w1 ⟨rfl, rfl⟩
    go_wp2_with fail
    exact bodyPost_ret (v := .tuple #[.int .i64 s, .int .i64 0]) (by simp [results, Try.results10, go_sem]) rfl ⟨by rw [HR.out], Below.refl _ _⟩
  subst h0
  have HF := Lib.hid (fun r (hr : r < (ps.map (·.p)).length) => hfound rfl hr)
  have HNO := Lib.hid (hnone rfl)
  clear hsig hfound hnone hs
  go_enter Try.func10, Try.ntmps10
  go_wp2_with fail
  refine HCK.out.mono ?_
  rintro e w1 ⟨rfl, rfl⟩
  go_wp2_with fail
  go_loopg [7] ps.length (fun gk i wr => ∃ k : Nat, k ≤ ps.length ∧ i = .int .i64 k ∧ Hid (ps.length - k = gk) ∧ Hid (∀ j, j < k → whyT sig (ps.map (·.p)) j = 0) ∧ Hid (Below w.heap.size w wr))
  case atStart => exact ⟨0, Nat.zero_le _, rfl, Lib.hid rfl, Lib.hid (fun j h => absurd h (Nat.not_lt_zero _)), Lib.hid (Below.refl _ _)⟩
  case round =>
    obtain ⟨k, hk, rfl, HGK, HJ, HB⟩ := hrel
    by_cases hlt : k < ps.length
    · obtain ⟨d, hd⟩ : ∃ d, ps[k]? = some d := ⟨_, List.getElem?_eq_getElem hlt⟩
      have hz := HB.out.size
      obtain ⟨b, o, rfl, hb, x0, x1, hok, hl1, hl2⟩ := (HTR.out.below HB.out).at hd
      have hfd := hok.2
      unfold Pm.Fits at hfd
      have hml : d.p.evs.length = d.evs.length := List.length_map _
      have HOK := Lib.hid hok
      have HD := Lib.hid hd
      have FK := fun r (hw : whyT sig (ps.map (·.p)) k = r) (h : r ≠ 0) => (show R = (r, (k : Int)) from (HF.out k (by rw [List.length_map]; exact hlt) HJ.out (by rw [hw]; exact h)).trans (by rw [hw]))
      have SK := fun (hw : whyT sig (ps.map (·.p)) k = 0) => step_lt (P := fun j => whyT sig (ps.map (·.p)) j = 0) HJ.out hw
      have hxx := fun W (h : Below wr.heap.size wr W) => (h.cell (p := ⟨b, o + k * 2 + 1, none⟩) (by simp only; omega)).trans x1
      have HXX := Lib.hid hxx
      clear hok hd hxx
      by_cases hk0 : 0 < k
      · obtain ⟨e, he⟩ : ∃ e, ps[k - 1]? = some e := ⟨_, List.getElem?_eq_getElem (by omega)⟩
        obtain ⟨b', o', ee, hb', z0, _, hoe, _⟩ := (HTR.out.below HB.out).at he
        have hfe := hoe.2
        unfold Pm.Fits at hfe
        injection ee with ee
        injection ee with e1 e2 _
        subst e1 e2
        obtain ⟨j, hj⟩ : ∃ j, k - 1 = j := ⟨_, rfl⟩
        have hkj : k = j + 1 := by omega
        rw [hj] at z0
        rw [hj] at he
        have hki : (k : Int) - 1 = (j : Int) := by omega
        have hek : (ps.map (·.p)).getD k default = d.p := getD_of (at_pn HD.out)
        have hej : (ps.map (·.p)).getD (k - 1) default = e.p := by rw [show k - 1 = j by omega]; exact getD_of (at_pn he)
        clear he hoe hj
        by_cases htm : d.tm < e.tm
        · have hw : whyT sig (ps.map (·.p)) k = 8 := whyT_order ⟨hk0, by rw [hek, hej]; exact htm⟩
          have HR := Lib.hid (FK 8 hw (by decide))
          clear hw hkj hek hej FK SK
          go_wp2_with fail
          go_quiet (fail)
          go_wp2_with fail
          exact bodyPost_ret (v := .tuple #[.int .i64 8, .int .i64 k]) (by simp [results, Try.results10, go_sem]) rfl ⟨by rw [HR.out], HB.out.trans (drewN_low _ _ _)⟩
        · have hw : whyT sig (ps.map (·.p)) k = whyE sig d.p.evs := by
            rw [whyT_else (by rw [hek, hej]; exact fun h => htm h.2), hek]
          have hge : e.tm ≤ d.tm := by omega
          have HFK := Lib.hid (fun h => FK _ hw h)
          have HSK := Lib.hid (fun h => SK (hw.trans h))
          clear hw hkj htm hek hej FK SK
          by_cases hgt : 1024 < d.evs.length
          · have hw6 : whyE sig d.p.evs = 6 := whyE_many (by rw [hml]; exact hgt)
            have HR := Lib.hid (HFK.out (by rw [hw6]; decide))
            rw [hw6] at HR
            have hgi : (1024 : Int) < (d.evs.length : Int) := by omega
            clear hw6
            go_wp2_with fail
            go_quiet (fail)
            go_wp2_with fail
            exact bodyPost_ret (v := .tuple #[.int .i64 6, .int .i64 k]) (by simp [results, Try.results10, go_sem]) rfl ⟨by rw [HR.out], HB.out.trans (drewN_low _ _ _)⟩
          · have hli : (d.evs.length : Int) ≤ 1024 := by omega
            have HFE := Lib.hid (fun r (hr : r < d.p.evs.length) h3 h4 => (show R = (eventT sig (d.p.evs.getD r default), (k : Int)) from by
              have hw := @whyE_found sig d.p.evs (by omega) r hr h3 h4
              have h := HFK.out (by rw [hw]; exact h4)
              rwa [hw] at h))
            have HNE := Lib.hid (fun h3 => HSK.out (@whyE_none sig d.p.evs (by omega) h3))
            have HML := Lib.hid hml
            clear hgt hml
            go_wp2_with fail
            go_quiet (fail)
            go_wp2_with fail
            go_loopg [8] d.evs.length (fun gm i wr2 => ∃ m : Nat, m ≤ d.evs.length ∧ i = .int .i64 m ∧ Hid (d.evs.length - m = gm) ∧ Hid (∀ j, j < m → eventT sig (d.p.evs.getD j default) = 0) ∧ Hid (Below wr.heap.size wr wr2))
            case atStart => exact ⟨0, Nat.zero_le _, rfl, Lib.hid rfl, Lib.hid (fun j h => absurd h (Nat.not_lt_zero _)), Lib.hid (drewN_low _ _ _)⟩
            case round =>
              obtain ⟨m, hm, rfl, HGM, HI, HB2⟩ := hrel
              have x1' := HXX.out _ HB2.out
              have hz2 := HB2.out.size
              clear x0 x1 z0
              by_cases hml : m < d.evs.length
              · obtain ⟨x, hx⟩ : ∃ x, d.evs[m]? = some x := ⟨_, List.getElem?_eq_getElem hml⟩
                have hbb := HB.out.trans (HB2.out.mono hz)
                obtain ⟨b2, o2, e2, hb2, u0, u1, hokx, hl3, hl4⟩ := (HOK.out.1.below (HB2.out.mono hz)).at hx
                rw [e2] at x1'
                have hfx := hokx.2
                unfold Em.Fits at hfx
                have HE := Lib.hid (HEV.out x _ ((HROW.out.below hbb).more hbb.size) (hokx.more hbb.size))
                have HGD := Lib.hid (getD_of (at_ev hx))
                obtain ⟨r, hr⟩ : ∃ r, eventT sig x.e = r := ⟨_, rfl⟩
                rw [hr] at HE
                have HRR := Lib.hid hr
                clear hx hokx hr hbb e2
                go_wp2_with fail
                refine HE.out.mono ?_
                rintro e w5 ⟨rfl, hb5⟩
                have HB5 := Lib.hid (HB2.out.trans (hb5.mono hz2))
                clear hb5
                by_cases h0 : r = 0
                · subst h0
                  have HI2 := Lib.hid (step_lt (P := fun j => eventT sig (d.p.evs.getD j default) = 0) HI.out (by rw [HGD.out]; exact HRR.out))
                  go_wp2_with fail
                  go_roundg (d.evs.length - (m + 1))
                  case measure => have := HGM.out; omega
                  case rel => exact ⟨m + 1, by omega, by go_num, Lib.hid rfl, HI2, HB5⟩
                · have HR := Lib.hid (HFE.out m (by rw [HML.out]; exact hml) HI.out (by rw [HGD.out, HRR.out]; exact h0))
                  rw [HGD.out, HRR.out] at HR
                  have h1 : (r != 0) = true := bne_iff_ne.2 h0
                  clear h0
                  go_wp2_with fail
                  exact bodyPost_ret (v := .tuple #[.int .i64 r, .int .i64 k]) (by simp [results, Try.results10, go_sem]) rfl ⟨by rw [HR.out], HB.out.trans (HB5.out.mono hz)⟩
              · obtain rfl : m = d.evs.length := by omega
                have HJ2 := Lib.hid (HNE.out (fun j hj => HI.out j (by rwa [HML.out] at hj)))
                go_wp2_with fail
                go_roundg (ps.length - (k + 1))
                case measure => have := HGK.out; omega
                case rel => exact ⟨k + 1, by omega, by go_num, Lib.hid rfl, HJ2, Lib.hid (HB.out.trans (HB2.out.mono hz))⟩
      · have hw : whyT sig (ps.map (·.p)) k = whyE sig d.p.evs := by
          rw [whyT_else (fun h => hk0 h.1), getD_of (at_pn HD.out)]
        have hkd : decide (0 < (k : Int)) = false := decide_eq_false (by omega)
        have HFK := Lib.hid (fun h => FK _ hw h)
        have HSK := Lib.hid (fun h => SK (hw.trans h))
        clear hw FK SK
        by_cases hgt : 1024 < d.evs.length
        · have hw6 : whyE sig d.p.evs = 6 := whyE_many (by rw [hml]; exact hgt)
          have HR := Lib.hid (HFK.out (by rw [hw6]; decide))
          rw [hw6] at HR
          have hgi : (1024 : Int) < (d.evs.length : Int) := by omega
          clear hw6
          go_wp2_with fail
          go_quiet (fail)
          go_wp2_with fail
          exact bodyPost_ret (v := .tuple #[.int .i64 6, .int .i64 k]) (by simp [results, Try.results10, go_sem]) rfl ⟨by rw [HR.out], HB.out.trans (drewN_low _ _ _)⟩
        · have hli : (d.evs.length : Int) ≤ 1024 := by omega
          have HFE := Lib.hid (fun r (hr : r < d.p.evs.length) h3 h4 => (show R = (eventT sig (d.p.evs.getD r default), (k : Int)) from by
            have hw := @whyE_found sig d.p.evs (by omega) r hr h3 h4
            have h := HFK.out (by rw [hw]; exact h4)
            rwa [hw] at h))
          have HNE := Lib.hid (fun h3 => HSK.out (@whyE_none sig d.p.evs (by omega) h3))
          have HML := Lib.hid hml
          clear hgt hml
          go_wp2_with fail
          go_quiet (fail)
          go_wp2_with fail
          go_loopg [8] d.evs.length (fun gm i wr2 => ∃ m : Nat, m ≤ d.evs.length ∧ i = .int .i64 m ∧ Hid (d.evs.length - m = gm) ∧ Hid (∀ j, j < m → eventT sig (d.p.evs.getD j default) = 0) ∧ Hid (Below wr.heap.size wr wr2))
          case atStart => exact ⟨0, Nat.zero_le _, rfl, Lib.hid rfl, Lib.hid (fun j h => absurd h (Nat.not_lt_zero _)), Lib.hid (drewN_low _ _ _)⟩
          case round =>
            obtain ⟨m, hm, rfl, HGM, HI, HB2⟩ := hrel
            have x1' := HXX.out _ HB2.out
            have hz2 := HB2.out.size
            clear x0 x1
            by_cases hml : m < d.evs.length
            · obtain ⟨x, hx⟩ : ∃ x, d.evs[m]? = some x := ⟨_, List.getElem?_eq_getElem hml⟩
              have hbb := HB.out.trans (HB2.out.mono hz)
              obtain ⟨b2, o2, e2, hb2, u0, u1, hokx, hl3, hl4⟩ := (HOK.out.1.below (HB2.out.mono hz)).at hx
              rw [e2] at x1'
              have hfx := hokx.2
              unfold Em.Fits at hfx
              have HE := Lib.hid (HEV.out x _ ((HROW.out.below hbb).more hbb.size) (hokx.more hbb.size))
              have HGD := Lib.hid (getD_of (at_ev hx))
              obtain ⟨r, hr⟩ : ∃ r, eventT sig x.e = r := ⟨_, rfl⟩
              rw [hr] at HE
              have HRR := Lib.hid hr
              clear hx hokx hr hbb e2
              go_wp2_with fail
              refine HE.out.mono ?_
              rintro e w5 ⟨rfl, hb5⟩
              have HB5 := Lib.hid (HB2.out.trans (hb5.mono hz2))
              clear hb5
              by_cases h0 : r = 0
              · subst h0
                have HI2 := Lib.hid (step_lt (P := fun j => eventT sig (d.p.evs.getD j default) = 0) HI.out (by rw [HGD.out]; exact HRR.out))
                go_wp2_with fail
                go_roundg (d.evs.length - (m + 1))
                case measure => have := HGM.out; omega
                case rel => exact ⟨m + 1, by omega, by go_num, Lib.hid rfl, HI2, HB5⟩
              · have HR := Lib.hid (HFE.out m (by rw [HML.out]; exact hml) HI.out (by rw [HGD.out, HRR.out]; exact h0))
                rw [HGD.out, HRR.out] at HR
                have h1 : (r != 0) = true := bne_iff_ne.2 h0
                clear h0
                go_wp2_with fail
                exact bodyPost_ret (v := .tuple #[.int .i64 r, .int .i64 k]) (by simp [results, Try.results10, go_sem]) rfl ⟨by rw [HR.out], HB.out.trans (HB5.out.mono hz)⟩
            · obtain rfl : m = d.evs.length := by omega
              have HJ2 := Lib.hid (HNE.out (fun j hj => HI.out j (by rwa [HML.out] at hj)))
              go_wp2_with fail
              go_roundg (ps.length - (k + 1))
              case measure => have := HGK.out; omega
              case rel => exact ⟨k + 1, by omega, by go_num, Lib.hid rfl, HJ2, Lib.hid (HB.out.trans (HB2.out.mono hz))⟩
    · obtain rfl : k = ps.length := by omega
      have HR := Lib.hid (HNO.out (fun j hj => HJ.out j (by rwa [List.length_map] at hj)))
      go_wp2_with fail
      exact bodyPost_ret (v := .tuple #[.int .i64 0, .int .i64 0]) (by simp [results, Try.results10, go_sem]) rfl ⟨by rw [HR.out], HB.out⟩
#print axioms rtcheck_any
end Go.Proofs.Ytlmpicfhbpnpbaa
