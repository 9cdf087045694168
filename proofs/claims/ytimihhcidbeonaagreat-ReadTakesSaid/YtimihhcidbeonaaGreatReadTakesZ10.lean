/-
  What the theorem of ReadTakes rests on, part 10 of 17.
-/
import Derived.Carry
import Derived.BigQuiet
import Derived.Deep.LoopGhost
import Derived.Deep.RegionHeld3
import Derived.Test.YtimihhcidbeonaaGreatReadTakesZ9
set_option maxRecDepth 100000
set_option maxHeartbeats 16000000
namespace Go.Proofs.YtimihhcidbeonaaGreat
open Lib (hid)
open Go.RowKit
theorem revent_any (A : Option Addr) (c : Nat) (ds : List Pd) (x : Em) (w : World) (hrow : PredRow w w.heap.size (.slice A ds.length c) ds) (hx : x.Ok w w.heap.size) :
  Calls Tryz.prog 123 #[.slice A ds.length c, x.val] w fun e w' => e = .returned (.int .i64 (eventT (ds.map (·.p)) x.e)) ∧ Below w.heap.size w w' := by
 obtain ⟨hc1, hc2⟩ : ds.length ≤ c ∧ c ≤ 9223372036854775807 := by
  obtain ⟨A', c', hv, q1, q2⟩ := hrow.form
  injection hv with _ _ e3
  exact ⟨by omega, by omega⟩
 have hml : (ds.map (·.p)).length = ds.length := List.length_map _
 obtain ⟨hga, hfp⟩ := hx
 obtain ⟨-, hl1, hl2⟩ := hga.1.len
 unfold Em.Fits at hfp
 have hb1 : Below w.heap.size w (w.alloc (.cells #[.int .i64 x.p, .slice x.A x.args.length x.c] 100)) := (Below.refl _ _).alloc (Nat.le_refl _) _
 by_cases hneg : x.p < 0
 ·rw [eventT_name (.inl hneg)]
  clear hrow hga
  go_enter Tryz.func123, Tryz.ntmps123
  go_wp2_with fail
  go_ret
  exact ⟨rfl, hb1⟩
 have hn0 : 0 ≤ x.p := by omega
 by_cases hbig : (ds.length : Int) ≤ x.p
 ·rw [eventT_name (.inr (by rw [hml]; exact hbig))]
  clear hrow hga
  go_enter Tryz.func123, Tryz.ntmps123
  go_wp2_with fail
  go_ret
  exact ⟨rfl, hb1⟩
 obtain ⟨k, hk⟩ : ∃ k : Nat, x.p = k := ⟨x.p.toNat, by omega⟩
 have hkl : k < ds.length := by omega
 obtain ⟨d, hd⟩ : ∃ d, ds[k]? = some d := ⟨_, List.getElem?_eq_getElem hkl⟩
 obtain ⟨b, o, rfl, hb, x0, x1, hir, hfit, ha1, ha2⟩ := hrow.at hd
 have hat := @eventT_arg (ds.map (·.p)) x.e k d.p hk (at_pr hd)
 have hfound := @eventT_found (ds.map (·.p)) x.e k d.p hk (at_pr hd)
 have hnone := @eventT_none (ds.map (·.p)) x.e k d.p hk (at_pr hd)
 generalize eventT (ds.map (·.p)) x.e = R at hat hfound hnone ⊢
 have hvx : x.val = .agg #[.int .i64 k, .slice x.A x.args.length x.c] := by rw [Em.val, hk]
 rw [hvx]
 rw [hk] at hb1
 dsimp only [Em.e] at hat hfound hnone
 obtain ⟨dA, hdA⟩ : ∃ dA, d.A = dA := ⟨_, rfl⟩
 rw [hdA] at x1 hir
 obtain ⟨dc, hdc⟩ : ∃ dc, d.c = dc := ⟨_, rfl⟩
 rw [hdc] at x1 hir ha1 ha2
 obtain ⟨dn, hdn⟩ : ∃ dn, strOfNums d.p.name = dn := ⟨_, rfl⟩
 rw [hdn] at x0
 obtain ⟨ts, hts⟩ : ∃ ts, d.p.args = ts := ⟨_, rfl⟩
 rw [hts] at x1 hir ha1 hat hfound hnone
 obtain ⟨xA, hxA⟩ : ∃ xA, x.A = xA := ⟨_, rfl⟩
 rw [hxA] at hga hb1 ⊢
 obtain ⟨xc, hxc⟩ : ∃ xc, x.c = xc := ⟨_, rfl⟩
 rw [hxc] at hga hb1 hl1 hl2 ⊢
 obtain ⟨gs, has⟩ : ∃ gs, x.args = gs := ⟨_, rfl⟩
 simp only [has] at hga hb1 hl1 hat hfound hnone ⊢
 have y0 := (hb1.cell (p := ⟨b, o + k * 2, none⟩) hb).trans x0
 have y1 := (hb1.cell (p := ⟨b, o + k * 2 + 1, none⟩) hb).trans x1
 clear hvx hk hdA hdc hdn hts hxA hxc has hneg hbig hfp hd hrow hml hn0 hfit x0 x1
 clear x d
 obtain ⟨w2, hw2⟩ : ∃ w2, (w.alloc (.cells #[.int .i64 k, .slice xA gs.length xc] 100)).alloc (.cells #[.string dn, .slice dA ts.length dc] 88) = w2 := ⟨_, rfl⟩
 have s1 : (w.alloc (.cells #[.int .i64 k, .slice xA gs.length xc] 100)).heap.size = w.heap.size + 1 := World.size_alloc _ _
 have s2 : w2.heap.size = w.heap.size + 2 := by rw [← hw2, World.size_alloc, s1]
 have hb2 : Below w.heap.size w w2 := by rw [← hw2]; exact hb1.alloc (by omega) _
 have hh1 : Held w2 w.heap.size 100 #[.int .i64 k, .slice xA gs.length xc] := by rw [← hw2]; exact Held.below (heap_alloc_new w _) ((Below.refl _ _).alloc (Nat.le_refl _) _) (by omega)
 have hh2 : Held w2 (w.heap.size + 1) 88 #[.string dn, .slice dA ts.length dc] := by rw [← hw2, ← s1]; exact heap_alloc_new _ _
 have g1 := hh1.cell 1
 have g2 := hh2.cell 1
 simp at g1 g2
 clear hb1 s1
 by_cases hne : gs.length ≠ ts.length
 ·rw [hat hne]
  have hne1 : ((ts.length : Int) != (gs.length : Int)) = true := bne_iff_ne.2 (by omega)
  clear hne hat hfound hnone hga hir hh1 hh2
  go_enter Tryz.func123, Tryz.ntmps123
  go_wp2_with fail
  go_ret
  exact ⟨rfl, hb2⟩
 have hle : gs.length = ts.length := by omega
 rw [← hle] at y1 hir ha1 hh2 g2 hw2
 have HF := hid (fun r hr => hfound hle (r := r) hr)
 have HNO := hid (hnone hle)
 have HGA := hid hga
 have HIR := hid hir
 have HB1 := hid hb2
 have HLE := hid hle
 have HALL := hid (fun W (h : Below w2.heap.size w2 W) => (show W.cell? ⟨w.heap.size, 1, none⟩ = some (.slice xA gs.length xc) ∧ W.cell? ⟨w.heap.size + 1, 1, none⟩ = some (.slice dA gs.length dc) from by
  have v1 := (hh1.below h (by omega)).cell 1
  have v2 := (hh2.below h (by omega)).cell 1
  simp at v1 v2
  exact ⟨v1, v2⟩))
 clear hne hat hfound hnone hga hir hle hb2 hh1 hh2
 go_enter Tryz.func123, Tryz.ntmps123
 go_wp2_with fail
 clear y0 y1 g1 g2 hw2
 rename _ ∧ ¬ ds.length ≤ k => hq
 clear hq
 go_loopg [6] gs.length (fun gm i wr => ∃ m : Nat, m ≤ gs.length ∧ i = .int .i64 m ∧ Hid (gs.length - m = gm) ∧ Hid (∀ j, j < m → whyG (ts.getD j 0) (gs.getD j default) = 0) ∧ Hid (Below w2.heap.size w2 wr))
 case atStart => exact ⟨0, Nat.zero_le _, rfl, hid rfl, hid (fun j h => absurd h (Nat.not_lt_zero _)), hid (Below.refl _ _)⟩
 case round =>
  obtain ⟨m, hm, rfl, HGM, HJ, HB⟩ := hrel
  obtain ⟨g1, g2⟩ := HALL.out _ HB.out
  by_cases hml : m < gs.length
  ·obtain ⟨a, ha⟩ : ∃ a, gs[m]? = some a := ⟨_, List.getElem?_eq_getElem hml⟩
   have hbb := HB1.out.trans (HB.out.mono (by omega))
   obtain ⟨b2, o2, rfl, hb2, ht⟩ := (HIR.out.below hbb).at (i := m) (by have := HLE.out; omega)
   obtain ⟨b3, o3, rfl, hb3, z0, z1, z2, hfit⟩ := (HGA.out.below hbb).at ha
   have hz := HB.out.size
   have FM := HF.out m hml HJ.out
   have ST := step_lt (P := fun j => whyG (ts.getD j 0) (gs.getD j default) = 0) (k := m) HJ.out
   rw [getD_of ha] at FM ST
   have HFM := hid FM
   have HST := hid ST
   generalize ts.getD m 0 = t at ht HFM HST
   obtain ⟨at', an, as'⟩ := a
   have hsn := strOfNums_size as'
   have hsl : as'.length ≤ 9223372036854775807 := by have := hfit.1; unfold maxLen at this; simpa using this
   have hse := str_empty as'
   obtain ⟨w4, hw4⟩ : ∃ w4, wr.alloc (.cells #[.int .i64 at', .int .i64 an, .string (strOfNums as')] 97) = w4 := ⟨_, rfl⟩
   have s4 : w4.heap.size = wr.heap.size + 1 := by rw [← hw4, World.size_alloc]
   have hb4 : Below wr.heap.size wr w4 := by rw [← hw4]; exact (Below.refl _ _).alloc (Nat.le_refl _) _
   have hh4 : Held w4 wr.heap.size 97 #[.int .i64 at', .int .i64 an, .string (strOfNums as')] := by rw [← hw4]; exact heap_alloc_new wr _
   have HB4 := hid (HB.out.trans (hb4.mono hz))
   obtain ⟨v0, v1, v2⟩ := cC3 hh4
   simp at v0 v1 v2
   have g2' := (HALL.out _ HB4.out).2
   have ht' := (hb4.cell (p := ⟨b2, o2 + m, none⟩) (by simp only; omega)).trans ht
   generalize strOfNums as' = sv at *
   clear ST FM ha hfit hb4 hh4 hbb g2 ht
   by_cases h1 : at' = t
   case neg =>
    have hw : whyG t ⟨at', an, as'⟩ = 7 := by simp [whyG, h1]
    have HR := hid ((HFM.out (by rw [hw]; decide)).trans hw)
    have h1c : (at' != t) = true := bne_iff_ne.2 h1
    clear h1 hw HFM HST hse
    go_wp2_with fail
    go_quiet (fail)
    go_wp2_with fail
    go_ret
    exact ⟨by rw [HR.out]; rfl, HB1.out.trans ((HB4.out.trans (drewN_low _ _ _)).mono (by omega))⟩
   subst h1
   by_cases h2 : at' = 1
   ·subst h2
    by_cases h3 : as' = []
    ·have hs1 : sv.toList.isEmpty = true := by rw [hse, h3]; rfl
     have hl0 : as'.length = 0 := by rw [h3]; rfl
     have HJ2 := hid (HST.out (show whyG 1 ⟨1, an, as'⟩ = 0 from by simp [whyG, h3]))
     rw [hl0] at hsn
     clear h3 hl0 HFM HST hse hsl
     go_wp2_with fail
     go_quiet (fail)
     go_wp2_with fail
     go_roundg (gs.length - (m + 1))
     case measure => have := HGM.out; omega
     case rel => exact ⟨m + 1, by omega, by go_num, hid rfl, HJ2, hid (HB4.out.trans (drewN_low _ _ _))⟩
    ·have hs1 : sv.toList.isEmpty = false := by
      rw [hse]
      cases as' with
      | nil => exact absurd rfl h3
      | cons _ _ => rfl
     have hw : whyG 1 ⟨1, an, as'⟩ = 1 := by simp [whyG, h3]
     have HR := hid ((HFM.out (by rw [hw]; decide)).trans hw)
     clear h3 hw HFM HST hse
     go_wp2_with fail
     go_quiet (fail)
     go_wp2_with fail
     go_ret
     exact ⟨by rw [HR.out]; rfl, HB1.out.trans ((HB4.out.trans (drewN_low _ _ _)).mono (by omega))⟩
   have h2b : (at' == 1) = false := beq_eq_false_iff_ne.2 h2
   by_cases h3 : at' = 2
   ·subst h3
    by_cases h4 : an = 0
    case neg =>
     have h4b : (an != 0) = true := bne_iff_ne.2 h4
     have hw : whyG 2 ⟨2, an, as'⟩ = 1 := by simp [whyG, h4]
     have HR := hid ((HFM.out (by rw [hw]; decide)).trans hw)
     clear h4 hw HFM HST hse
     go_wp2_with fail
     go_quiet (fail)
     go_wp2_with fail
     go_ret
     exact ⟨by rw [HR.out]; rfl, HB1.out.trans ((HB4.out.trans (drewN_low _ _ _)).mono (by omega))⟩
    subst h4
    by_cases h5 : 200 < as'.length
    ·have h5i : (200 : Int) < (as'.length : Int) := by omega
     have hw : whyG 2 ⟨2, 0, as'⟩ = 6 := by simp [whyG, h5]
     have HR := hid ((HFM.out (by rw [hw]; decide)).trans hw)
     clear hw HFM HST hse
     go_wp2_with fail
     go_quiet (fail)
     go_wp2_with fail
     go_ret
     exact ⟨by rw [HR.out]; rfl, HB1.out.trans ((HB4.out.trans (drewN_low _ _ _)).mono (by omega))⟩
    ·have h5i : (as'.length : Int) ≤ 200 := by omega
     have HJ2 := hid (HST.out (show whyG 2 ⟨2, 0, as'⟩ = 0 from by simp [whyG, h5]))
     clear HFM HST hse
     go_wp2_with fail
     go_quiet (fail)
     go_wp2_with fail
     go_roundg (gs.length - (m + 1))
     case measure => have := HGM.out; omega
     case rel => exact ⟨m + 1, by omega, by go_num, hid rfl, HJ2, hid (HB4.out.trans (drewN_low _ _ _))⟩
   have h3b : (at' == 2) = false := beq_eq_false_iff_ne.2 h3
   by_cases h5 : 200 < as'.length
   ·have h5i : (200 : Int) < (as'.length : Int) := by omega
    have hw : whyG at' ⟨at', an, as'⟩ = 6 := by simp [whyG, h2, h3, h5]
    have HR := hid ((HFM.out (by rw [hw]; decide)).trans hw)
    clear hw HFM HST hse
    go_wp2_with fail
    go_quiet (fail)
    go_wp2_with fail
    go_ret
    exact ⟨by rw [HR.out]; rfl, HB1.out.trans ((HB4.out.trans (drewN_low _ _ _)).mono (by omega))⟩
   ·have h5i : (as'.length : Int) ≤ 200 := by omega
    have HJ2 := hid (HST.out (show whyG at' ⟨at', an, as'⟩ = 0 from by simp [whyG, h2, h3, h5]))
    clear HFM HST hse
    go_wp2_with fail
    go_quiet (fail)
    go_wp2_with fail
    go_roundg (gs.length - (m + 1))
    case measure => have := HGM.out; omega
    case rel => exact ⟨m + 1, by omega, by go_num, hid rfl, HJ2, hid (HB4.out.trans (drewN_low _ _ _))⟩
  ·obtain rfl : m = gs.length := by omega
   have HR := hid (HNO.out HJ.out)
   go_wp2_with fail
   go_ret
   exact ⟨by rw [HR.out]; rfl, HB1.out.trans (HB.out.mono (by omega))⟩
open Go.RowKit Go.Shelf
theorem rtcheck_any (A : Option Addr) (c : Nat) (ds : List Pd) (T : Option Addr) (ct : Nat) (ps : List Pm) (w : World) (hrow : PredRow w w.heap.size (.slice A ds.length c) ds) (ht : TrRow w w.heap.size (.slice T ps.length ct) ps) :
  Calls Tryz.prog 69 #[.slice A ds.length c, .slice T ps.length ct] w fun e w' => e = .returned (.tuple #[.int .i64 (checkT (ds.map (·.p)) (ps.map (·.p))).1, .int .i64 (checkT (ds.map (·.p)) (ps.map (·.p))).2]) ∧ Below w.heap.size w w' := by
 obtain ⟨-, hc1, hc2⟩ := ht.1.len
 have HCK := hid (rcheck_any A c ds w hrow)
 have hsig := @checkT_sig (ds.map (·.p)) (ps.map (·.p))
 have hfound := @checkT_found (ds.map (·.p)) (ps.map (·.p))
 have hnone := @checkT_none (ds.map (·.p)) (ps.map (·.p))
 have HEV := hid (fun (x : Em) (W : World) h1 h2 => revent_any A c ds x W h1 h2)
 generalize checkT (ds.map (·.p)) (ps.map (·.p)) = R at hsig hfound hnone ⊢
 generalize ds.map (·.p) = sig at hsig hfound hnone HCK HEV
 obtain ⟨s, hs⟩ : ∃ s, checkP sig = s := ⟨_, rfl⟩
 rw [hs] at hsig hfound hnone HCK
 have HROW := hid hrow
 have HTR := hid ht
 clear hrow ht
 by_cases h0 : s = 0
 case neg =>
  have HR := hid (hsig h0)
  have h2 : (s != 0) = true := bne_iff_ne.2 h0
  clear h0 hsig hfound hnone
  go_enter Tryz.func69, Tryz.ntmps69
  go_wp2_with fail
  refine HCK.out.mono ?_
  rintro e w1 ⟨rfl, rfl⟩
  go_wp2_with fail
  exact bodyPost_ret (v := .tuple #[.int .i64 s, .int .i64 0]) (by simp [results, Tryz.results69, go_sem]) rfl ⟨by rw [HR.out], Below.refl _ _⟩
 subst h0
 have HF := hid (fun r (hr : r < (ps.map (·.p)).length) => hfound rfl hr)
 have HNO := hid (hnone rfl)
 clear hsig hfound hnone hs
 go_enter Tryz.func69, Tryz.ntmps69
 go_wp2_with fail
 refine HCK.out.mono ?_
 rintro e w1 ⟨rfl, rfl⟩
 go_wp2_with fail
 go_loopg [7] ps.length (fun gk i wr => ∃ k : Nat, k ≤ ps.length ∧ i = .int .i64 k ∧ Hid (ps.length - k = gk) ∧ Hid (∀ j, j < k → whyT sig (ps.map (·.p)) j = 0) ∧ Hid (Below w.heap.size w wr))
 case atStart => exact ⟨0, Nat.zero_le _, rfl, hid rfl, hid (fun j h => absurd h (Nat.not_lt_zero _)), hid (Below.refl _ _)⟩
 case round =>
  obtain ⟨k, hk, rfl, HGK, HJ, HB⟩ := hrel
  by_cases hlt : k < ps.length
  ·obtain ⟨d, hd⟩ : ∃ d, ps[k]? = some d := ⟨_, List.getElem?_eq_getElem hlt⟩
   have hz := HB.out.size
   obtain ⟨b, o, rfl, hb, x0, x1, hok, hl1, hl2⟩ := (HTR.out.below HB.out).at hd
   have hfd := hok.2
   unfold Pm.Fits at hfd
   have hml : d.p.evs.length = d.evs.length := List.length_map _
   have HOK := hid hok
   have HD := hid hd
   have FK := fun r (hw : whyT sig (ps.map (·.p)) k = r) (h : r ≠ 0) => (show R = (r, (k : Int)) from (HF.out k (by rw [List.length_map]; exact hlt) HJ.out (by rw [hw]; exact h)).trans (by rw [hw]))
   have SK := fun (hw : whyT sig (ps.map (·.p)) k = 0) => step_lt (P := fun j => whyT sig (ps.map (·.p)) j = 0) HJ.out hw
   have hxx := fun W (h : Below wr.heap.size wr W) => (h.cell (p := ⟨b, o + k * 2 + 1, none⟩) (by simp only; omega)).trans x1
   have HXX := hid hxx
   clear hok hd hxx
   by_cases hk0 : 0 < k
   ·obtain ⟨e, he⟩ : ∃ e, ps[k - 1]? = some e := ⟨_, List.getElem?_eq_getElem (by omega)⟩
    obtain ⟨b', o', ee, hb', z0, _, hoe, _⟩ := (HTR.out.below HB.out).at he
    have hfe := hoe.2
    unfold Pm.Fits at hfe
    injection ee with ee
    injection ee with e1 e2 _
    subst e1 e2
    obtain ⟨j, hj⟩ : ∃ j, k - 1 = j := ⟨_, rfl⟩
    have hkj : k = j + 1 := by omega
    rw [hj] at z0
    rw [hj] at he
    have hki : (k : Int) - 1 = (j : Int) := by omega
    have hek : (ps.map (·.p)).getD k default = d.p := getD_of (at_pn HD.out)
    have hej : (ps.map (·.p)).getD (k - 1) default = e.p := by rw [show k - 1 = j by omega]; exact getD_of (at_pn he)
    clear he hoe hj
    by_cases htm : d.tm < e.tm
    ·have hw : whyT sig (ps.map (·.p)) k = 8 := whyT_order ⟨hk0, by rw [hek, hej]; exact htm⟩
     have HR := hid (FK 8 hw (by decide))
     clear hw hkj hek hej FK SK
     go_wp2_with fail
     go_quiet (fail)
     go_wp2_with fail
     exact bodyPost_ret (v := .tuple #[.int .i64 8, .int .i64 k]) (by simp [results, Tryz.results69, go_sem]) rfl ⟨by rw [HR.out], HB.out.trans (drewN_low _ _ _)⟩
    ·have hw : whyT sig (ps.map (·.p)) k = whyE sig d.p.evs := by
      rw [whyT_else (by rw [hek, hej]; exact fun h => htm h.2), hek]
     have hge : e.tm ≤ d.tm := by omega
     have HFK := hid (fun h => FK _ hw h)
     have HSK := hid (fun h => SK (hw.trans h))
     clear hw hkj htm hek hej FK SK
     by_cases hgt : 1024 < d.evs.length
     ·have hw6 : whyE sig d.p.evs = 6 := whyE_many (by rw [hml]; exact hgt)
      have HR := hid (HFK.out (by rw [hw6]; decide))
      rw [hw6] at HR
      have hgi : (1024 : Int) < (d.evs.length : Int) := by omega
      clear hw6
      go_wp2_with fail
      go_quiet (fail)
      go_wp2_with fail
      exact bodyPost_ret (v := .tuple #[.int .i64 6, .int .i64 k]) (by simp [results, Tryz.results69, go_sem]) rfl ⟨by rw [HR.out], HB.out.trans (drewN_low _ _ _)⟩
     ·have hli : (d.evs.length : Int) ≤ 1024 := by omega
      have HFE := hid (fun r (hr : r < d.p.evs.length) h3 h4 => (show R = (eventT sig (d.p.evs.getD r default), (k : Int)) from by
       have hw := @whyE_found sig d.p.evs (by omega) r hr h3 h4
       have h := HFK.out (by rw [hw]; exact h4)
       rwa [hw] at h))
      have HNE := hid (fun h3 => HSK.out (@whyE_none sig d.p.evs (by omega) h3))
      have HML := hid hml
      clear hgt hml
      go_wp2_with fail
      go_quiet (fail)
      go_wp2_with fail
      go_loopg [8] d.evs.length (fun gm i wr2 => ∃ m : Nat, m ≤ d.evs.length ∧ i = .int .i64 m ∧ Hid (d.evs.length - m = gm) ∧ Hid (∀ j, j < m → eventT sig (d.p.evs.getD j default) = 0) ∧ Hid (Below wr.heap.size wr wr2))
      case atStart => exact ⟨0, Nat.zero_le _, rfl, hid rfl, hid (fun j h => absurd h (Nat.not_lt_zero _)), hid (drewN_low _ _ _)⟩
      case round =>
       obtain ⟨m, hm, rfl, HGM, HI, HB2⟩ := hrel
       have x1' := HXX.out _ HB2.out
       have hz2 := HB2.out.size
       clear x0 x1 z0
       by_cases hml : m < d.evs.length
       ·obtain ⟨x, hx⟩ : ∃ x, d.evs[m]? = some x := ⟨_, List.getElem?_eq_getElem hml⟩
        have hbb := HB.out.trans (HB2.out.mono hz)
        obtain ⟨b2, o2, e2, hb2, u0, u1, hokx, hl3, hl4⟩ := (HOK.out.1.below (HB2.out.mono hz)).at hx
        rw [e2] at x1'
        have hfx := hokx.2
        unfold Em.Fits at hfx
        have HE := hid (HEV.out x _ ((HROW.out.below hbb).more hbb.size) (hokx.more hbb.size))
        have HGD := hid (getD_of (at_ev hx))
        obtain ⟨r, hr⟩ : ∃ r, eventT sig x.e = r := ⟨_, rfl⟩
        rw [hr] at HE
        have HRR := hid hr
        clear hx hokx hr hbb e2
        go_wp2_with fail
        refine HE.out.mono ?_
        rintro e w5 ⟨rfl, hb5⟩
        have HB5 := hid (HB2.out.trans (hb5.mono hz2))
        clear hb5
        by_cases h0 : r = 0
        ·subst h0
         have HI2 := hid (step_lt (P := fun j => eventT sig (d.p.evs.getD j default) = 0) HI.out (by rw [HGD.out]; exact HRR.out))
         go_wp2_with fail
         go_roundg (d.evs.length - (m + 1))
         case measure => have := HGM.out; omega
         case rel => exact ⟨m + 1, by omega, by go_num, hid rfl, HI2, HB5⟩
        ·have HR := hid (HFE.out m (by rw [HML.out]; exact hml) HI.out (by rw [HGD.out, HRR.out]; exact h0))
         rw [HGD.out, HRR.out] at HR
         have h1 : (r != 0) = true := bne_iff_ne.2 h0
         clear h0
         go_wp2_with fail
         exact bodyPost_ret (v := .tuple #[.int .i64 r, .int .i64 k]) (by simp [results, Tryz.results69, go_sem]) rfl ⟨by rw [HR.out], HB.out.trans (HB5.out.mono hz)⟩
       ·obtain rfl : m = d.evs.length := by omega
        have HJ2 := hid (HNE.out (fun j hj => HI.out j (by rwa [HML.out] at hj)))
        go_wp2_with fail
        go_roundg (ps.length - (k + 1))
        case measure => have := HGK.out; omega
        case rel => exact ⟨k + 1, by omega, by go_num, hid rfl, HJ2, hid (HB.out.trans (HB2.out.mono hz))⟩
   ·have hw : whyT sig (ps.map (·.p)) k = whyE sig d.p.evs := by
     rw [whyT_else (fun h => hk0 h.1), getD_of (at_pn HD.out)]
    have hkd : decide (0 < (k : Int)) = false := decide_eq_false (by omega)
    have HFK := hid (fun h => FK _ hw h)
    have HSK := hid (fun h => SK (hw.trans h))
    clear hw FK SK
    by_cases hgt : 1024 < d.evs.length
    ·have hw6 : whyE sig d.p.evs = 6 := whyE_many (by rw [hml]; exact hgt)
     have HR := hid (HFK.out (by rw [hw6]; decide))
     rw [hw6] at HR
     have hgi : (1024 : Int) < (d.evs.length : Int) := by omega
     clear hw6
     go_wp2_with fail
     go_quiet (fail)
     go_wp2_with fail
     exact bodyPost_ret (v := .tuple #[.int .i64 6, .int .i64 k]) (by simp [results, Tryz.results69, go_sem]) rfl ⟨by rw [HR.out], HB.out.trans (drewN_low _ _ _)⟩
    ·have hli : (d.evs.length : Int) ≤ 1024 := by omega
     have HFE := hid (fun r (hr : r < d.p.evs.length) h3 h4 => (show R = (eventT sig (d.p.evs.getD r default), (k : Int)) from by
      have hw := @whyE_found sig d.p.evs (by omega) r hr h3 h4
      have h := HFK.out (by rw [hw]; exact h4)
      rwa [hw] at h))
     have HNE := hid (fun h3 => HSK.out (@whyE_none sig d.p.evs (by omega) h3))
     have HML := hid hml
     clear hgt hml
     go_wp2_with fail
     go_quiet (fail)
     go_wp2_with fail
     go_loopg [8] d.evs.length (fun gm i wr2 => ∃ m : Nat, m ≤ d.evs.length ∧ i = .int .i64 m ∧ Hid (d.evs.length - m = gm) ∧ Hid (∀ j, j < m → eventT sig (d.p.evs.getD j default) = 0) ∧ Hid (Below wr.heap.size wr wr2))
     case atStart => exact ⟨0, Nat.zero_le _, rfl, hid rfl, hid (fun j h => absurd h (Nat.not_lt_zero _)), hid (drewN_low _ _ _)⟩
     case round =>
      obtain ⟨m, hm, rfl, HGM, HI, HB2⟩ := hrel
      have x1' := HXX.out _ HB2.out
      have hz2 := HB2.out.size
      clear x0 x1
      by_cases hml : m < d.evs.length
      ·obtain ⟨x, hx⟩ : ∃ x, d.evs[m]? = some x := ⟨_, List.getElem?_eq_getElem hml⟩
       have hbb := HB.out.trans (HB2.out.mono hz)
       obtain ⟨b2, o2, e2, hb2, u0, u1, hokx, hl3, hl4⟩ := (HOK.out.1.below (HB2.out.mono hz)).at hx
       rw [e2] at x1'
       have hfx := hokx.2
       unfold Em.Fits at hfx
       have HE := hid (HEV.out x _ ((HROW.out.below hbb).more hbb.size) (hokx.more hbb.size))
       have HGD := hid (getD_of (at_ev hx))
       obtain ⟨r, hr⟩ : ∃ r, eventT sig x.e = r := ⟨_, rfl⟩
       rw [hr] at HE
       have HRR := hid hr
       clear hx hokx hr hbb e2
       go_wp2_with fail
       refine HE.out.mono ?_
       rintro e w5 ⟨rfl, hb5⟩
       have HB5 := hid (HB2.out.trans (hb5.mono hz2))
       clear hb5
       by_cases h0 : r = 0
       ·subst h0
        have HI2 := hid (step_lt (P := fun j => eventT sig (d.p.evs.getD j default) = 0) HI.out (by rw [HGD.out]; exact HRR.out))
        go_wp2_with fail
        go_roundg (d.evs.length - (m + 1))
        case measure => have := HGM.out; omega
        case rel => exact ⟨m + 1, by omega, by go_num, hid rfl, HI2, HB5⟩
       ·have HR := hid (HFE.out m (by rw [HML.out]; exact hml) HI.out (by rw [HGD.out, HRR.out]; exact h0))
        rw [HGD.out, HRR.out] at HR
        have h1 : (r != 0) = true := bne_iff_ne.2 h0
        clear h0
        go_wp2_with fail
        exact bodyPost_ret (v := .tuple #[.int .i64 r, .int .i64 k]) (by simp [results, Tryz.results69, go_sem]) rfl ⟨by rw [HR.out], HB.out.trans (HB5.out.mono hz)⟩
      ·obtain rfl : m = d.evs.length := by omega
       have HJ2 := hid (HNE.out (fun j hj => HI.out j (by rwa [HML.out] at hj)))
       go_wp2_with fail
       go_roundg (ps.length - (k + 1))
       case measure => have := HGK.out; omega
       case rel => exact ⟨k + 1, by omega, by go_num, hid rfl, HJ2, hid (HB.out.trans (HB2.out.mono hz))⟩
  ·obtain rfl : k = ps.length := by omega
   have HR := hid (HNO.out (fun j hj => HJ.out j (by rwa [List.length_map] at hj)))
   go_wp2_with fail
   exact bodyPost_ret (v := .tuple #[.int .i64 0, .int .i64 0]) (by simp [results, Tryz.results69, go_sem]) rfl ⟨by rw [HR.out], HB.out⟩
open Go.RowKit Go.ChangeShapes Go.WideShapes
set_option linter.unusedVariables false
theorem rnum_any (n : Nat) (hn : n < 9223372036854775808) (w : World) : Calls Tryz.prog 174 #[.int .i64 n] w fun e w' => e = .returned (.string (strOfNums (encI n))) ∧ Below w.heap.size w w' := by
 have HP := hid (fun W => rput n (by omega) W)
 generalize encI n = E at HP ⊢
 go_enter Tryz.func174, Tryz.ntmps174
 go_wp2_with fail
 refine (HP.out _).mono ?_
 rintro e w1 ⟨rfl, hb1⟩
 go_wp2_with fail
 go_ret
 exact ⟨rfl, hb1⟩
theorem add_to {P : Program} {k l m : List Int} (h : k ++ l = m) (hl : m.length ≤ 9223372036854775807) (W : World) : (Op.stringOp .add (strOfNums k) (strOfNums l)).run P W = .ok (.string (strOfNums m)) W := by
 subst h
 exact add_strs W k l (by rw [List.length_append] at hl; exact hl)
theorem rtext_any (A : Option Addr) (c : Nat) (l : List Pm) (w : World) (hrow : TrRow w w.heap.size (.slice A l.length c) l) (hok : BOk l) (h0 : 0 < l.length) :
  Calls Tryz.prog 128 #[.slice A l.length c] w fun e w' => e = .returned (.string (strOfNums (payB l))) ∧ Below w.heap.size w w' := by
 obtain ⟨-, hc1, hc2⟩ := hrow.1.len
 obtain ⟨L, hLe⟩ : ∃ L, addT [] l = L := ⟨_, rfl⟩
 obtain ⟨hL1, hL2⟩ := hok.dict
 rw [hLe] at hL1 hL2
 obtain ⟨p0, hp0⟩ : ∃ p, l[0]? = some p := ⟨_, List.getElem?_eq_getElem h0⟩
 obtain ⟨t0, ht0⟩ : ∃ t0 : Nat, p0.tm = (t0 : Int) := ⟨p0.tm.toNat, by have := (hok.pts p0 (List.mem_of_getElem? hp0)).fits.1; omega⟩
 have ht0l : t0 < 18446744073709551616 := by have := (hok.pts p0 (List.mem_of_getElem? hp0)).fits.2; omega
 have ht0e : (tmAt l 0).toNat = t0 := by rw [tmAt_of hp0, ht0]; rfl
 have hlen := payB_len hok
 obtain ⟨D, hD⟩ : ∃ D : Nat → List Int, D = fun k => encI t0 ++ encI l.length ++ encI L.length ++ catT (L.take k) := ⟨_, rfl⟩
 obtain ⟨F, hF⟩ : ∃ F : Nat → List Int, F = fun k => D L.length ++ ptsB L l k := ⟨_, rfl⟩
 have hpay : payB l = F l.length := by rw [hF, hD]; simp only [payB, headB, dictB, hLe, ht0e, List.append_assoc, List.take_length]
 have hD0 : D 0 = encI t0 ++ encI l.length ++ encI L.length := by rw [hD]; simp [catT]
 have hDs : ∀ (k : Nat) (t : List Int), L[k]? = some t → D (k + 1) = D k ++ encT t := fun k t ht => by rw [hD]; simp only; rw [catT_take_succ L ht]; simp only [List.append_assoc]
 have hF0 : F 0 = D L.length := by rw [hF]; simp [ptsB]
 have hFs : ∀ k, F (k + 1) = F k ++ ptB L l k := fun k => by rw [hF]; simp only; rw [ptsB_succ]; simp only [List.append_assoc]
 have hFl : ∀ k, k ≤ l.length → (F k).length ≤ 10000000000 := fun k hk => by
  have e1 : (F l.length).length ≤ 10000000000 := by rw [← hpay]; omega
  have mono : ∀ j, (F k).length ≤ (F (k + j)).length := fun j => by
   induction j with
   | zero => exact Nat.le_refl _
   | succ j ih => rw [← Nat.add_assoc, hFs, List.length_append]; omega
  have := mono (l.length - k)
  rw [show k + (l.length - k) = l.length by omega] at this
  omega
 have hDl : ∀ k, (D k).length ≤ 10000000000 := fun k => by
  have h1 := hFl 0 (Nat.zero_le _)
  rw [hF0, hD] at h1
  rw [hD]
  simp only [List.length_append, List.take_length] at h1 ⊢
  have := catT_take_le L k
  omega
 rw [hpay]
 have hof := rof13_any A c l w hrow (by have := nT_le l hok.pts; have := hok.few; omega)
 rw [hLe] at hof
 obtain ⟨B, hB⟩ : ∃ B, w.heap.size = B := ⟨_, rfl⟩
 rw [hB] at hof hrow ⊢
 obtain ⟨n, hn⟩ : ∃ n, l.length = n := ⟨_, rfl⟩
 have hfew := hok.few
 rw [hn] at hfew hc1 h0 hD0 hof hFl ⊢
 have HOF := hid hof
 have HTR := hid (fun W (hb : Below B w W) => hrow.below hb)
 have HOK := hid hok
 have HDS := hid hDs
 have HDL := hid hDl
 have HFS := hid hFs
 have HFL := hid hFl
 have HL2 := hid hL2
 have HLE := hid hLe
 have HN := hid hn
 have HP0 := hid hp0
 obtain ⟨m, hm⟩ : ∃ m, L.length = m := ⟨_, rfl⟩
 rw [hm] at hL1 hD0 hF0
 have HM := hid hm
 have hlD := hDl 0
 have hq1 : ∀ W, (Op.stringOp .add (strOfNums (encI t0)) (strOfNums (encI n))).run Tryz.prog W = .ok (.string (strOfNums (encI t0 ++ encI n))) W := add_to rfl (by rw [hD0] at hlD; simp only [List.length_append] at hlD ⊢; omega)
 have hq2 : ∀ W, (Op.stringOp .add (strOfNums (encI t0 ++ encI n)) (strOfNums (encI m))).run Tryz.prog W = .ok (.string (strOfNums (D 0))) W := add_to hD0.symm (by omega)
 have HNT := hid (fun W => rput t0 ht0l W)
 have HNN := hid (fun W => rnum_any n (by omega) W)
 have HNM := hid (fun W => rnum_any m (by omega) W)
 have HF0 := hid hF0
 have z0 : encI t0 ++ encI n = encI t0 ++ encI n := rfl
 generalize encI t0 ++ encI n = E2 at hq1 hq2
 generalize encI t0 = E0 at hq1 HNT
 generalize encI n = E1 at hq1 HNN
 generalize encI m = E3 at hq2 HNM
 clear hof hrow hok hF hD hpay hD0 hDs hF0 hFs hFl hDl hL2 hLe hn hp0 hm hlD z0 hlen
 obtain ⟨b, o, rfl, hb0, x0, -, -, -, -⟩ := (HTR.out _ (Below.refl _ _)).at HP0.out
 rw [ht0] at x0
 simp only [Nat.zero_mul, Nat.add_zero] at x0
 go_enter Tryz.func128, Tryz.ntmps128
 go_wp2_with fail
 refine HOF.out.mono ?_
 rintro e w1 ⟨vL, rfl, ⟨hoL, hxL⟩, hb1⟩
 rw [HM.out] at hoL
 obtain ⟨AL, cL, rfl⟩ := own_form hoL
 obtain ⟨-, hd1, hd2⟩ := (ERow.of_own hoL).len
 have x1 := (hb1.cell (p := ⟨b, o, none⟩) hb0).trans x0
 have HO1 := hid hoL
 have HX1 := hid hxL
 have HB1 := hid hb1
 have z1 := hb1.size
 clear hoL hxL hb1 x0 HOF
 go_wp2_with fail
 refine (HNT.out _).mono ?_
 rintro e w2 ⟨rfl, hb2⟩
 have HB2 := hid hb2
 clear hb2 x1 HNT
 go_wp2_with fail
 refine (HNN.out _).mono ?_
 rintro e w3 ⟨rfl, hb3⟩
 have HB3 := hid (HB2.out.trans (hb3.mono HB2.out.size))
 clear hb3 HNN
 go_wp2_with fail
 refine (HNM.out _).mono ?_
 rintro e w4 ⟨rfl, hb4⟩
 have HB4 := hid (HB3.out.trans (hb4.mono HB3.out.size))
 clear hb4 HNM
 go_wp2_with fail
 clear hq1 hq2
 go_loopg [4, 5] m (fun gk s i wr => ∃ (k : Nat), k ≤ m ∧ s = .string (strOfNums (D k)) ∧ i = .int .i64 k ∧ Hid (m - k = gk) ∧ Hid (Below w1.heap.size w1 wr))
 case atStart => exact ⟨0, Nat.zero_le _, rfl, rfl, hid rfl, HB4⟩
 case round =>
  obtain ⟨k, hk, rfl, rfl, HGK, HB⟩ := hrel
  by_cases hlt : k < m
  ·obtain ⟨t, ht⟩ : ∃ t, L[k]? = some t := ⟨_, List.getElem?_eq_getElem (by have := HM.out; omega)⟩
   obtain ⟨b5, o5, rfl, _, hcl⟩ := (ERow.of_own (own_below HO1.out HB.out)).block (by omega)
   have y0 := hcl k _ (strVs_at L ht)
   have htx := HL2.out t (List.mem_of_getElem? ht)
   have hds := HDS.out k t ht
   have HC := hid (fun W => rbput t (by omega) W)
   have hqa : ∀ W, (Op.stringOp .add (strOfNums (D k)) (strOfNums (encT t))).run Tryz.prog W = .ok (.string (strOfNums (D (k + 1)))) W := add_to hds.symm (by have := HDL.out (k + 1); omega)
   generalize encT t = E at HC hqa
   clear hcl ht htx hds
   go_wp2_with fail
   refine (HC.out _).mono ?_
   rintro e w5 ⟨rfl, hb5⟩
   have HB5 := hid (HB.out.trans (hb5.mono HB.out.size))
   clear hb5 HC
   go_wp2_with fail
   go_roundg (m - (k + 1))
   case measure => have := HGK.out; omega
   case rel => exact ⟨k + 1, by omega, rfl, by go_num, hid rfl, HB5⟩
  ·obtain rfl : m = k := by omega
   go_wp2_with fail
   go_loopg [4, 6] n (fun gk s i wr => ∃ (j : Nat), j ≤ n ∧ s = .string (strOfNums (F j)) ∧ i = .int .i64 j ∧ Hid (n - j = gk) ∧ Hid (Below w1.heap.size w1 wr))
   case atStart => exact ⟨0, Nat.zero_le _, by rw [HF0.out], rfl, hid rfl, HB⟩
   case round =>
    obtain ⟨j, hj, rfl, rfl, HGJ, HB6⟩ := hrel
    by_cases hjl : j < n
    ·skip
     obtain ⟨d, hd⟩ : ∃ d, l[j]? = some d := ⟨_, List.getElem?_eq_getElem (by have := HN.out; omega)⟩
     have hdm := List.mem_of_getElem? hd
     have HPO := hid (HOK.out.pts d hdm)
     have hlow : Below B w wr := HB1.out.trans (HB6.out.mono (show B ≤ w1.heap.size by omega))
     obtain ⟨_, _, e9, _, u0, u1, hokd, hl1, hl2⟩ := (HTR.out _ hlow).at hd
     injection e9 with e9
     injection e9 with e9a e9b
     subst e9a e9b
     have HEVR := hid (fun W (hb : Below B w W) => (((HTR.out _ hb).2 d hdm).1))
     have HFE := hid (show F (j + 1) = F j ++ ptB L l j from HFS.out j)
     have HEV := hid (show evsAt l j = d.evs from evsAt_of hd)
     have HIN := hid (show ∀ e ∈ d.evs, ∀ a ∈ e.args, a.t = 2 → a.s ∈ L from fun e he a ha ht => by rw [← HLE.out]; exact addT_has l [] d hdm e he a ha ht)
     have hfl := HFL.out (j + 1) (by omega)
     have ux1 := (hlow.cell (p := ⟨b, o + j * 2 + 1, none⟩) hb0).symm.trans u1
     have ux0 := u0
     obtain ⟨dA, hdA⟩ : ∃ dA, d.A = dA := ⟨_, rfl⟩
     rw [hdA] at u1 ux1 HEVR
     clear hokd hdA
     obtain ⟨wx, hwx⟩ : ∃ wx, wx = wr := ⟨_, rfl⟩
     subst hwx
     cases j with
     | zero =>
      have HXE := hid (show F (0 + 1) = F 0 ++ evsB L d.evs by rw [HFE.out, ptB, HEV.out]; simp)
      have hlow2 : Below B w _ := HB1.out.trans (HB6.out.mono (show B ≤ w1.heap.size by omega))
      have u1' := (hlow2.cell (p := ⟨b, o + 0 * 2 + 1, none⟩) hb0).trans ux1
      simp only [Nat.zero_mul, Nat.add_zero] at u1'
      have HE5 := hid (fun W => rnum_any d.evs.length (by have := HPO.out.few; omega) W)
      obtain ⟨G, hG⟩ : ∃ G : Nat → List Int, G = fun i => F 0 ++ encI d.evs.length ++ evlB L (d.evs.take i) := ⟨_, rfl⟩
      have hG0 : F 0 ++ encI d.evs.length = G 0 := by rw [hG]; simp [evlB]
      have HGn := hid (show G d.evs.length = F (0 + 1) by rw [hG, HXE.out]; simp [evsB])
      have HGs := hid (show ∀ (i : Nat) (e : Em), d.evs[i]? = some e → G (i + 1) = G i ++ encI e.p.toNat ++ argsB L e.args from fun i e he => by rw [hG]; simp only; rw [evlB_succ he]; simp only [evB, List.append_assoc])
      have HGl := hid (show ∀ i, (G i).length ≤ 10000000000 from fun i => by
       have h1 := hfl
       have h2 := flatMap_take_le (evB L) d.evs i
       rw [HXE.out] at h1
       rw [hG]
       simp only [evsB, evlB, List.length_append] at h1 ⊢
       omega)
      have hqb : ∀ W, (Op.stringOp .add (strOfNums (F 0)) (strOfNums (encI d.evs.length))).run Tryz.prog W = .ok (.string (strOfNums (G 0))) W := add_to hG0 (by have := HGl.out 0; omega)
      generalize encI d.evs.length = E5 at HE5 hqb hG0
      clear hG hG0 hlow2
      go_wp2_with fail
      refine (HE5.out _).mono ?_
      rintro e w8 ⟨rfl, hb8⟩
      have HB8 := hid (HB6.out.trans (hb8.mono HB6.out.size))
      clear hb8 HE5 u1'
      go_wp2_with fail
      clear hqb
      go_loopg [4, 8] d.evs.length (fun gi s i wr => ∃ (i0 : Nat), i0 ≤ d.evs.length ∧ s = .string (strOfNums (G i0)) ∧ i = .int .i64 i0 ∧ Hid (d.evs.length - i0 = gi) ∧ Hid (Below w1.heap.size w1 wr))
      case atStart => exact ⟨0, Nat.zero_le _, rfl, rfl, hid rfl, HB8⟩
      case round =>
       obtain ⟨i, hi, rfl, rfl, HGI, HB9⟩ := hrel
       by_cases hil : i < d.evs.length
       ·obtain ⟨e, he⟩ : ∃ e, d.evs[i]? = some e := ⟨_, List.getElem?_eq_getElem hil⟩
        have hem := List.mem_of_getElem? he
        have heo := HPO.out.evs e hem
        have hlow3 : Below B w wr := HB1.out.trans (HB9.out.mono (show B ≤ w1.heap.size by omega))
        obtain ⟨b2, o2, hA2, hb2, v0, v1, hoke, hl3, hl4⟩ := (HEVR.out _ hlow3).at he
        have HGR := hid (fun W (hb : Below B w W) => (((HEVR.out W hb).2 e hem).1))
        have HV1 := hid (fun W (hb : Below B w W) => (show W.cell? ⟨b2, o2 + i * 2 + 1, none⟩ = some (.slice e.A e.args.length e.c) from (hb.cell (p := ⟨b2, o2 + i * 2 + 1, none⟩) hb2).trans ((hlow3.cell (p := ⟨b2, o2 + i * 2 + 1, none⟩) hb2).symm.trans v1)))
        obtain ⟨pn, hpn⟩ : ∃ pn : Nat, e.p = (pn : Int) := ⟨e.p.toNat, by have := heo.low; omega⟩
        have hpl : pn < 64 := by have := heo.high; omega
        have hge : G (i + 1) = G i ++ encI pn ++ argsB L e.args := by rw [HGs.out i e he, hpn]; rfl
        have hfew2 := heo.few
        have HAO := hid heo.args
        have HAI := hid (HIN.out e hem)
        have HE6 := hid (fun W => rnum_any pn (by omega) W)
        obtain ⟨H, hH⟩ : ∃ H : Nat → List Int, H = fun q => G i ++ encI pn ++ argsB L (e.args.take q) := ⟨_, rfl⟩
        have hH0 : G i ++ encI pn = H 0 := by rw [hH]; simp [argsB]
        have HHn := hid (show H e.args.length = G (i + 1) by rw [hH, hge]; simp)
        have HHs := hid (show ∀ (q : Nat) (a : Ag), e.args[q]? = some a → H (q + 1) = H q ++ encI (argN L a) from fun q a ha => by rw [hH]; simp only; rw [argsB_succ ha]; simp only [List.append_assoc])
        have HHl := hid (show ∀ q, (H q).length ≤ 10000000000 from fun q => by
         have h1 := HGl.out (i + 1)
         have h2 := flatMap_take_le (fun a => encI (argN L a)) e.args q
         rw [hge] at h1
         rw [hH]
         simp only [argsB, List.length_append] at h1 ⊢
         omega)
        have hqc : ∀ W, (Op.stringOp .add (strOfNums (G i)) (strOfNums (encI pn))).run Tryz.prog W = .ok (.string (strOfNums (H 0))) W := add_to hH0 (by have := HHl.out 0; omega)
        generalize encI pn = E6 at HE6 hqc
        obtain ⟨ep, args, eA, ec⟩ := e
        simp only at v0 v1 hl3 hl4 hpn HGR HV1 HAO HAI HHn HHs hfew2
        subst hpn
        obtain ⟨dA0, hdA0⟩ : ∃ a, dA = a := ⟨_, rfl⟩
        clear he hem heo hlow3 hoke hge hH hH0
        obtain ⟨wy, hwy⟩ : ∃ wy, wy = wr := ⟨_, rfl⟩
        subst hwy
        rw [hA2]
        go_wp2_with fail
        refine (HE6.out _).mono ?_
        rintro e w10 ⟨rfl, hb10⟩
        have HB10 := hid (HB9.out.trans (hb10.mono HB9.out.size))
        clear hb10 HE6 v0 v1
        go_wp2_with fail
        clear hqc
        go_loopg [4, 9] args.length (fun gq s i wr => ∃ (q : Nat), q ≤ args.length ∧ s = .string (strOfNums (H q)) ∧ i = .int .i64 q ∧ Hid (args.length - q = gq) ∧ Hid (Below w1.heap.size w1 wr))
        case atStart => exact ⟨0, Nat.zero_le _, rfl, rfl, hid rfl, HB10⟩
        case round =>
         obtain ⟨q, hq, rfl, rfl, HGQ, HB11⟩ := hrel
         have hlow4 : Below B w wr := HB1.out.trans (HB11.out.mono (show B ≤ w1.heap.size by omega))
         have v1 := HV1.out _ hlow4
         by_cases hql : q < args.length
         ·obtain ⟨a, ha⟩ : ∃ a, args[q]? = some a := ⟨_, List.getElem?_eq_getElem hql⟩
          have ham := List.mem_of_getElem? ha
          have hao := HAO.out a ham
          have hai := HAI.out a ham
          have hhs := HHs.out q a ha
          have hyl := argN_lt (D := L) hao (by have := HM.out; omega)
          obtain ⟨b3, o3, rfl, hb3, y0, y1, y2, hfit⟩ := (HGR.out _ hlow4).at ha
          have b12 : Below w1.heap.size w1 (wr.alloc (.cells #[.int .i64 a.t, .int .i64 a.n, .string (strOfNums a.s)] 97)) := HB11.out.alloc HB11.out.size _
          by_cases ht : a.t = 1
          ·have hy : foldI a.n = ((argN L a : Nat) : Int) := by
            obtain ⟨_, _, _, f1, f2⟩ := hfit
            have := foldI_range f1 f2
            rw [argN, if_pos ht]
            omega
           have HFO := hid (fun W => rfold_any a.n hfit.2.2.2.1 hfit.2.2.2.2 W)
           rw [hy] at HFO
           generalize argN L a = y at HFO hyl hhs hy
           have HPY := hid (fun W => rput y hyl W)
           have hqd : ∀ W, (Op.stringOp .add (strOfNums (H q)) (strOfNums (encI y))).run Tryz.prog W = .ok (.string (strOfNums (H (q + 1)))) W := add_to hhs.symm (by have := HHl.out (q + 1); omega)
           generalize encI y = E7 at HPY hqd
           obtain ⟨at', hat⟩ : ∃ t, a.t = t := ⟨_, rfl⟩
           rw [hat] at ht y0 b12
           subst ht
           have HB12 := hid b12
           clear ha ham hao hai hhs hfit hy b12 hlow4
           obtain ⟨w12, hw12⟩ : ∃ w12, wr.alloc (.cells #[.int .i64 1, .int .i64 a.n, .string (strOfNums a.s)] 97) = w12 := ⟨_, rfl⟩
           rw [hw12] at HB12
           have h12 : Held w12 wr.heap.size 97 #[.int .i64 1, .int .i64 a.n, .string (strOfNums a.s)] := by rw [← hw12]; exact heap_alloc_new wr _
           obtain ⟨g0, g1⟩ := cC2 h12
           simp at g0 g1
           clear h12
           go_wp2_with fail
           refine (HFO.out _).mono ?_
           rintro e w13 ⟨rfl, rfl⟩
           go_wp2_with fail
           refine (HPY.out _).mono ?_
           rintro e w14 ⟨rfl, hb14⟩
           have HB14 := hid (HB12.out.trans (hb14.mono HB12.out.size))
           clear hb14 HPY HFO
           go_wp2_with fail
           go_roundg (args.length - (q + 1))
           case measure => have := HGQ.out; omega
           case rel => exact ⟨q + 1, by omega, rfl, by go_num, hid rfl, HB14⟩
          ·have ht2 : a.t = 2 := hao.kind.resolve_left ht
           have hy : placeD L a.s = ((argN L a : Nat) : Int) := by
            rw [argN, if_neg ht]
            exact placeD_in (hai ht2)
           have hyL : argN L a < 9223372036854775808 := by
            have := HM.out
            rcases placeD_ways L a.s with ⟨q1, _⟩ | ⟨i, q1, q2, _⟩
            ·omega
            ·omega
           have HPL := hid (fun W (hb : Below w1.heap.size w1 W) => (show Calls Tryz.prog 176 #[.slice AL m cL, .string (strOfNums a.s)] W fun e w' => e = .returned (.int .i64 (argN L a : Nat)) ∧ W = w' from by
            have h := rplace_any AL cL L a.s (by rw [HM.out]; exact (ERow.of_own (own_below HO1.out hb))) HX1.out hfit.2.1
            rw [HM.out, hy] at h
            exact h))
           generalize argN L a = y at HPL hyl hhs hy hyL
           have HPY := hid (fun W => rnum_any y hyL W)
           have hqd : ∀ W, (Op.stringOp .add (strOfNums (H q)) (strOfNums (encI y))).run Tryz.prog W = .ok (.string (strOfNums (H (q + 1)))) W := add_to hhs.symm (by have := HHl.out (q + 1); omega)
           generalize encI y = E7 at HPY hqd
           have hne : (a.t == 1) = false := beq_eq_false_iff_ne.2 ht
           obtain ⟨at', hat⟩ : ∃ t, a.t = t := ⟨_, rfl⟩
           rw [hat] at ht2 y0 b12
           subst ht2
           have HB12 := hid b12
           clear ha ham hao hai hhs hfit hy b12 hlow4 ht hne
           obtain ⟨w12, hw12⟩ : ∃ w12, wr.alloc (.cells #[.int .i64 2, .int .i64 a.n, .string (strOfNums a.s)] 97) = w12 := ⟨_, rfl⟩
           rw [hw12] at HB12
           have h12 : Held w12 wr.heap.size 97 #[.int .i64 2, .int .i64 a.n, .string (strOfNums a.s)] := by rw [← hw12]; exact heap_alloc_new wr _
           have g0 := h12.cell 0
           have g2 := h12.cell 2
           simp at g0 g2
           clear h12
           go_wp2_with fail
           refine (HPL.out _ HB12.out).mono ?_
           rintro e w13 ⟨rfl, rfl⟩
           go_wp2_with fail
           refine (HPY.out _).mono ?_
           rintro e w14 ⟨rfl, hb14⟩
           have HB14 := hid (HB12.out.trans (hb14.mono HB12.out.size))
           clear hb14 HPY HPL
           go_wp2_with fail
           go_roundg (args.length - (q + 1))
           case measure => have := HGQ.out; omega
           case rel => exact ⟨q + 1, by omega, rfl, by go_num, hid rfl, HB14⟩
         ·obtain rfl : q = args.length := by omega
          go_wp2_with fail
          rw [← hA2]
          go_roundg (d.evs.length - (i + 1))
          case measure => have := HGI.out; omega
          case rel => exact ⟨i + 1, by omega, by rw [HHn.out], by go_num, hid rfl, HB11⟩
       ·obtain rfl : i = d.evs.length := by omega
        go_wp2_with fail
        go_roundg (n - (0 + 1))
        case measure => have := HGJ.out; omega
        case rel => exact ⟨0 + 1, by omega, by rw [HGn.out], by go_num, hid rfl, HB9⟩
     | succ m2 =>
      obtain ⟨d0, hd0⟩ : ∃ d, l[m2]? = some d := ⟨_, List.getElem?_eq_getElem (by have := HN.out; omega)⟩
      have hord : d0.tm ≤ d.tm := HOK.out.ord m2 d0 d hd0 hd
      have hf0 := (HOK.out.pts d0 (List.mem_of_getElem? hd0)).fits
      have hfd := HPO.out.fits
      unfold Pm.Fits at hf0 hfd
      obtain ⟨y, hy⟩ : ∃ y : Nat, d.tm - d0.tm = (y : Int) := ⟨(d.tm - d0.tm).toNat, by omega⟩
      have hyl : y < 18446744073709551616 := by omega
      have HXE := hid (show F (m2 + 1 + 1) = (F (m2 + 1) ++ encI y) ++ evsB L d.evs by
       have hst : stepN l (m2 + 1) = y := by
        unfold stepN
        rw [tmAt_of hd, show m2 + 1 - 1 = m2 from rfl, tmAt_of hd0, hy]
        rfl
       rw [HFE.out, ptB, HEV.out, if_pos (Nat.succ_pos m2), hst, List.append_assoc])
      obtain ⟨_, _, e9, _, z0, _⟩ := (HTR.out _ hlow).at hd0
      injection e9 with e9
      injection e9 with e9a e9b
      subst e9a e9b
      have hw9 : IntKind.u64.wrap (d.tm - d0.tm) = (y : Int) := by rw [hy]; exact IntWalk.u64_in _ (by omega)
      have hm9 : IntKind.i64.wrap (m2 : Int) = (m2 : Int) := IntWalk.i64_in _ (by omega)
      have hm1 : (0 : Int) ≤ (m2 : Int) := by omega
      have hm2 : (m2 : Int) < (n : Int) := by omega
      have hm3 : ¬ (m2 : Int) < 0 := by omega
      have hm4 : ¬ (n : Int) ≤ (m2 : Int) := by omega
      have hm5 : m2 < n := by omega
      have hm6 : (0 : Int) ≤ (m2 : Int) + 1 := by omega
      have hm7 : (m2 : Int) + 1 < (n : Int) := by omega
      have hm8 : ¬ (m2 : Int) + 1 < 0 := by omega
      have hm9' : ¬ (n : Int) ≤ (m2 : Int) + 1 := by omega
      have hm10 : m2 + 1 < n := by omega
      obtain ⟨X, hX⟩ : ∃ X, F (m2 + 1) ++ encI y = X := ⟨_, rfl⟩
      rw [hX] at HXE
      have HPY := hid (fun W => rput y hyl W)
      have hqd : ∀ W, (Op.stringOp .add (strOfNums (F (m2 + 1))) (strOfNums (encI y))).run Tryz.prog W = .ok (.string (strOfNums X)) W := add_to hX (by
       have h1 := hfl
       rw [HXE.out, List.length_append] at h1
       omega)
      generalize encI y = E9 at HPY hqd hX
      have HALL := hid (fun W (hb : Below wx.heap.size wx W) => (⟨(hb.cell (p := ⟨b, o + (m2 + 1) * 2, none⟩) (by have := hlow.size; show b < _; omega)).trans u0, (hb.cell (p := ⟨b, o + m2 * 2, none⟩) (by have := hlow.size; show b < _; omega)).trans z0⟩ : W.cell? ⟨b, o + (m2 + 1) * 2, none⟩ = some (.int .u64 d.tm) ∧ W.cell? ⟨b, o + m2 * 2, none⟩ = some (.int .u64 d0.tm)))
      clear hd hdm hd0 hf0 hfd hy hX hord hlow u1
      go_wp2_with fail
      go_region_held3 (fun W => W.cell? ⟨b, o + (m2 + 1) * 2, none⟩ = some (.int .u64 d.tm) ∧ W.cell? ⟨b, o + m2 * 2, none⟩ = some (.int .u64 d0.tm))
       (first | exact HALL.out _ b7 | exact HALL.out _ (Below.refl _ _).drew | exact HALL.out _ (Below.refl _ _))
       (first | (go_at_call 166; (with_reducible refine (HPY.out _).mono ?_); rintro e w7 ⟨rfl, hb7⟩; have b7 : Below wx.heap.size wx w7 := (Below.refl _ _).drew.trans hb7))
      have HB7 := hid (HB6.out.trans (b7.mono HB6.out.size))
      clear b7 hb7 HALL HPY u0 z0 hw9 hm9 hqd
      have hlow2 : Below B w _ := HB1.out.trans (HB7.out.mono (show B ≤ w1.heap.size by omega))
      have u1' := (hlow2.cell (p := ⟨b, o + (m2 + 1) * 2 + 1, none⟩) hb0).trans ux1
      have HE5 := hid (fun W => rnum_any d.evs.length (by have := HPO.out.few; omega) W)
      obtain ⟨G, hG⟩ : ∃ G : Nat → List Int, G = fun i => X ++ encI d.evs.length ++ evlB L (d.evs.take i) := ⟨_, rfl⟩
      have hG0 : X ++ encI d.evs.length = G 0 := by rw [hG]; simp [evlB]
      have HGn := hid (show G d.evs.length = F (m2 + 1 + 1) by rw [hG, HXE.out]; simp [evsB])
      have HGs := hid (show ∀ (i : Nat) (e : Em), d.evs[i]? = some e → G (i + 1) = G i ++ encI e.p.toNat ++ argsB L e.args from fun i e he => by rw [hG]; simp only; rw [evlB_succ he]; simp only [evB, List.append_assoc])
      have HGl := hid (show ∀ i, (G i).length ≤ 10000000000 from fun i => by
       have h1 := hfl
       have h2 := flatMap_take_le (evB L) d.evs i
       rw [HXE.out] at h1
       rw [hG]
       simp only [evsB, evlB, List.length_append] at h1 ⊢
       omega)
      have hqb : ∀ W, (Op.stringOp .add (strOfNums (X)) (strOfNums (encI d.evs.length))).run Tryz.prog W = .ok (.string (strOfNums (G 0))) W := add_to hG0 (by have := HGl.out 0; omega)
      generalize encI d.evs.length = E5 at HE5 hqb hG0
      clear hG hG0 hlow2
      go_wp2_with fail
      refine (HE5.out _).mono ?_
      rintro e w8 ⟨rfl, hb8⟩
      have HB8 := hid (HB7.out.trans (hb8.mono HB7.out.size))
      clear hb8 HE5 u1'
      go_wp2_with fail
      clear hqb
      go_loopg [4, 8] d.evs.length (fun gi s i wr => ∃ (i0 : Nat), i0 ≤ d.evs.length ∧ s = .string (strOfNums (G i0)) ∧ i = .int .i64 i0 ∧ Hid (d.evs.length - i0 = gi) ∧ Hid (Below w1.heap.size w1 wr))
      case atStart => exact ⟨0, Nat.zero_le _, rfl, rfl, hid rfl, HB8⟩
      case round =>
       obtain ⟨i, hi, rfl, rfl, HGI, HB9⟩ := hrel
       by_cases hil : i < d.evs.length
       ·obtain ⟨e, he⟩ : ∃ e, d.evs[i]? = some e := ⟨_, List.getElem?_eq_getElem hil⟩
        have hem := List.mem_of_getElem? he
        have heo := HPO.out.evs e hem
        have hlow3 : Below B w wr := HB1.out.trans (HB9.out.mono (show B ≤ w1.heap.size by omega))
        obtain ⟨b2, o2, hA2, hb2, v0, v1, hoke, hl3, hl4⟩ := (HEVR.out _ hlow3).at he
        have HGR := hid (fun W (hb : Below B w W) => (((HEVR.out W hb).2 e hem).1))
        have HV1 := hid (fun W (hb : Below B w W) => (show W.cell? ⟨b2, o2 + i * 2 + 1, none⟩ = some (.slice e.A e.args.length e.c) from (hb.cell (p := ⟨b2, o2 + i * 2 + 1, none⟩) hb2).trans ((hlow3.cell (p := ⟨b2, o2 + i * 2 + 1, none⟩) hb2).symm.trans v1)))
        obtain ⟨pn, hpn⟩ : ∃ pn : Nat, e.p = (pn : Int) := ⟨e.p.toNat, by have := heo.low; omega⟩
        have hpl : pn < 64 := by have := heo.high; omega
        have hge : G (i + 1) = G i ++ encI pn ++ argsB L e.args := by rw [HGs.out i e he, hpn]; rfl
        have hfew2 := heo.few
        have HAO := hid heo.args
        have HAI := hid (HIN.out e hem)
        have HE6 := hid (fun W => rnum_any pn (by omega) W)
        obtain ⟨H, hH⟩ : ∃ H : Nat → List Int, H = fun q => G i ++ encI pn ++ argsB L (e.args.take q) := ⟨_, rfl⟩
        have hH0 : G i ++ encI pn = H 0 := by rw [hH]; simp [argsB]
        have HHn := hid (show H e.args.length = G (i + 1) by rw [hH, hge]; simp)
        have HHs := hid (show ∀ (q : Nat) (a : Ag), e.args[q]? = some a → H (q + 1) = H q ++ encI (argN L a) from fun q a ha => by rw [hH]; simp only; rw [argsB_succ ha]; simp only [List.append_assoc])
        have HHl := hid (show ∀ q, (H q).length ≤ 10000000000 from fun q => by
         have h1 := HGl.out (i + 1)
         have h2 := flatMap_take_le (fun a => encI (argN L a)) e.args q
         rw [hge] at h1
         rw [hH]
         simp only [argsB, List.length_append] at h1 ⊢
         omega)
        have hqc : ∀ W, (Op.stringOp .add (strOfNums (G i)) (strOfNums (encI pn))).run Tryz.prog W = .ok (.string (strOfNums (H 0))) W := add_to hH0 (by have := HHl.out 0; omega)
        generalize encI pn = E6 at HE6 hqc
        obtain ⟨ep, args, eA, ec⟩ := e
        simp only at v0 v1 hl3 hl4 hpn HGR HV1 HAO HAI HHn HHs hfew2
        subst hpn
        obtain ⟨dA0, hdA0⟩ : ∃ a, dA = a := ⟨_, rfl⟩
        clear he hem heo hlow3 hoke hge hH hH0
        obtain ⟨wy, hwy⟩ : ∃ wy, wy = wr := ⟨_, rfl⟩
        subst hwy
        rw [hA2]
        go_wp2_with fail
        refine (HE6.out _).mono ?_
        rintro e w10 ⟨rfl, hb10⟩
        have HB10 := hid (HB9.out.trans (hb10.mono HB9.out.size))
        clear hb10 HE6 v0 v1
        go_wp2_with fail
        clear hqc
        go_loopg [4, 9] args.length (fun gq s i wr => ∃ (q : Nat), q ≤ args.length ∧ s = .string (strOfNums (H q)) ∧ i = .int .i64 q ∧ Hid (args.length - q = gq) ∧ Hid (Below w1.heap.size w1 wr))
        case atStart => exact ⟨0, Nat.zero_le _, rfl, rfl, hid rfl, HB10⟩
        case round =>
         obtain ⟨q, hq, rfl, rfl, HGQ, HB11⟩ := hrel
         have hlow4 : Below B w wr := HB1.out.trans (HB11.out.mono (show B ≤ w1.heap.size by omega))
         have v1 := HV1.out _ hlow4
         by_cases hql : q < args.length
         ·obtain ⟨a, ha⟩ : ∃ a, args[q]? = some a := ⟨_, List.getElem?_eq_getElem hql⟩
          have ham := List.mem_of_getElem? ha
          have hao := HAO.out a ham
          have hai := HAI.out a ham
          have hhs := HHs.out q a ha
          have hyl := argN_lt (D := L) hao (by have := HM.out; omega)
          obtain ⟨b3, o3, rfl, hb3, y0, y1, y2, hfit⟩ := (HGR.out _ hlow4).at ha
          have b12 : Below w1.heap.size w1 (wr.alloc (.cells #[.int .i64 a.t, .int .i64 a.n, .string (strOfNums a.s)] 97)) := HB11.out.alloc HB11.out.size _
          by_cases ht : a.t = 1
          ·have hy : foldI a.n = ((argN L a : Nat) : Int) := by
            obtain ⟨_, _, _, f1, f2⟩ := hfit
            have := foldI_range f1 f2
            rw [argN, if_pos ht]
            omega
           have HFO := hid (fun W => rfold_any a.n hfit.2.2.2.1 hfit.2.2.2.2 W)
           rw [hy] at HFO
           generalize argN L a = y at HFO hyl hhs hy
           have HPY := hid (fun W => rput y hyl W)
           have hqd : ∀ W, (Op.stringOp .add (strOfNums (H q)) (strOfNums (encI y))).run Tryz.prog W = .ok (.string (strOfNums (H (q + 1)))) W := add_to hhs.symm (by have := HHl.out (q + 1); omega)
           generalize encI y = E7 at HPY hqd
           obtain ⟨at', hat⟩ : ∃ t, a.t = t := ⟨_, rfl⟩
           rw [hat] at ht y0 b12
           subst ht
           have HB12 := hid b12
           clear ha ham hao hai hhs hfit hy b12 hlow4
           obtain ⟨w12, hw12⟩ : ∃ w12, wr.alloc (.cells #[.int .i64 1, .int .i64 a.n, .string (strOfNums a.s)] 97) = w12 := ⟨_, rfl⟩
           rw [hw12] at HB12
           have h12 : Held w12 wr.heap.size 97 #[.int .i64 1, .int .i64 a.n, .string (strOfNums a.s)] := by rw [← hw12]; exact heap_alloc_new wr _
           obtain ⟨g0, g1⟩ := cC2 h12
           simp at g0 g1
           clear h12
           go_wp2_with fail
           refine (HFO.out _).mono ?_
           rintro e w13 ⟨rfl, rfl⟩
           go_wp2_with fail
           refine (HPY.out _).mono ?_
           rintro e w14 ⟨rfl, hb14⟩
           have HB14 := hid (HB12.out.trans (hb14.mono HB12.out.size))
           clear hb14 HPY HFO
           go_wp2_with fail
           go_roundg (args.length - (q + 1))
           case measure => have := HGQ.out; omega
           case rel => exact ⟨q + 1, by omega, rfl, by go_num, hid rfl, HB14⟩
          ·have ht2 : a.t = 2 := hao.kind.resolve_left ht
           have hy : placeD L a.s = ((argN L a : Nat) : Int) := by
            rw [argN, if_neg ht]
            exact placeD_in (hai ht2)
           have hyL : argN L a < 9223372036854775808 := by
            have := HM.out
            rcases placeD_ways L a.s with ⟨q1, _⟩ | ⟨i, q1, q2, _⟩
            ·omega
            ·omega
           have HPL := hid (fun W (hb : Below w1.heap.size w1 W) => (show Calls Tryz.prog 176 #[.slice AL m cL, .string (strOfNums a.s)] W fun e w' => e = .returned (.int .i64 (argN L a : Nat)) ∧ W = w' from by
            have h := rplace_any AL cL L a.s (by rw [HM.out]; exact (ERow.of_own (own_below HO1.out hb))) HX1.out hfit.2.1
            rw [HM.out, hy] at h
            exact h))
           generalize argN L a = y at HPL hyl hhs hy hyL
           have HPY := hid (fun W => rnum_any y hyL W)
           have hqd : ∀ W, (Op.stringOp .add (strOfNums (H q)) (strOfNums (encI y))).run Tryz.prog W = .ok (.string (strOfNums (H (q + 1)))) W := add_to hhs.symm (by have := HHl.out (q + 1); omega)
           generalize encI y = E7 at HPY hqd
           have hne : (a.t == 1) = false := beq_eq_false_iff_ne.2 ht
           obtain ⟨at', hat⟩ : ∃ t, a.t = t := ⟨_, rfl⟩
           rw [hat] at ht2 y0 b12
           subst ht2
           have HB12 := hid b12
           clear ha ham hao hai hhs hfit hy b12 hlow4 ht hne
           obtain ⟨w12, hw12⟩ : ∃ w12, wr.alloc (.cells #[.int .i64 2, .int .i64 a.n, .string (strOfNums a.s)] 97) = w12 := ⟨_, rfl⟩
           rw [hw12] at HB12
           have h12 : Held w12 wr.heap.size 97 #[.int .i64 2, .int .i64 a.n, .string (strOfNums a.s)] := by rw [← hw12]; exact heap_alloc_new wr _
           have g0 := h12.cell 0
           have g2 := h12.cell 2
           simp at g0 g2
           clear h12
           go_wp2_with fail
           refine (HPL.out _ HB12.out).mono ?_
           rintro e w13 ⟨rfl, rfl⟩
           go_wp2_with fail
           refine (HPY.out _).mono ?_
           rintro e w14 ⟨rfl, hb14⟩
           have HB14 := hid (HB12.out.trans (hb14.mono HB12.out.size))
           clear hb14 HPY HPL
           go_wp2_with fail
           go_roundg (args.length - (q + 1))
           case measure => have := HGQ.out; omega
           case rel => exact ⟨q + 1, by omega, rfl, by go_num, hid rfl, HB14⟩
         ·obtain rfl : q = args.length := by omega
          go_wp2_with fail
          rw [← hA2]
          go_roundg (d.evs.length - (i + 1))
          case measure => have := HGI.out; omega
          case rel => exact ⟨i + 1, by omega, by rw [HHn.out], by go_num, hid rfl, HB11⟩
       ·obtain rfl : i = d.evs.length := by omega
        go_wp2_with fail
        go_roundg (n - (m2 + 1 + 1))
        case measure => have := HGJ.out; omega
        case rel => exact ⟨m2 + 1 + 1, by omega, by rw [HGn.out], by go_num, hid rfl, HB9⟩
    ·obtain rfl : j = n := by omega
     go_wp2_with fail
     go_ret
     exact ⟨rfl, HB1.out.trans (HB6.out.mono (show B ≤ w1.heap.size by omega))⟩
section
variable (A : Option Addr) (c : Nat) (ds : List Pd) (T : Option Addr) (ct : Nat) (ps : List Pm) (w : World)
theorem rwhole_any (hrow : PredRow w w.heap.size (.slice A ds.length c) ds) (ht : TrRow w w.heap.size (.slice T ps.length ct) ps) :
  Calls Tryz.prog 104 #[.slice A ds.length c, .slice T ps.length ct] w fun e w' => e = .returned (.tuple #[.string (strOfNums (wholeB (ds.map (·.p)) ps).1), .int .i64 (wholeB (ds.map (·.p)) ps).2]) ∧ Below w.heap.size w w' := by
 obtain ⟨-, hc1, hc2⟩ := ht.1.len
 have HCK := hid (rtcheck_any A c ds T ct ps w hrow ht)
 have hw : ∀ h : checkB (ds.map (·.p)) ps ≠ 0, wholeB (ds.map (·.p)) ps = ([], checkB (ds.map (·.p)) ps) := fun h => if_neg h
 by_cases h0 : ps.length = 0
 ·have hck : checkB (ds.map (·.p)) ps = 1 := if_pos h0
  rw [hw (by rw [hck]; decide), hck]
  rw [h0] at HCK hc1 ⊢
  clear h0 hck hw hrow ht
  go_enter Tryz.func104, Tryz.ntmps104
  go_wp2_with fail
  go_ret2
  exact ⟨rfl, Below.refl _ _⟩
 ·have hn0 : ¬ (ps.length : Int) = 0 := by omega
  have hne0 : ((ps.length : Int) == 0) = false := beq_eq_false_iff_ne.2 hn0
  by_cases h1 : (checkT (ds.map (·.p)) (ps.map (·.p))).1 = 0
  ·by_cases h2 : 1024 < ps.length
   ·have hck : checkB (ds.map (·.p)) ps = 6 := by unfold checkB; rw [if_neg h0, if_neg (fun h => h h1), if_pos h2]
    rw [hw (by rw [hck]; decide), hck]
    rw [h1] at HCK
    generalize checkT (ds.map (·.p)) (ps.map (·.p)) = C at HCK h1
    obtain ⟨n, hn⟩ : ∃ n, ps.length = n := ⟨_, rfl⟩
    rw [hn] at HCK hc1 h0 hn0 hne0 h2 ⊢
    have h2' : (1024 : Int) < (n : Int) := by omega
    clear hn hck hw hrow ht h1
    go_enter Tryz.func104, Tryz.ntmps104
    go_wp2_with fail
    refine HCK.out.mono ?_
    rintro e w1 ⟨rfl, hb1⟩
    go_wp2_with fail
    go_ret2
    exact ⟨rfl, hb1⟩
   ·have hck : checkB (ds.map (·.p)) ps = 0 := by unfold checkB; rw [if_neg h0, if_neg (fun h => h h1), if_neg h2]
    have hbo := ht.bok hck
    rw [show wholeB (ds.map (·.p)) ps = (payB ps, 0) from if_pos hck]
    rw [h1] at HCK
    have HT := hid (fun W (hb : Below w.heap.size w W) => rtext_any T ct ps W ((ht.below hb).more hb.size) hbo (by omega))
    generalize checkT (ds.map (·.p)) (ps.map (·.p)) = C at HCK h1
    dsimp only
    generalize payB ps = P at HT ⊢
    obtain ⟨n, hn⟩ : ∃ n, ps.length = n := ⟨_, rfl⟩
    rw [hn] at HCK HT hc1 h0 hn0 hne0 h2 ⊢
    have h2' : ¬ (1024 : Int) < (n : Int) := by omega
    have h2'' : (n : Int) ≤ 1024 := by omega
    clear hn hck hw hrow ht h1 hbo
    go_enter Tryz.func104, Tryz.ntmps104
    go_wp2_with fail
    refine HCK.out.mono ?_
    rintro e w1 ⟨rfl, hb1⟩
    go_wp2_with fail
    refine (HT.out _ hb1).mono ?_
    rintro e w2 ⟨rfl, hb2⟩
    have HB2 := hid (hb1.trans (hb2.mono hb1.size))
    clear hb1 hb2
    go_wp2_with fail
    go_ret2
    exact ⟨rfl, HB2.out⟩
  ·have hck : checkB (ds.map (·.p)) ps = (checkT (ds.map (·.p)) (ps.map (·.p))).1 := by unfold checkB; rw [if_neg h0, if_pos h1]
   rw [hw (by rw [hck]; exact h1), hck]
   generalize checkT (ds.map (·.p)) (ps.map (·.p)) = C at HCK h1 ⊢
   have hne : (C.1 != 0) = true := bne_iff_ne.2 h1
   obtain ⟨n, hn⟩ : ∃ n, ps.length = n := ⟨_, rfl⟩
   rw [hn] at HCK hc1 h0 hn0 hne0 ⊢
   clear hn hck hw hrow ht
   go_enter Tryz.func104, Tryz.ntmps104
   go_wp2_with fail
   refine HCK.out.mono ?_
   rintro e w1 ⟨rfl, hb1⟩
   go_wp2_with fail
   go_ret2
   exact ⟨rfl, hb1⟩
theorem rput14_any (hrow : PredRow w w.heap.size (.slice A ds.length c) ds) (ht : TrRow w w.heap.size (.slice T ps.length ct) ps) :
  Calls Tryz.prog 54 #[.slice A ds.length c, .slice T ps.length ct] w fun e w' => e = .returned (.tuple #[.string (strOfNums (putB (ds.map (·.p)) ps).1), .int .i64 (putB (ds.map (·.p)) ps).2]) ∧ Below w.heap.size w w' := by
 have hwh := rwhole_any A c ds T ct ps w hrow ht
 unfold wholeB at hwh
 unfold putB
 by_cases h0 : checkB (ds.map (·.p)) ps = 0
 ·rw [if_pos h0] at hwh ⊢
  have hpl := payB_len (ht.bok h0)
  clear h0 hrow ht
  dsimp only at hwh
  generalize payB ps = P at hwh hpl ⊢
  have HW := hid hwh
  have hss : (strOfNums P).size = P.length := strOfNums_size P
  clear hwh
  by_cases h1 : 4096 < P.length
  ·rw [if_pos h1]
   have h1' : (4096 : Int) < ((strOfNums P).size : Int) := by rw [hss]; omega
   generalize strOfNums P = S at HW h1' hss
   go_enter Tryz.func54, Tryz.ntmps54
   go_wp2_with fail
   refine HW.out.mono ?_
   rintro e w1 ⟨rfl, hb1⟩
   go_wp2_with fail
   go_ret2
   exact ⟨rfl, hb1⟩
  ·rw [if_neg h1]
   have h1' : ¬ (4096 : Int) < ((strOfNums P).size : Int) := by rw [hss]; omega
   dsimp only
   generalize strOfNums P = S at HW h1' hss ⊢
   go_enter Tryz.func54, Tryz.ntmps54
   go_wp2_with fail
   refine HW.out.mono ?_
   rintro e w1 ⟨rfl, hb1⟩
   go_wp2_with fail
   go_ret2
   exact ⟨rfl, hb1⟩
 ·rw [if_neg h0] at hwh ⊢
  have hne : (checkB (ds.map (·.p)) ps == 0) = false := beq_eq_false_iff_ne.2 h0
  generalize checkB (ds.map (·.p)) ps = C at hwh hne h0 ⊢
  have HW := hid hwh
  clear hwh hrow ht
  go_enter Tryz.func54, Tryz.ntmps54
  go_wp2_with fail
  refine HW.out.mono ?_
  rintro e w1 ⟨rfl, hb1⟩
  go_wp2_with fail
  go_ret2
  exact ⟨rfl, hb1⟩
end
end Go.Proofs.YtimihhcidbeonaaGreat
