/-
  What the theorem of TopAny rests on, part 9 of 16.
-/
import Derived.Deep.RegionHeld3
import Derived.BigQuiet
import Derived.Carry
import Derived.Test.YtnlfcmbpocdpjaaGreatTopAnyZ8
set_option maxRecDepth 100000
set_option maxHeartbeats 16000000
namespace Go.Proofs.YtnlfcmbpocdpjaaGreat
open Lib (hid)
open Go.RowKit
theorem revsame_any (d1 d2 : Em) (w : World) (g1 : d1.Ok w w.heap.size) (g2 : d2.Ok w w.heap.size) :
  Calls Tryz.prog 35 #[d1.val, d2.val] w fun e w' => e = .returned (.bool (decide (d1.e = d2.e))) ∧ Below w.heap.size w w' := by
 obtain ⟨-, hc1, hc2⟩ := g1.1.1.len
 obtain ⟨-, hc3, hc4⟩ := g2.1.1.len
 have f1 := g1.2
 have f2 := g2.2
 rw [ev_eq_dec]
 obtain ⟨p1, l1, A1, c1⟩ := d1
 obtain ⟨p2, l2, A2, c2⟩ := d2
 unfold Em.Fits at f1 f2
 dsimp only at hc1 hc2 hc3 hc4 f1 f2 ⊢
 dsimp only [Em.val]
 have HI1 := hid (fun W (h : Below w.heap.size w W) => g1.1.below h)
 have HI2 := hid (fun W (h : Below w.heap.size w W) => g2.1.below h)
 dsimp only at HI1 HI2
 clear g1 g2
 obtain ⟨w1, hw1⟩ : ∃ w1, (w.alloc (.cells #[.int .i64 p1, .slice A1 l1.length c1] 91)).alloc (.cells #[.int .i64 p2, .slice A2 l2.length c2] 91) = w1 := ⟨_, rfl⟩
 have s1 : w1.heap.size = w.heap.size + 1 + 1 := by rw [← hw1]; simp
 have b1 : Below w.heap.size w w1 := by rw [← hw1]; exact ((Below.refl _ _).alloc (Nat.le_refl _) _).alloc (by simp) _
 have h1 : Held w1 w.heap.size 91 #[.int .i64 p1, .slice A1 l1.length c1] := by
  rw [← hw1]
  exact Held.below (heap_alloc_new w _) ((Below.refl _ _).alloc (Nat.le_refl _) _) (by simp)
 have h2 : Held w1 (w.heap.size + 1) 91 #[.int .i64 p2, .slice A2 l2.length c2] := by
  rw [← hw1, show w.heap.size + 1 = (w.alloc (.cells #[.int .i64 p1, .slice A1 l1.length c1] 91)).heap.size by simp]
  exact heap_alloc_new _ _
 obtain ⟨e0, e1⟩ := cC2 h1
 obtain ⟨e2, e3⟩ := cC2 h2
 simp at e0 e1 e2 e3
 have HB1 := hid b1
 by_cases hd : p1 = p2
 case neg =>
  have hb1 : (p1 != p2) = true := bne_iff_ne.2 hd
  rw [decide_eq_false hd, Bool.false_and]
  clear hd h1 h2 b1
  go_enter Tryz.func35, Tryz.ntmps35
  go_wp2_with fail
  go_ret
  exact ⟨rfl, HB1.out⟩
 case pos =>
  subst hd
  rw [decide_eq_true rfl, Bool.true_and]
  have hbb : (p1 != p1) = false := by simp
  by_cases hl : l1.length = l2.length
  ·have hyes := fun h => decide_eq_true (lst_ext (l := l1) (m := l2) hl h)
   have hno := fun (i : Nat) (h : l1.getD i default ≠ l2.getD i default) => decide_eq_false (p := l1 = l2) (fun e => h (by rw [e]))
   generalize decide (l1 = l2) = R at hyes hno ⊢
   have HY := hid hyes
   have HN := hid hno
   have HL := hid hl
   rw [← hl] at HI2 hc3 e3 hw1 h2 ⊢
   have hll : ((l1.length : Int) != (l1.length : Int)) = false := by simp
   have HE1 := hid (fun W (h : Below w1.heap.size w1 W) => (h1.below h (by omega)).cell 1)
   have HE3 := hid (fun W (h : Below w1.heap.size w1 W) => (h2.below h (by omega)).cell 1)
   simp at HE1 HE3
   have HS1 := hid s1
   clear hl hyes hno h1 h2 b1
   go_enter Tryz.func35, Tryz.ntmps35
   go_wp2_with fail
   clear e0 e1 e2 e3 hw1
   go_loopg [5] l1.length (fun gm i wr2 => ∃ m : Nat, m ≤ l1.length ∧ i = .int .i64 m ∧ Hid (l1.length - m = gm) ∧ Hid (∀ j, j < m → l1.getD j default = l2.getD j default) ∧ Hid (Below w1.heap.size w1 wr2))
   case atStart => exact ⟨0, Nat.zero_le _, rfl, hid rfl, hid (fun j h => absurd h (Nat.not_lt_zero _)), hid (Below.refl _ _)⟩
   case round =>
    obtain ⟨m, hm, rfl, HGM, HI, HB2⟩ := hrel
    have x1 := HE1.out _ HB2.out
    have x3 := HE3.out _ HB2.out
    by_cases hml : m < l1.length
    ·have hbw2 := HB1.out.trans (HB2.out.mono (by omega))
     obtain ⟨x, hx⟩ : ∃ x, l1[m]? = some x := ⟨_, List.getElem?_eq_getElem hml⟩
     obtain ⟨y, hy⟩ : ∃ y, l2[m]? = some y := ⟨_, List.getElem?_eq_getElem (by rw [← HL.out]; exact hml)⟩
     obtain ⟨q1, r1, rfl, hq1, s0, s1, s2, fx⟩ := (HI1.out _ hbw2).at hx
     obtain ⟨q2, r2, rfl, hq2, t0, t1, t2, fy⟩ := (HI2.out _ hbw2).at hy
     have e1 := getD_of hx
     have e2 := getD_of hy
     have hne := fun W => run_neq_arg W fx fy
     by_cases he : x = y
     ·have HI3 := hid (step_lt (P := fun j => l1.getD j default = l2.getD j default) HI.out (by rw [e1, e2, he]))
      rw [decide_eq_true he] at hne
      clear he hbw2 fx fy e1 e2 hx hy
      go_wp2_with fail
      go_quiet (fail)
      go_wp2_with fail
      go_roundg (l1.length - (m + 1))
      case measure => have := HGM.out; omega
      case rel => exact ⟨m + 1, by omega, by go_num, hid rfl, HI3, hid (HB2.out.trans (drewN_low _ _ _))⟩
     ·have HR := hid (HN.out m (by rw [e1, e2]; exact he))
      rw [decide_eq_false he] at hne
      clear he fx fy e1 e2 hx hy
      have HB3 := hid hbw2
      clear hbw2
      go_wp2_with fail
      go_quiet (fail)
      go_wp2_with fail
      go_ret
      exact ⟨by rw [HR.out]; rfl, HB3.out.trans (drewN_low _ _ _)⟩
    ·obtain rfl : m = l1.length := by omega
     have HR := hid (HY.out HI.out)
     have HB3 := hid (HB1.out.trans (HB2.out.mono (by omega)))
     go_wp2_with fail
     go_ret
     exact ⟨by rw [HR.out]; rfl, HB3.out⟩
  ·have hlb : ((l1.length : Int) != (l2.length : Int)) = true := bne_iff_ne.2 (by omega)
   have hf : decide (l1 = l2) = false := decide_eq_false (fun e => hl (by rw [e]))
   rw [hf]
   clear hf hl h1 h2 b1
   go_enter Tryz.func35, Tryz.ntmps35
   go_wp2_with fail
   go_ret
   exact ⟨rfl, HB1.out⟩
theorem rtsame_any (A1 : Option Addr) (c1 : Nat) (ds1 : List Pm) (A2 : Option Addr) (c2 : Nat) (ds2 : List Pm) (w : World) (hrow1 : TrRow w w.heap.size (.slice A1 ds1.length c1) ds1) (hrow2 : TrRow w w.heap.size (.slice A2 ds2.length c2) ds2) :
  Calls Tryz.prog 14 #[.slice A1 ds1.length c1, .slice A2 ds2.length c2] w fun e w' => e = .returned (.bool (decide (ds1.map (·.p) = ds2.map (·.p)))) ∧ Below w.heap.size w w' := by
 obtain ⟨-, hc1, hc2⟩ := hrow1.1.len
 obtain ⟨-, hc3, hc4⟩ := hrow2.1.len
 by_cases hl : ds1.length = ds2.length
 ·have hyes := fun h => decide_eq_true (lst_ext (l := ds1.map (·.p)) (m := ds2.map (·.p)) (by simpa using hl) h)
  have hno := fun (i : Nat) (h : (ds1.map (·.p)).getD i default ≠ (ds2.map (·.p)).getD i default) => decide_eq_false (p := ds1.map (·.p) = ds2.map (·.p)) (fun e => h (by rw [e]))
  generalize decide (ds1.map (·.p) = ds2.map (·.p)) = R at hyes hno ⊢
  have HY := hid hyes
  have HN := hid hno
  have HR1 := hid hrow1
  have HR2 := hid hrow2
  clear hyes hno hrow1 hrow2
  rw [← hl] at hc3
  have HL := hid hl
  rw [← hl] at HR2 ⊢
  clear hl
  obtain ⟨N, hN⟩ : ∃ N, ds1.length = N := ⟨_, rfl⟩
  have HN1 := hid hN
  rw [hN] at HR1 HR2 hc1 hc3 HL ⊢
  clear hN
  go_enter Tryz.func14, Tryz.ntmps14
  go_wp2_with fail
  go_loopg [5] N (fun gk i wr => ∃ k : Nat, k ≤ N ∧ i = .int .i64 k ∧ Hid (N - k = gk) ∧ Hid (∀ j, j < k → (ds1.map (·.p)).getD j default = (ds2.map (·.p)).getD j default) ∧ Hid (Below w.heap.size w wr))
  case atStart => exact ⟨0, Nat.zero_le _, rfl, hid rfl, hid (fun j h => absurd h (Nat.not_lt_zero _)), hid (Below.refl _ _)⟩
  case round =>
   obtain ⟨k, hk, rfl, HGK, HJ, HBW⟩ := hrel
   by_cases hlt : k < N
   ·obtain ⟨d1, hd1⟩ : ∃ d, ds1[k]? = some d := ⟨_, List.getElem?_eq_getElem (by rw [HN1.out]; exact hlt)⟩
    obtain ⟨d2, hd2⟩ : ∃ d, ds2[k]? = some d := ⟨_, List.getElem?_eq_getElem (by rw [← HL.out]; exact hlt)⟩
    obtain ⟨b1, o1, rfl, hb1, x0, x1, hok1, ha1, ha2⟩ := (HR1.out.below HBW.out).at hd1
    obtain ⟨b2, o2, rfl, hb2, y0, y1, hok2, ha3, ha4⟩ := (HR2.out.below HBW.out).at hd2
    have e1 := getD_of (at_pn hd1)
    have e2 := getD_of (at_pn hd2)
    have hno := HN.out k
    rw [e1, e2] at hno
    have hst := fun (h : d1.p = d2.p) => step_lt (P := fun j => (ds1.map (·.p)).getD j default = (ds2.map (·.p)).getD j default) HJ.out (by rw [e1, e2]; exact h)
    have f1 := hok1.2
    have f2 := hok2.2
    have hiv1 := hok1.1
    have hiv2 := hok2.1
    clear e1 e2 hd1 hd2 hok1 hok2
    have hpd := pn_eq_dec d1 d2
    obtain ⟨p1, l1, B1, e1⟩ := d1
    obtain ⟨p2, l2, B2, e2⟩ := d2
    unfold Pm.Fits at f1 f2
    dsimp only at x0 x1 y0 y1 hiv1 hiv2 ha1 ha2 ha3 ha4 hno hst f1 f2 hpd
    by_cases htm : p1 = p2
    ·subst htm
     have htb : (p1 != p1) = false := by simp
     by_cases hal : l1.length = l2.length
     ·have HNO := hid (fun m (h : (l1.map (·.e)).getD m default ≠ (l2.map (·.e)).getD m default) => hno (fun e => h (by injection e with _ e; rw [e])))
      have HST := hid (fun h => hst (by simpa [Pm.p] using lst_ext (l := l1.map (·.e)) (m := l2.map (·.e)) (by simpa using hal) h))
      have HI1 := hid (fun W (h : Below w.heap.size wr W) => hiv1.below h)
      have HI2 := hid (fun W (h : Below w.heap.size wr W) => hiv2.below h)
      have HXX := hid (fun W (h : Below w.heap.size wr W) => (h.cell (p := ⟨b1, o1 + k * 2 + 1, none⟩) hb1).trans x1)
      have HYY := hid (fun W (h : Below w.heap.size wr W) => (h.cell (p := ⟨b2, o2 + k * 2 + 1, none⟩) hb2).trans y1)
      have HAL := hid hal
      clear hno hst hiv1 hiv2 hpd
      rw [← hal] at ha3
      have hlen2 : l2.length = l1.length := hal.symm
      have hll : ((l1.length : Int) != (l1.length : Int)) = false := by simp
      rw [hlen2] at y1 HI2 HYY
      clear hal hlen2
      go_wp2_with fail
      go_quiet (fail)
      go_wp2_with fail
      clear x0 x1 y0 y1
      obtain ⟨wx, hwx⟩ : ∃ wx, wx = wr := ⟨_, rfl⟩
      subst hwx
      go_loopg [6] l1.length (fun gm i wr2 => ∃ m : Nat, m ≤ l1.length ∧ i = .int .i64 m ∧ Hid (l1.length - m = gm) ∧ Hid (∀ j, j < m → (l1.map (·.e)).getD j default = (l2.map (·.e)).getD j default) ∧ Hid (Below w.heap.size wx wr2))
      case atStart => exact ⟨0, Nat.zero_le _, rfl, hid rfl, hid (fun j h => absurd h (Nat.not_lt_zero _)), hid (drewN_low _ _ _)⟩
      case round =>
       obtain ⟨m, hm, rfl, HGM, HI, HB2⟩ := hrel
       have x1' := HXX.out _ HB2.out
       by_cases hml : m < l1.length
       ·obtain ⟨v1, hv1⟩ : ∃ x, l1[m]? = some x := ⟨_, List.getElem?_eq_getElem hml⟩
        obtain ⟨v2, hv2⟩ : ∃ x, l2[m]? = some x := ⟨_, List.getElem?_eq_getElem (by rw [← HAL.out]; exact hml)⟩
        obtain ⟨q1, r1, rfl, hq1, s0, s1, hk1, hl1, hl2⟩ := (HI1.out _ HB2.out).at hv1
        obtain ⟨q2, r2, rfl, hq2, t0, t1, hk2, hl3, hl4⟩ := (HI2.out _ HB2.out).at hv2
        have g1 := hk1.2
        have g2 := hk2.2
        unfold Em.Fits at g1 g2
        have z2 := (HBW.out.trans HB2.out).size
        have hall : ∀ W, Below w.heap.size wr W → W.cell? ⟨b1, o1 + k * 2 + 1, none⟩ = some (.slice (some ⟨q1, r1, none⟩) l1.length e1) ∧ W.cell? ⟨b2, o2 + k * 2 + 1, none⟩ = some (.slice (some ⟨q2, r2, none⟩) l1.length e2) ∧
          W.cell? ⟨q1, r1 + m * 2, none⟩ = some (.int .i64 v1.p) ∧ W.cell? ⟨q1, r1 + m * 2 + 1, none⟩ = some (.slice v1.A v1.args.length v1.c) ∧ W.cell? ⟨q2, r2 + m * 2, none⟩ = some (.int .i64 v2.p) ∧ W.cell? ⟨q2, r2 + m * 2 + 1, none⟩ = some (.slice v2.A v2.args.length v2.c) := fun W h =>
         ⟨HXX.out _ (HB2.out.trans h), HYY.out _ (HB2.out.trans h), (h.cell (p := ⟨q1, r1 + m * 2, none⟩) hq1).trans s0, (h.cell (p := ⟨q1, r1 + m * 2 + 1, none⟩) hq1).trans s1, (h.cell (p := ⟨q2, r2 + m * 2, none⟩) hq2).trans t0, (h.cell (p := ⟨q2, r2 + m * 2 + 1, none⟩) hq2).trans t1⟩
        have HALL := hid hall
        have HEV := hid (fun W (h : Below w.heap.size wr W) => revsame_any v1 v2 W ((hk1.below h).more (Nat.le_trans z2 h.size)) ((hk2.below h).more (Nat.le_trans z2 h.size)))
        have E1 := getD_of (at_ev hv1)
        have E2 := getD_of (at_ev hv2)
        have HE := hid (And.intro E1 E2)
        clear hall hk1 hk2 hv1 hv2 E1 E2
        by_cases hp : v1.e = v2.e
        ·have HJ2 := hid (step_lt (P := fun j => (l1.map (·.e)).getD j default = (l2.map (·.e)).getD j default) HI.out (by rw [HE.out.1, HE.out.2]; exact hp))
         rw [decide_eq_true hp] at HEV
         clear hp
         go_wp2_with fail
         go_region_held3 (fun W => W.cell? ⟨b1, o1 + k * 2 + 1, none⟩ = some (.slice (some ⟨q1, r1, none⟩) l1.length e1) ∧ W.cell? ⟨b2, o2 + k * 2 + 1, none⟩ = some (.slice (some ⟨q2, r2, none⟩) l1.length e2) ∧
          W.cell? ⟨q1, r1 + m * 2, none⟩ = some (.int .i64 v1.p) ∧ W.cell? ⟨q1, r1 + m * 2 + 1, none⟩ = some (.slice v1.A v1.args.length v1.c) ∧ W.cell? ⟨q2, r2 + m * 2, none⟩ = some (.int .i64 v2.p) ∧ W.cell? ⟨q2, r2 + m * 2 + 1, none⟩ = some (.slice v2.A v2.args.length v2.c))
          (first | exact HALL.out _ (Below.refl _ _) | exact HALL.out _ (Below.refl _ _).drew | exact HALL.out _ b7)
          (first | (go_at_call 35; (with_reducible refine (HEV.out _ (Below.refl _ _).drew).mono ?_); rintro e w7 ⟨rfl, hb7⟩; have b7 : Below w.heap.size wr w7 := (Below.refl _ _).drew.trans (hb7.mono z2)))
         have HB7 := hid (HB2.out.trans b7)
         clear b7 hb7 s0 s1 t0 t1 x1'
         go_wp2_with fail
         go_roundg (l1.length - (m + 1))
         case measure => have := HGM.out; omega
         case rel => exact ⟨m + 1, by omega, by go_num, hid rfl, HJ2, HB7⟩
        ·have HR := hid (HNO.out m (by rw [HE.out.1, HE.out.2]; exact hp))
         rw [decide_eq_false hp] at HEV
         clear hp
         go_wp2_with fail
         go_region_held3 (fun W => W.cell? ⟨b1, o1 + k * 2 + 1, none⟩ = some (.slice (some ⟨q1, r1, none⟩) l1.length e1) ∧ W.cell? ⟨b2, o2 + k * 2 + 1, none⟩ = some (.slice (some ⟨q2, r2, none⟩) l1.length e2) ∧
          W.cell? ⟨q1, r1 + m * 2, none⟩ = some (.int .i64 v1.p) ∧ W.cell? ⟨q1, r1 + m * 2 + 1, none⟩ = some (.slice v1.A v1.args.length v1.c) ∧ W.cell? ⟨q2, r2 + m * 2, none⟩ = some (.int .i64 v2.p) ∧ W.cell? ⟨q2, r2 + m * 2 + 1, none⟩ = some (.slice v2.A v2.args.length v2.c))
          (first | exact HALL.out _ (Below.refl _ _) | exact HALL.out _ (Below.refl _ _).drew | exact HALL.out _ b7)
          (first | (go_at_call 35; (with_reducible refine (HEV.out _ (Below.refl _ _).drew).mono ?_); rintro e w7 ⟨rfl, hb7⟩; have b7 : Below w.heap.size wr w7 := (Below.refl _ _).drew.trans (hb7.mono z2)))
         have HB7 := hid ((HBW.out.trans HB2.out).trans b7)
         clear b7 hb7 s0 s1 t0 t1 x1'
         go_wp2_with fail
         go_ret
         exact ⟨by rw [HR.out]; rfl, HB7.out⟩
       ·obtain rfl : m = l1.length := by omega
        have HJ2 := hid (HST.out (fun i hi => HI.out i (by rw [List.length_map] at hi; exact hi)))
        go_wp2_with fail
        go_roundg (N - (k + 1))
        case measure => have := HGK.out; omega
        case rel => exact ⟨k + 1, by omega, by go_num, hid rfl, HJ2, hid (HBW.out.trans HB2.out)⟩
     ·have hR := hno (fun h => hal (by injection h with _ h; have := congrArg List.length h; simpa using this))
      have hne : ((l1.length : Int) != (l2.length : Int)) = true := bne_iff_ne.2 (by omega)
      have HR := hid hR
      clear hno hst hR hiv1 hiv2 hpd
      go_wp2_with fail
      go_quiet (fail)
      go_wp2_with fail
      go_ret
      exact ⟨by rw [HR.out]; rfl, HBW.out.trans (drewN_low _ _ _)⟩
    ·have hR := hno (fun h => htm (by injection h))
     have hne : (p1 != p2) = true := bne_iff_ne.2 htm
     have HR := hid hR
     clear hno hst hR hiv1 hiv2 htm hpd
     go_wp2_with fail
     go_quiet (fail)
     go_wp2_with fail
     go_ret
     exact ⟨by rw [HR.out]; rfl, HBW.out.trans (drewN_low _ _ _)⟩
   ·obtain rfl : k = N := by omega
    have HR := hid (HY.out (fun i hi => HJ.out i (by rw [List.length_map, HN1.out] at hi; exact hi)))
    go_wp2_with fail
    go_ret
    exact ⟨by rw [HR.out]; rfl, HBW.out⟩
 ·have hlb : ((ds1.length : Int) != (ds2.length : Int)) = true := bne_iff_ne.2 (by omega)
  have hf : decide (ds1.map (·.p) = ds2.map (·.p)) = false := decide_eq_false (fun e => hl (by have := congrArg List.length e; simpa using this))
  rw [hf]
  clear hf hrow1 hrow2
  go_enter Tryz.func14, Tryz.ntmps14
  go_wp2_with fail
  go_ret
  exact ⟨rfl, Below.refl _ _⟩
open Go.RowKit Go.ChangeShapes Go.WideShapes
set_option linter.unusedVariables false
def flatJ : List (Int × Int) → List Value
 | [] => []
 | a :: l => .int .i64 a.1 :: .int .i64 a.2 :: flatJ l
structure GAt (W : World) (B : Nat) (g : Gp) (SA : Option Addr) (Sc : Nat) (es : List Pd) (PA : Option Addr) (Pc : Nat) (ps : List Pm) (RA : Option Addr) (Rc : Nat) : Prop where
 sig : PredRow W B (.slice SA es.length Sc) es
 sigp : es.map (·.p) = g.sig
 pts : TrRow W B (.slice PA ps.length Pc) ps
 ptsp : ps.map (·.p) = g.pts
 rej : ERow W B (.slice RA g.rej.length Rc) g.rej.length (flatJ g.rej)
section
variable {W W' : World} {B B' : Nat} {g : Gp} {SA : Option Addr} {Sc : Nat} {es : List Pd} {PA : Option Addr} {Pc : Nat} {ps : List Pm} {RA : Option Addr} {Rc : Nat}
theorem GAt.below (h : GAt W B g SA Sc es PA Pc ps RA Rc) (hb : Below B W W') : GAt W' B g SA Sc es PA Pc ps RA Rc := ⟨h.sig.below hb, h.sigp, h.pts.below hb, h.ptsp, h.rej.below hb⟩
end
theorem getU_len {sig : List Pr} {xs : List Int} (h : (getU sig xs).2 = 0) : 0 < (getU sig xs).1.length ∧ (getU sig xs).1.length ≤ 1024 := by
 unfold getU at h ⊢
 by_cases h1 : checkP sig ≠ 0
 ·rw [if_pos h1] at h; exact absurd h h1
 ·rw [if_neg h1] at h ⊢
  by_cases h2 : endU sig xs (readU sig xs) ≠ 0
  ·rw [if_pos h2] at h; exact absurd h h2
  ·rw [if_neg h2] at h ⊢
   have h3 : endU sig xs (readU sig xs) = 0 := by simpa using h2
   unfold endU at h3
   by_cases e1 : (readU sig xs).2.2.2 ≠ 0
   ·rw [if_pos e1] at h3; exact absurd h3 e1
   ·rw [if_neg e1] at h3
    by_cases e2 : (readU sig xs).2.2.1 < xs.length
    ·rw [if_pos e2] at h3; omega
    ·rw [if_neg e2] at h3
     unfold wayU at h3
     by_cases e3 : 4096 < xs.length
     ·rw [if_pos e3] at h3; omega
     ·rw [if_neg e3] at h3
      by_cases e4 : putB sig ((readU sig xs).1.map bareP) = (xs, 0)
      ·have hq := checkB_zero (putB_ok (sig := sig) (l := (readU sig xs).1.map bareP) (by rw [e4])).1
       rw [List.length_map] at hq
       exact ⟨hq.1, hq.2.2⟩
      ·rw [if_neg e4] at h3; omega
theorem OwnP.row {w : World} {n : Nat} {A : Option Addr} {c : Nat} {es : List Pd} (h : OwnP w n (.slice A es.length c) es) : PredRow w w.heap.size (.slice A es.length c) es := h.fresh.1
def sameG (a b : Gp) : Bool := decide (a.sk = b.sk ∧ a.fr = b.fr ∧ a.rej = b.rej ∧ a.sig = b.sig ∧ a.pts = b.pts)
abbrev GW (g : Gp) (SA : Option Addr) (Sc : Nat) (es : List Pd) (PA : Option Addr) (Pc : Nat) (ps : List Pm) (RA : Option Addr) (Rc : Nat) : Value :=
 .agg #[.slice SA es.length Sc, .slice PA ps.length Pc, .int .i64 g.sk, .int .i64 g.fr, .slice RA g.rej.length Rc]
theorem flatJ_length : ∀ l : List (Int × Int), (flatJ l).length = l.length * 2
 | [] => rfl
 | a :: l => by simp only [flatJ, List.length_cons, flatJ_length l]; omega
theorem flatJ_append : ∀ l m : List (Int × Int), flatJ (l ++ m) = flatJ l ++ flatJ m
 | [], m => rfl
 | a :: l, m => by simp only [List.cons_append, flatJ, flatJ_append l m]
theorem oneJ : ∀ (l : List (Int × Int)), ∀ u ∈ flatJ l, u.oneCell' = true
 | [], u, h => by simp [flatJ] at h
 | d :: l, u, h => by
  rw [flatJ] at h
  rcases List.mem_cons.1 h with rfl | h
  ·rfl
  ·rcases List.mem_cons.1 h with rfl | h
   ·rfl
   ·exact oneJ l u h
theorem flatJ_at : ∀ (l : List (Int × Int)) (i : Nat) (d : Int × Int), l[i]? = some d → (flatJ l)[i * 2]? = some (.int .i64 d.1) ∧ (flatJ l)[i * 2 + 1]? = some (.int .i64 d.2)
 | [], i, d, h => by simp at h
 | a :: l, 0, d, h => by
  simp only [List.getElem?_cons_zero, Option.some.injEq] at h
  subst h
  exact ⟨rfl, rfl⟩
 | a :: l, i + 1, d, h => by
  rw [List.getElem?_cons_succ] at h
  obtain ⟨h1, h2⟩ := flatJ_at l i d h
  rw [flatJ, show (i + 1) * 2 = i * 2 + 2 by omega]
  exact ⟨h1, h2⟩
theorem rj_eq (w : World) (a b a' b' : Int) : (Op.equal 38 (.agg #[.int .i64 a, .int .i64 b]) (.agg #[.int .i64 a', .int .i64 b'])).run Tryz.prog w = .ok (a == a' && b == b') w := by
 unfold Op.equal
 rw [show Op.maxDepth = 9998 + 1 + 1 from rfl, run_equalIn_struct (P := Tryz.prog) w _ 38 _ _ (by kernel_rfl) (by kernel_rfl)]
 simp [Program.fieldsOf, Tryz.underlying38, Op.eqFields]
 rw [part_num w 3 .i64 .i64 _ 0 a Tryz.underlying3 rfl, Result.andThen_ok, part_num w 3 .i64 .i64 _ 0 a' Tryz.underlying3 rfl, Result.andThen_ok, show (9999 : Nat) = 9998 + 1 from rfl, run_equalIn_int (P := Tryz.prog) w 9998 3 .i64 .i64 a a' Tryz.underlying3, Result.andThen_ok]
 cases h : a == a' with
 | false => simp
 | true =>
  simp
  rw [part_num w 32 .i64 .i64 _ 1 b Tryz.underlying32 rfl, Result.andThen_ok, part_num w 32 .i64 .i64 _ 1 b' Tryz.underlying32 rfl, Result.andThen_ok, show (9999 : Nat) = 9998 + 1 from rfl, run_equalIn_int (P := Tryz.prog) w 9998 32 .i64 .i64 b b' Tryz.underlying32, Result.andThen_ok]
  cases b == b' <;> simp
theorem run_neq_rj (w : World) (x y : Int × Int) :
  (binOp .neq 38 (.agg #[.int .i64 x.1, .int .i64 x.2]) (.agg #[.int .i64 y.1, .int .i64 y.2])).run Tryz.prog w = .ok (.bool (!decide (x = y))) w := by
 have h := rj_eq w x.1 x.2 y.1 y.2
 rw [show (x.1 == y.1 && x.2 == y.2) = decide (x = y) by
  obtain ⟨a, b⟩ := x
  obtain ⟨c, d⟩ := y
  by_cases h1 : a = c <;> by_cases h2 : b = d <;> simp [h1, h2]] at h
 simp only [binOp, Sem.run_bind, h, Result.andThen_ok, Sem.run_pure]
section
variable (g1 : Gp) (SA1 : Option Addr) (Sc1 : Nat) (es1 : List Pd) (PA1 : Option Addr) (Pc1 : Nat) (ps1 : List Pm) (RA1 : Option Addr) (Rc1 : Nat) (g2 : Gp) (SA2 : Option Addr) (Sc2 : Nat) (es2 : List Pd) (PA2 : Option Addr) (Pc2 : Nat) (ps2 : List Pm) (RA2 : Option Addr) (Rc2 : Nat) (w : World)
theorem rgsame_any (hg1 : GAt w w.heap.size g1 SA1 Sc1 es1 PA1 Pc1 ps1 RA1 Rc1) (hg2 : GAt w w.heap.size g2 SA2 Sc2 es2 PA2 Pc2 ps2 RA2 Rc2) :
  Calls Tryz.prog 11 #[GW g1 SA1 Sc1 es1 PA1 Pc1 ps1 RA1 Rc1, GW g2 SA2 Sc2 es2 PA2 Pc2 ps2 RA2 Rc2] w fun e w' => e = .returned (.bool (sameG g1 g2)) ∧ Below w.heap.size w w' := by
 obtain ⟨N, hN⟩ : ∃ N, w.heap.size = N := ⟨_, rfl⟩
 obtain ⟨u0, hu0⟩ : ∃ u, w.alloc (.cells #[.slice SA1 es1.length Sc1, .slice PA1 ps1.length Pc1, .int .i64 g1.sk, .int .i64 g1.fr, .slice RA1 g1.rej.length Rc1] 28) = u := ⟨_, rfl⟩
 have s0 : u0.heap.size = N + 1 := by rw [← hu0, World.size_alloc, hN]
 have b0 : Below N w u0 := by rw [← hu0]; exact (Below.refl _ _).alloc (by omega) _
 have k0 : Held u0 N 28 #[.slice SA1 es1.length Sc1, .slice PA1 ps1.length Pc1, .int .i64 g1.sk, .int .i64 g1.fr, .slice RA1 g1.rej.length Rc1] := by rw [← hu0, ← hN]; exact heap_alloc_new w _
 obtain ⟨u1, hu1⟩ : ∃ u, u0.alloc (.cells #[.slice SA2 es2.length Sc2, .slice PA2 ps2.length Pc2, .int .i64 g2.sk, .int .i64 g2.fr, .slice RA2 g2.rej.length Rc2] 28) = u := ⟨_, rfl⟩
 have s1 : u1.heap.size = N + 1 + 1 := by rw [← hu1, World.size_alloc, s0]
 have b1 : Below (N + 1) u0 u1 := by rw [← hu1]; exact (Below.refl _ _).alloc (by omega) _
 have h1 : Held u1 (N + 1) 28 #[.slice SA2 es2.length Sc2, .slice PA2 ps2.length Pc2, .int .i64 g2.sk, .int .i64 g2.fr, .slice RA2 g2.rej.length Rc2] := by rw [← hu1, ← s0]; exact heap_alloc_new u0 _
 have h0 := k0.below b1 (by omega)
 have hbb : Below N w u1 := b0.trans (b1.mono (by omega))
 rw [hN] at hg1 hg2 ⊢
 obtain ⟨x0, x1, x2, x3, x4⟩ := cC5 h0
 obtain ⟨y0, y1, y2, y3, y4⟩ := cC5 h1
 simp at x0 x1 x2 x3 x4 y0 y1 y2 y3 y4
 have HG1 := hid (hg1.below hbb)
 have HG2 := hid (hg2.below hbb)
 have HB := hid hbb
 have HH := hid (And.intro h0 h1)
 obtain ⟨-, hr1, hr2⟩ := hg1.rej.len
 obtain ⟨-, hq1, hq2⟩ := hg2.rej.len
 obtain ⟨-, ha1, ha2⟩ := hg1.pts.1.len
 obtain ⟨-, hb1, hb2⟩ := hg2.pts.1.len
 clear hg1 hg2 hbb b0 b1 k0 h0 h1
 obtain ⟨RR, hRR⟩ : ∃ RR, sameG g1 g2 = RR := ⟨_, rfl⟩
 rw [hRR]
 have HRR := hid hRR
 clear hRR
 by_cases c1 : g1.sk = g2.sk
 ·have d1 : (g1.sk != g2.sk) = false := bne_eq_false_iff_eq.2 c1
  have HC1 := hid c1
  clear c1
  by_cases c2 : g1.fr = g2.fr
  ·have d2 : (g1.fr != g2.fr) = false := bne_eq_false_iff_eq.2 c2
   have HC2 := hid c2
   clear c2
   by_cases c3 : g1.rej.length = g2.rej.length
   ·have d3 : ((g1.rej.length : Int) != (g2.rej.length : Int)) = false := bne_eq_false_iff_eq.2 (by omega)
    have HC3 := hid c3
    clear c3
    go_enter Tryz.func11, Tryz.ntmps11
    go_wp2_with fail
    go_loopg [5] g1.rej.length (fun gk i wr => ∃ k : Nat, i = .int .i64 k ∧ k ≤ g1.rej.length ∧ Hid (g1.rej.length - k = gk) ∧ Hid (∀ j, j < k → g1.rej.getD j default = g2.rej.getD j default) ∧ Hid (Below u1.heap.size u1 wr))
    case atStart => exact ⟨0, rfl, Nat.zero_le _, hid rfl, hid (fun j hj => absurd hj (Nat.not_lt_zero _)), hid (Below.refl _ _)⟩
    case round =>
     obtain ⟨k, rfl, hk, HGK, HALL, HBR⟩ := hrel
     have h0 := HH.out.1.below HBR.out (by omega)
     have h1 := HH.out.2.below HBR.out (by omega)
     clear x0 x1 x2 x3 x4 y0 y1 y2 y3 y4
     obtain ⟨x0, x1, x2, x3, x4⟩ := cC5 h0
     obtain ⟨y0, y1, y2, y3, y4⟩ := cC5 h1
     simp at x0 x1 x2 x3 x4 y0 y1 y2 y3 y4
     have hz := HBR.out.size
     clear h0 h1
     by_cases hlt : k < g1.rej.length
     ·obtain ⟨x, hx⟩ : ∃ x, g1.rej[k]? = some x := ⟨_, List.getElem?_eq_getElem hlt⟩
      obtain ⟨y, hy⟩ : ∃ y, g2.rej[k]? = some y := ⟨_, List.getElem?_eq_getElem (by rw [← HC3.out]; exact hlt)⟩
      obtain ⟨q, r, rfl, hql, hqc⟩ := (HG1.out.rej.below (HBR.out.mono (by omega))).block (by omega)
      obtain ⟨q', r', rfl, hql', hqc'⟩ := (HG2.out.rej.below (HBR.out.mono (by omega))).block (by have := HC3.out; omega)
      obtain ⟨m0, m1⟩ := flatJ_at _ _ _ hx
      obtain ⟨n0, n1⟩ := flatJ_at _ _ _ hy
      have p0 := hqc _ _ m0
      have p1 := hqc _ _ m1
      have t0 := hqc' _ _ n0
      have t1 := hqc' _ _ n1
      rw [← Nat.add_assoc] at p1 t1
      have hne := fun W => run_neq_rj W x y
      have e1 : g1.rej.getD k default = x := by simp [List.getD, hx]
      have e2 : g2.rej.getD k default = y := by simp [List.getD, hy]
      have hlt2 : (k : Int) < (g2.rej.length : Int) := by have := HC3.out; omega
      have hlt3 : k < g2.rej.length := by have := HC3.out; omega
      clear m0 m1 n0 n1 hqc hqc'
      by_cases he : x = y
      ·have HI3 := hid (show ∀ j, j < k + 1 → g1.rej.getD j default = g2.rej.getD j default from fun j hj => by
        by_cases hjk : j = k
        ·rw [hjk, e1, e2, he]
        ·exact HALL.out j (by omega))
       rw [decide_eq_true he] at hne
       clear he e1 e2 hx hy
       go_wp2_with fail
       go_quiet (fail)
       go_wp2_with fail
       go_roundg (g1.rej.length - (k + 1))
       case measure => have := HGK.out; omega
       case rel => exact ⟨k + 1, by go_num, by omega, hid rfl, HI3, hid (HBR.out.trans (drewN_low _ _ _))⟩
      ·have HR := hid (show RR = false by rw [← HRR.out]; exact decide_eq_false (fun h => he (by rw [← e1, ← e2, h.2.2.1])))
       rw [decide_eq_false he] at hne
       clear he e1 e2 hx hy
       go_wp2_with fail
       go_quiet (fail)
       go_wp2_with fail
       go_ret
       exact ⟨by rw [HR.out]; rfl, HB.out.trans ((HBR.out.trans (drewN_low _ _ _)).mono (by omega))⟩
     ·have hrej : g1.rej = g2.rej := lst_ext HC3.out (fun j hj => HALL.out j (by omega))
      have HS1 := hid (rsigsame_any SA1 Sc1 es1 SA2 Sc2 es2 wr ((HG1.out.sig.below (HBR.out.mono (by omega))).more (by omega)) ((HG2.out.sig.below (HBR.out.mono (by omega))).more (by omega)))
      have HS2 := hid (fun W (h : Below wr.heap.size wr W) => rtsame_any PA1 Pc1 ps1 PA2 Pc2 ps2 W ((HG1.out.pts.below ((HBR.out.mono (by omega)).trans (h.mono (by omega)))).more (by have := h.size; omega)) ((HG2.out.pts.below ((HBR.out.mono (by omega)).trans (h.mono (by omega)))).more (by have := h.size; omega)))
      rw [HG1.out.sigp, HG2.out.sigp] at HS1
      rw [HG1.out.ptsp, HG2.out.ptsp] at HS2
      have HKK := hid (fun W (h : Below wr.heap.size wr W) => And.intro (HH.out.1.below (HBR.out.trans (h.mono hz)) (by omega)) (HH.out.2.below (HBR.out.trans (h.mono hz)) (by omega)))
      have HRE := hid hrej
      have hkn : k = g1.rej.length := by omega
      subst hkn
      clear hrej
      by_cases hs : g1.sig = g2.sig
      ·rw [decide_eq_true hs] at HS1
       have HSS := hid hs
       clear hs
       go_wp2_with fail
       refine HS1.out.mono ?_
       rintro e w5 ⟨rfl, hb5⟩
       obtain ⟨h0, h1⟩ := HKK.out w5 hb5
       clear x0 x1 x2 x3 x4 y0 y1 y2 y3 y4
       obtain ⟨x0, x1, x2, x3, x4⟩ := cC5 h0
       obtain ⟨y0, y1, y2, y3, y4⟩ := cC5 h1
       simp at x0 x1 x2 x3 x4 y0 y1 y2 y3 y4
       have hz5 := hb5.size
       have HB5 := hid (HBR.out.trans (hb5.mono hz))
       have HS3 := hid (HS2.out w5 hb5)
       clear h0 h1 hb5
       go_wp2_with fail
       refine HS3.out.mono ?_
       rintro e w6 ⟨rfl, hb6⟩
       have HB6 := hid (HB.out.trans ((HB5.out.trans (hb6.mono (by omega))).mono (by omega)))
       have hR : RR = decide (g1.pts = g2.pts) := by
        rw [← HRR.out]
        unfold sameG
        simp only [HC1.out, HC2.out, HRE.out, HSS.out, true_and]
       have HR := hid hR
       clear hb6 hR
       go_wp2_with fail
       go_ret
       exact ⟨by rw [HR.out]; rfl, HB6.out⟩
      ·rw [decide_eq_false hs] at HS1
       have HR := hid (show RR = false by rw [← HRR.out]; exact decide_eq_false (fun h => hs h.2.2.2.1))
       clear hs
       go_wp2_with fail
       refine HS1.out.mono ?_
       rintro e w5 ⟨rfl, hb5⟩
       have HB5 := hid (HB.out.trans ((HBR.out.trans (hb5.mono hz)).mono (by omega)))
       clear hb5
       go_wp2_with fail
       go_ret
       exact ⟨by rw [HR.out]; rfl, HB5.out⟩
   ·have d3 : ((g1.rej.length : Int) != (g2.rej.length : Int)) = true := bne_iff_ne.2 (by omega)
    have HR := hid (show RR = false by rw [← HRR.out]; exact decide_eq_false (fun h => c3 (by rw [h.2.2.1])))
    clear c3
    go_enter Tryz.func11, Tryz.ntmps11
    go_wp2_with fail
    go_ret
    exact ⟨by rw [HR.out]; rfl, HB.out⟩
  ·have d2 : (g1.fr != g2.fr) = true := bne_iff_ne.2 c2
   have HR := hid (show RR = false by rw [← HRR.out]; exact decide_eq_false (fun h => c2 h.2.1))
   clear c2
   go_enter Tryz.func11, Tryz.ntmps11
   go_wp2_with fail
   go_ret
   exact ⟨by rw [HR.out]; rfl, HB.out⟩
 ·have d1 : (g1.sk != g2.sk) = true := bne_iff_ne.2 c1
  have HR := hid (show RR = false by rw [← HRR.out]; exact decide_eq_false (fun h => c1 h.1))
  clear c1
  go_enter Tryz.func11, Tryz.ntmps11
  go_wp2_with fail
  go_ret
  exact ⟨by rw [HR.out]; rfl, HB.out⟩
end
structure Jm where
 s : Sj
 A : Option Addr
 c : Nat
def flatS5 : List Jm → List Value
 | [] => []
 | a :: l => .int .i64 a.s.frm :: .int .i64 a.s.n :: .bool a.s.isf :: .int .i64 a.s.kind :: .slice a.A a.s.pay.length a.c :: flatS5 l
theorem flatS5_at : ∀ (l : List Jm) (i : Nat) (d : Jm), l[i]? = some d → (flatS5 l)[i * 5]? = some (.int .i64 d.s.frm) ∧ (flatS5 l)[i * 5 + 1]? = some (.int .i64 d.s.n) ∧ (flatS5 l)[i * 5 + 2]? = some (.bool d.s.isf) ∧ (flatS5 l)[i * 5 + 3]? = some (.int .i64 d.s.kind) ∧ (flatS5 l)[i * 5 + 4]? = some (.slice d.A d.s.pay.length d.c)
 | [], i, d, h => by simp at h
 | a :: l, 0, d, h => by
  simp only [List.getElem?_cons_zero, Option.some.injEq] at h
  subst h
  exact ⟨rfl, rfl, rfl, rfl, rfl⟩
 | a :: l, i + 1, d, h => by
  rw [List.getElem?_cons_succ] at h
  have h1 := flatS5_at l i d h
  rw [flatS5, show (i + 1) * 5 = i * 5 + 5 by omega]
  exact h1
def JRow (W : World) (B : Nat) (v : Value) (ls : List Jm) : Prop := ERow W B v ls.length (flatS5 ls) ∧ ∀ x ∈ ls, Row W B (.slice x.A x.s.pay.length x.c) x.s.pay ∧ (∀ y ∈ x.s.pay, 0 ≤ y ∧ y < 256) ∧ x.s.pay.length ≤ 1000000 ∧ -1099511627776 ≤ x.s.n ∧ x.s.n ≤ 1099511627776
theorem JRow.at {W : World} {B n c : Nat} {A : Option Addr} {ls : List Jm} (h : JRow W B (.slice A n c) ls) {i : Nat} {d : Jm} (hd : ls[i]? = some d) : ∃ b o, A = some ⟨b, o, none⟩ ∧ b < B ∧
  W.cell? ⟨b, o + i * 5, none⟩ = some (.int .i64 d.s.frm) ∧ W.cell? ⟨b, o + i * 5 + 1, none⟩ = some (.int .i64 d.s.n) ∧ W.cell? ⟨b, o + i * 5 + 2, none⟩ = some (.bool d.s.isf) ∧ W.cell? ⟨b, o + i * 5 + 3, none⟩ = some (.int .i64 d.s.kind) ∧ W.cell? ⟨b, o + i * 5 + 4, none⟩ = some (.slice d.A d.s.pay.length d.c) := by
 have hl := (List.getElem?_eq_some_iff.1 hd).1
 obtain ⟨b, o, e, hb, hc⟩ := h.1.block (by omega)
 obtain ⟨m0, m1, m2, m3, m4⟩ := flatS5_at _ _ _ hd
 refine ⟨b, o, e, hb, hc _ _ m0, ?_, ?_, ?_, ?_⟩
 ·rw [Nat.add_assoc]; exact hc _ _ m1
 ·rw [Nat.add_assoc]; exact hc _ _ m2
 ·rw [Nat.add_assoc]; exact hc _ _ m3
 ·rw [Nat.add_assoc]; exact hc _ _ m4
structure Bd (P : Nat) (g : Gp) : Prop where
 pts : g.pts.length ≤ 100000000 + 1024 * P
 sk : -1152921504606846976 - 1099511627776 * (P : Int) ≤ g.sk ∧ g.sk ≤ 1152921504606846976 + 1099511627776 * (P : Int)
 fr : -1152921504606846976 ≤ g.fr ∧ g.fr ≤ 1152921504606846976 + (P : Int)
 rej : g.rej.length ≤ 100000000 + P
theorem frameG_pts (g : Gp) (k : Int) (p : List Int) : (frameG g k p).1.pts.length ≤ g.pts.length + 1024 := by
 unfold frameG
 split
 ·split
  ·exact Nat.le_add_right _ _
  ·split <;> exact Nat.le_add_right _ _
 ·split
  ·exact Nat.le_add_right _ _
  ·split
   ·exact Nat.le_add_right _ _
   ·split
    ·exact Nat.le_add_right _ _
    ·rename_i h
     split
     ·exact Nat.le_add_right _ _
     ·have := (getU_len (sig := g.sig) (xs := p) (by simpa using h)).2
      simp only [List.length_append]
      omega
theorem Bd.step {P : Nat} {g : Gp} {s : Sj} (h : Bd P g) (h1 : -1099511627776 ≤ s.n) (h2 : s.n ≤ 1099511627776) : Bd (P + 1) (takeS g s) := by
 have hp := frameG_pts g s.kind s.pay
 obtain ⟨a, b, c, d⟩ := h
 unfold takeS
 split
 ·exact ⟨by simp only; omega, by simp only; omega, by simp only; omega, by simp only; omega⟩
 ·split
  ·exact ⟨by simp only; omega, by simp only; omega, by simp only; omega, by simp only [List.length_append, List.length_cons, List.length_nil]; omega⟩
  ·exact ⟨by simp only; omega, by simp only; omega, by simp only; omega, by simp only; omega⟩
theorem Bd.take {g : Gp} {l : List Sj} (h : Bd 0 g) (hl : ∀ s ∈ l, -1099511627776 ≤ s.n ∧ s.n ≤ 1099511627776) : ∀ k, k ≤ l.length → Bd k (takeL g (l.take k))
 | 0, _ => h
 | k + 1, hk => by
  have hs := List.getElem?_eq_getElem (show k < l.length by omega)
  rw [takeL_succ hs]
  have hm := hl _ (List.getElem_mem (show k < l.length by omega))
  exact (Bd.take h hl k (by omega)).step hm.1 hm.2
theorem Tryz.infoReject : (Tryz.prog.info? 38).map (fun i => (i.zero, i.size, i.bytes)) = some (some (.agg #[.int .i64 0, .int .i64 0]), 2, 16) := by kernel_rfl
section
variable {S : Nat → Prop} {w wr : World} {N n k : Nat} {g gq : Gp} {l : List Sj} {s : Sj} {SA : Option Addr} {Sc : Nat} {es : List Pd} {PA : Option Addr} {Pc : Nat} {ps : List Pm} {RA : Option Addr} {Rc : Nat}
theorem held_drew {b : Nat} {t : TypeId} {cs : Array Value} (h : Held w b t cs) : Held w.drew b t cs := h.below (Below.refl _ _).drew h.lt
end
section
variable {w w' w1 : World} {r : Option Nat} {n m g sz k : Nat} {u v : Value} {us : List Value} {f e : TypeId}
theorem OwnP.nott {es : List Pd} (h : OwnP w n u es) (h1 : NotT w r 3) (h2 : NotT w r 58) (hg : w.grownBy w' r) : OwnP w' n u es :=
 ⟨own_nott h.1 h2 hg, fun d hd => ⟨own_nott (h.2 d hd).1 h1 hg, (h.2 d hd).2⟩⟩
theorem Held.nott {cs : Array Value} (h : Held w g f cs) (hn : NotT w r f) (hg : w.grownBy w' r) : Held w' g f cs := h.grown hg (fun e => hn g cs (0, 0) e.symm h)
theorem PartN.then {S S2 : Nat → Prop} (h : PartN S w w1) (h2 : PartN S2 w1 w') (hs : ∀ j, S2 j → S j ∨ w.heap.size ≤ j) : PartN S w w' :=
 ⟨h2.os.trans h.os, h2.tape.trans h.tape, h2.output.trans h.output, Nat.le_trans h.size h2.size, fun i hi hn => (h2.block i (Nat.lt_of_lt_of_le hi h.size) (fun x => by
  rcases hs i x with x | x
  ·exact hn x
  ·omega)).trans (h.block i hi hn)⟩
end
def TS (t : Nat) (PA RA : Option Addr) (j : Nat) : Prop := j = t ∨ ob PA = some j ∨ ob RA = some j
structure TAt (w : World) (n t : Nat) (g : Gp) (SA : Option Addr) (Sc : Nat) (es : List Pd) (PA : Option Addr) (Pc : Nat) (ps : List Pm) (RA : Option Addr) (Rc : Nat) : Prop where
 held : Held w t 93 #[.slice SA es.length Sc, .slice PA ps.length Pc, .int .i64 g.sk, .int .i64 g.fr, .slice RA g.rej.length Rc]
 low : n ≤ t
 sig : OwnP w n (.slice SA es.length Sc) es
 sigp : es.map (·.p) = g.sig
 pts : OwnT w n (.slice PA ps.length Pc) ps
 ptsp : ps.map (·.p) = g.pts
 rej : w.ownsRow n 38 2 (.slice RA g.rej.length Rc) g.rej.length (flatJ g.rej)
section
variable {w w' w1 : World} {n t : Nat} {g : Gp} {SA : Option Addr} {Sc : Nat} {es : List Pd} {PA : Option Addr} {Pc : Nat} {ps : List Pm} {RA : Option Addr} {Rc : Nat}
theorem TAt.below (h : TAt w n t g SA Sc es PA Pc ps RA Rc) (hb : Below w.heap.size w w') : TAt w' n t g SA Sc es PA Pc ps RA Rc :=
 ⟨h.held.below hb h.held.lt, h.low, h.sig.below hb, h.sigp, h.pts.below hb, h.ptsp, own_below h.rej hb⟩
theorem TAt.cells (h : TAt w n t g SA Sc es PA Pc ps RA Rc) : w.cell? ⟨t, 0, none⟩ = some (.slice SA es.length Sc) ∧ w.cell? ⟨t, 1, none⟩ = some (.slice PA ps.length Pc) ∧ w.cell? ⟨t, 2, none⟩ = some (.int .i64 g.sk) ∧ w.cell? ⟨t, 3, none⟩ = some (.int .i64 g.fr) ∧ w.cell? ⟨t, 4, none⟩ = some (.slice RA g.rej.length Rc) :=
 ⟨h.held.cell 0, h.held.cell 1, h.held.cell 2, h.held.cell 3, h.held.cell 4⟩
theorem TAt.lt (h : TAt w n t g SA Sc es PA Pc ps RA Rc) {j : Nat} (hj : TS t PA RA j) : n ≤ j ∧ j < w.heap.size := by
 rcases hj with rfl | hj | hj
 ·exact ⟨h.low, h.held.lt⟩
 ·exact World.ownsRow.lt h.pts.1 j (by rw [ob_own]; exact hj)
 ·exact World.ownsRow.lt h.rej j (by rw [ob_own]; exact hj)
theorem TAt.size (h : TAt w n t g SA Sc es PA Pc ps RA Rc) : n ≤ w.heap.size := by have := h.low; have := h.held.lt; omega
theorem TAt.n1 (h : TAt w n t g SA Sc es PA Pc ps RA Rc) (e : TypeId) (he : 93 ≠ e) : NotT w (some t) e := NotT.of_held h.held he
theorem TAt.n2 (h : TAt w n t g SA Sc es PA Pc ps RA Rc) (e : TypeId) (he : 55 ≠ e) : NotT w (Value.slice PA ps.length Pc).ownBlock e := NotT.of_own h.pts.1 he
theorem TAt.n3 (h : TAt w n t g SA Sc es PA Pc ps RA Rc) (e : TypeId) (he : 38 ≠ e) : NotT w (Value.slice RA g.rej.length Rc).ownBlock e := NotT.of_own h.rej he
theorem TAt.putSig {A2 : Option Addr} {c2 m : Nat} {es2 : List Pd} {L : List Pr} {b : Bool} (h : TAt w n t g SA Sc es PA Pc ps RA Rc) (q : OwnP w m (.slice A2 es2.length c2) es2) (hm : n ≤ m) (hL : es2.map (·.p) = L) :
  TAt (w.setCell ⟨t, 0, none⟩ (.slice A2 es2.length c2)) n t ⟨L, b, g.pts, g.sk, g.fr, g.rej⟩ A2 c2 es2 PA Pc ps RA Rc := by
 have gr := grown_put w t 0 (.slice A2 es2.length c2)
 exact ⟨h.held.put 0 _, h.low, (q.base hm).nott (h.n1 _ (by decide)) (h.n1 _ (by decide)) gr, hL, h.pts.nott (h.n1 _ (by decide)) (h.n1 _ (by decide)) ((h.n1 _ (by decide)).ne h.pts.1) gr, h.ptsp, own_nott h.rej (h.n1 _ (by decide)) gr⟩
theorem TAt.putSk (h : TAt w n t g SA Sc es PA Pc ps RA Rc) (k : Int) : TAt (w.setCell ⟨t, 2, none⟩ (.int .i64 k)) n t ⟨g.sig, g.isg, g.pts, k, g.fr, g.rej⟩ SA Sc es PA Pc ps RA Rc := by
 have gr := grown_put w t 2 (.int .i64 k)
 exact ⟨h.held.put 2 _, h.low, h.sig.nott (h.n1 _ (by decide)) (h.n1 _ (by decide)) gr, h.sigp, h.pts.nott (h.n1 _ (by decide)) (h.n1 _ (by decide)) ((h.n1 _ (by decide)).ne h.pts.1) gr, h.ptsp, own_nott h.rej (h.n1 _ (by decide)) gr⟩
theorem TAt.putFr (h : TAt w n t g SA Sc es PA Pc ps RA Rc) (k : Int) : TAt (w.setCell ⟨t, 3, none⟩ (.int .i64 k)) n t ⟨g.sig, g.isg, g.pts, g.sk, k, g.rej⟩ SA Sc es PA Pc ps RA Rc := by
 have gr := grown_put w t 3 (.int .i64 k)
 exact ⟨h.held.put 3 _, h.low, h.sig.nott (h.n1 _ (by decide)) (h.n1 _ (by decide)) gr, h.sigp, h.pts.nott (h.n1 _ (by decide)) (h.n1 _ (by decide)) ((h.n1 _ (by decide)).ne h.pts.1) gr, h.ptsp, own_nott h.rej (h.n1 _ (by decide)) gr⟩
theorem TAt.putPts {A7 : Option Addr} {c7 N : Nat} {A2 : Option Addr} {c2 m : Nat} {qs : List Pm} {L : List Pn} (h : TAt w n t g SA Sc es PA Pc ps RA Rc) (q : OwnT w m (.slice A2 qs.length c2) qs) (hm : n ≤ m) (hL : qs.map (·.p) = L) (hN : ps.length + qs.length = N)
  (ho : w1.ownsRow n 55 2 (.slice A7 N c7) N (flatN (ps ++ qs))) (hg : w.grownBy w1 (Value.slice PA ps.length Pc).ownBlock) (ha : (Value.slice A7 N c7).ownBlock = (Value.slice PA ps.length Pc).ownBlock ∨ (Value.slice A7 N c7).ownBlock = some w.heap.size) :
  Held w1 t 93 #[.slice SA es.length Sc, .slice PA ps.length Pc, .int .i64 g.sk, .int .i64 g.fr, .slice RA g.rej.length Rc] ∧
  Hid (TAt (w1.setCell ⟨t, 1, none⟩ (.slice A7 N c7)) n t ⟨g.sig, g.isg, g.pts ++ L, g.sk, g.fr, g.rej⟩ SA Sc es A7 c7 (ps ++ qs) RA Rc) ∧ Hid (PartN (TS t PA RA) w (w1.setCell ⟨t, 1, none⟩ (.slice A7 N c7))) ∧ Hid (∀ j, TS t A7 RA j → TS t PA RA j ∨ w.heap.size ≤ j) := by
 subst hN hL
 have hh := h.held.nott (h.n2 _ (by decide)) hg
 have gr := grown_put w1 t 1 (.slice A7 (ps.length + qs.length) c7)
 have k1 : ∀ e, 93 ≠ e → NotT w1 (some t) e := fun e he => NotT.of_held hh he
 have hj : OwnT w1 n (.slice A7 (ps.length + qs.length) c7) (ps ++ qs) := h.pts.joined q hm (by rw [List.length_append]; exact ho) hg
 have hs := (h.sig.nott (h.n2 _ (by decide)) (h.n2 _ (by decide)) hg).nott (k1 _ (by decide)) (k1 _ (by decide)) gr
 have hr := own_nott (own_nott h.rej (h.n2 _ (by decide)) hg) (k1 _ (by decide)) gr
 refine ⟨hh, hid ⟨by rw [List.length_append]; exact hh.put 1 _, h.low, hs, h.sigp, ?_, ?_, hr⟩, hid ((PartN.of_grown hg (fun j e => .inr (.inl (by rw [← ob_own PA ps.length Pc]; exact e)))).trans (PartN.put (.inl rfl) 1 _)), hid fun j hj => ?_⟩
 ·rw [List.length_append]
  exact hj.nott (k1 _ (by decide)) (k1 _ (by decide)) ((k1 _ (by decide)).ne hj.1) gr
 ·rw [List.map_append, h.ptsp]
 ·rcases hj with rfl | hj | hj
  ·exact .inl (.inl rfl)
  ·rw [← ob_own A7 (ps.length + qs.length) c7] at hj
   rcases ha with h7 | h7
   ·exact .inl (.inr (.inl (by rw [← ob_own PA ps.length Pc, ← h7]; exact hj)))
   ·rw [h7] at hj
    injection hj with hj
    exact .inr (by omega)
  ·exact .inl (.inr (.inr hj))
theorem TAt.putRej {A7 : Option Addr} {c7 N : Nat} {a e : Int} (h : TAt w n t g SA Sc es PA Pc ps RA Rc) (hN : g.rej.length + 1 = N)
  (ho : w1.ownsRow n 38 2 (.slice A7 N c7) N (flatJ (g.rej ++ [(a, e)]))) (hg : w.grownBy w1 (Value.slice RA g.rej.length Rc).ownBlock) (ha : (Value.slice A7 N c7).ownBlock = (Value.slice RA g.rej.length Rc).ownBlock ∨ (Value.slice A7 N c7).ownBlock = some w.heap.size) :
  Held w1 t 93 #[.slice SA es.length Sc, .slice PA ps.length Pc, .int .i64 g.sk, .int .i64 g.fr, .slice RA g.rej.length Rc] ∧
  Hid (TAt (w1.setCell ⟨t, 4, none⟩ (.slice A7 N c7)) n t ⟨g.sig, g.isg, g.pts, g.sk, g.fr, g.rej ++ [(a, e)]⟩ SA Sc es PA Pc ps A7 c7) ∧ Hid (PartN (TS t PA RA) w (w1.setCell ⟨t, 4, none⟩ (.slice A7 N c7))) ∧ Hid (∀ j, TS t PA A7 j → TS t PA RA j ∨ w.heap.size ≤ j) := by
 subst hN
 have hh := h.held.nott (h.n3 _ (by decide)) hg
 have gr := grown_put w1 t 4 (.slice A7 (g.rej.length + 1) c7)
 have k1 : ∀ e, 93 ≠ e → NotT w1 (some t) e := fun e he => NotT.of_held hh he
 have hs := (h.sig.nott (h.n3 _ (by decide)) (h.n3 _ (by decide)) hg).nott (k1 _ (by decide)) (k1 _ (by decide)) gr
 have hp := h.pts.nott (h.n3 _ (by decide)) (h.n3 _ (by decide)) ((h.n3 _ (by decide)).ne h.pts.1) hg
 have hl : (g.rej ++ [(a, e)]).length = g.rej.length + 1 := by simp
 refine ⟨hh, hid ⟨by rw [hl]; exact hh.put 4 _, h.low, hs, h.sigp, hp.nott (k1 _ (by decide)) (k1 _ (by decide)) ((k1 _ (by decide)).ne hp.1) gr, h.ptsp, by rw [hl]; exact own_nott ho (k1 _ (by decide)) gr⟩, hid ((PartN.of_grown hg (fun j e => .inr (.inr (by rw [← ob_own RA g.rej.length Rc]; exact e)))).trans (PartN.put (.inl rfl) 4 _)), hid fun j hj => ?_⟩
 rcases hj with rfl | hj | hj
 ·exact .inl (.inl rfl)
 ·exact .inl (.inr (.inl hj))
 ·rw [← ob_own A7 (g.rej.length + 1) c7] at hj
  rcases ha with h7 | h7
  ·exact .inl (.inr (.inr (by rw [← ob_own RA g.rej.length Rc, ← h7]; exact hj)))
  ·rw [h7] at hj
   injection hj with hj
   exact .inr (by omega)
end
def TkR (S : Nat → Prop) (w : World) (n t : Nat) (g : Gp) (w' : World) : Prop :=
 ∃ SA Sc es PA Pc ps RA Rc, TAt w' n t g SA Sc es PA Pc ps RA Rc ∧ PartN S w w' ∧ ∀ j, TS t PA RA j → S j ∨ w.heap.size ≤ j
theorem TkR.then {S S2 : Nat → Prop} {w w1 w' : World} {n t : Nat} {g : Gp} (h : PartN S w w1) (hs : ∀ j, S2 j → S j ∨ w.heap.size ≤ j) (k : TkR S2 w1 n t g w') : TkR S w n t g w' := by
 obtain ⟨SA, Sc, es, PA, Pc, ps, RA, Rc, h1, h2, h3⟩ := k
 refine ⟨SA, Sc, es, PA, Pc, ps, RA, Rc, h1, h.then h2 hs, fun j hj => ?_⟩
 rcases h3 j hj with h4 | h4
 ·exact hs j h4
 ·exact .inr (Nat.le_trans h.size h4)
theorem checkT_append {sig : List Pr} {t m : List Pn} (h : (checkT sig t).1 = 0) (h2 : (checkT sig m).1 = 0) (hl : lateG t m = false) : (checkT sig (t ++ m)).1 = 0 := by
 obtain ⟨hs, ha⟩ := checkT_zero.1 h
 obtain ⟨-, hb⟩ := checkT_zero.1 h2
 refine checkT_zero.2 ⟨hs, fun j hj => ?_⟩
 rw [List.length_append] at hj
 have e : ∀ i, i < t.length → (t ++ m).getD i default = t.getD i default := fun i hi => by simp [List.getD, List.getElem?_append_left hi]
 have e2 : ∀ i, (t ++ m).getD (t.length + i) default = m.getD i default := fun i => by
  simp only [List.getD]
  rw [List.getElem?_append_right (by omega)]
  congr 2
  omega
 by_cases hjt : j < t.length
 ·have := ha j hjt
  unfold whyT at this ⊢
  rwa [e j hjt, e (j - 1) (by omega)]
 ·obtain ⟨i, rfl⟩ : ∃ i, j = t.length + i := ⟨j - t.length, by omega⟩
  have := hb i (by omega)
  unfold whyT at this ⊢
  rcases Nat.eq_zero_or_pos i with h0 | h0
  ·subst h0
   rw [if_neg (by omega)] at this
   rw [e2, Nat.add_zero]
   have hn : ¬ (0 < t.length ∧ (m.getD 0 default).tm < ((t ++ m).getD (t.length - 1) default).tm) := by
    rintro ⟨q1, q2⟩
    rw [e _ (by omega)] at q2
    unfold lateG at hl
    rw [decide_eq_true q1, decide_eq_true q2] at hl
    cases hl
   rw [if_neg hn]
   exact this
  ·rw [e2, show t.length + i - 1 = t.length + (i - 1) by omega, e2]
   split at this
   ·cases this
   ·rename_i hn
    rw [if_neg (fun x => hn ⟨h0, x.2⟩)]
    exact this
theorem sig_args {sig : List Pr} (h : checkP sig = 0) : ∀ q ∈ sig, q.args.length ≤ 8 ∧ ∀ t ∈ q.args, -9223372036854775808 ≤ t ∧ t ≤ 9223372036854775807 := by
 intro q hq
 obtain ⟨i, hi⟩ := List.mem_iff_getElem?.1 hq
 have ho := (checkP_zero.1 h).2 i q hi
 exact ⟨ho.2.2.1, fun t ht => by have := ho.2.2.2 t ht; omega⟩
theorem getU_right {sig : List Pr} {xs : List Int} (hb : ∀ x ∈ xs, 0 ≤ x ∧ x < 256) (hs : checkP sig = 0) (h : (getU sig xs).2 = 0) : (checkT sig (getU sig xs).1).1 = 0 := by
 obtain ⟨-, h2, -, -⟩ := getU_back hb (fun q hq => (sig_args hs q hq).2) h
 have h3 := (checkB_zero (putB_ok (by rw [h2])).1).2.1
 rwa [map_bare_p] at h3
structure Ig (g : Gp) : Prop where
 isg : decide (0 < g.fr) = g.isg
 fr : 0 ≤ g.fr
 trc : (checkT g.sig g.pts).1 = 0
 nil : g.isg = false → g.sig = [] ∧ g.pts = []
theorem checkT_p {sig : List Pr} {t : List Pn} (h : (checkT sig t).1 = 0) : checkP sig = 0 := (checkT_zero.1 h).1
theorem Ig.zero : Ig noG := ⟨rfl, Int.le_refl _, by unfold noG; exact checkT_zero.2 ⟨checkP_none (Nat.zero_le _) (fun j hj => absurd hj (Nat.not_lt_zero _)), fun j hj => absurd hj (Nat.not_lt_zero _)⟩, fun _ => ⟨rfl, rfl⟩⟩
theorem Ig.frame {g : Gp} {k : Int} {p : List Int} (h : Ig g) (hb : ∀ y ∈ p, 0 ≤ y ∧ y < 256) (he : (frameG g k p).2 = 0) :
  (frameG g k p).1.isg = true ∧ (checkT (frameG g k p).1.sig (frameG g k p).1.pts).1 = 0 := by
 unfold frameG at he ⊢
 split
 ·rename_i h1
  rw [if_pos h1] at he
  split
  ·rename_i h2
   rw [if_pos h2] at he
   exact absurd he h2
  ·rename_i h2
   have hz : (getSig p).2 = 0 := by simpa using h2
   rw [if_neg h2] at he
   split
   ·rename_i h3
    rw [if_pos h3] at he
    cases he
   ·rename_i h3
    refine ⟨rfl, ?_⟩
    cases hi : g.isg with
    | true =>
     have : (getSig p).1 = g.sig := Classical.byContradiction fun e => h3 ⟨hi, e⟩
     show (checkT (getSig p).1 g.pts).1 = 0
     rw [this]
     exact h.trc
    | false =>
     show (checkT (getSig p).1 g.pts).1 = 0
     rw [(h.nil hi).2]
     exact checkT_zero.2 ⟨(getSig_back hb hz).1, fun j hj => absurd hj (Nat.not_lt_zero _)⟩
 ·rename_i h1
  rw [if_neg h1] at he
  split
  ·rename_i h2; rw [if_pos h2] at he; cases he
  ·rename_i h2
   rw [if_neg h2] at he
   split
   ·rename_i h3; rw [if_pos h3] at he; cases he
   ·rename_i h3
    rw [if_neg h3] at he
    split
    ·rename_i h4; rw [if_pos h4] at he; exact absurd he h4
    ·rename_i h4
     rw [if_neg h4] at he
     have hz : (getU g.sig p).2 = 0 := by simpa using h4
     split
     ·rename_i h5; rw [if_pos h5] at he; cases he
     ·rename_i h5
      exact ⟨by cases hi : g.isg with
       | true => rfl
       | false => exact absurd hi h3, checkT_append h.trc (getU_right hb (checkT_p h.trc) hz) (by simpa using h5)⟩
theorem Ig.step {g : Gp} {s : Sj} (h : Ig g) (hb : ∀ y ∈ s.pay, 0 ≤ y ∧ y < 256) : Ig (takeS g s) := by
 unfold takeS
 split
 ·exact ⟨h.isg, h.fr, h.trc, h.nil⟩
 ·split
  ·exact ⟨h.isg, h.fr, h.trc, h.nil⟩
  ·rename_i h2
   obtain ⟨h3, h4⟩ := h.frame hb (k := s.kind) (by simpa using h2)
   have := h.fr
   refine ⟨?_, by show 0 ≤ g.fr + 1; omega, h4, fun e => ?_⟩
   ·show decide (0 < g.fr + 1) = (frameG g s.kind s.pay).1.isg
    rw [h3, decide_eq_true (by omega)]
   ·exact absurd (h3.symm.trans e) (by decide)
theorem Ig.take {g : Gp} {l : List Sj} (h : Ig g) (hl : ∀ s ∈ l, ∀ y ∈ s.pay, 0 ≤ y ∧ y < 256) : Ig (takeL g l) := by
 induction l generalizing g with
 | nil => exact h
 | cons s l ih => exact ih (h.step (hl s (List.mem_cons_self ..))) (fun x hx => hl x (List.mem_cons_of_mem _ hx))
def lastT (l : List Pn) : Int := (l.getD (l.length - 1) default).tm
theorem late_last {l m : List Pn} (h : 0 ≤ (m.getD 0 default).tm) : lateG l m = decide ((m.getD 0 default).tm < lastT l) := by
 unfold lateG lastT
 by_cases hl : 0 < l.length
 ·rw [decide_eq_true hl, Bool.true_and]
 ·have : l = [] := List.eq_nil_of_length_eq_zero (by omega)
  subst this
  have e : ((([] : List Pn).getD (([] : List Pn).length - 1) default).tm : Int) = 0 := rfl
  rw [e, decide_eq_false (by omega : ¬ (m.getD 0 default).tm < 0)]
  rfl
abbrev fnSig (t : Nat) : Value := .func (.func 65) #[.pointer (some ⟨t, 0, none⟩)] #[]
abbrev fnPts (t : Nat) : Value := .func (.func 66) #[.pointer (some ⟨t, 0, none⟩)] #[]
def KMap (w : World) (r t : Nat) : Prop := ∃ b0 b1 cl, w.heap[r]? = some (.map #[{ key := .int .i64 1, val := fnSig t, born := b0 }, { key := .int .i64 2, val := fnPts t, born := b1 }] cl)
theorem KMap.below {w w' : World} {r t B : Nat} (h : KMap w r t) (hb : Below B w w') (hr : r < B) : KMap w' r t := by
 obtain ⟨b0, b1, cl, h⟩ := h
 exact ⟨b0, b1, cl, (hb.block r hr).trans h⟩
theorem KMap.lt {w : World} {r t : Nat} (h : KMap w r t) : r < w.heap.size := by
 obtain ⟨_, _, _, h⟩ := h
 exact (Array.getElem?_eq_some_iff.1 h).1
theorem KMap.same {w w' : World} {r t : Nat} (h : KMap w r t) (hb : w'.heap[r]? = w.heap[r]?) : KMap w' r t := by
 obtain ⟨b0, b1, cl, h⟩ := h
 exact ⟨b0, b1, cl, hb.trans h⟩
theorem int_check (w : World) (a : Int) (b : Bool) : (Instr.checkKey b 10000 3 (.int .i64 a)).run Tryz.prog w = .ok () w := by
 rw [show (10000 : Nat) = 9999 + 1 from rfl]
 unfold Instr.checkKey
 rw [Sem.run_bind, run_underlying Tryz.underlying3]
 simp [Result.andThen]
theorem kinds_one {w : World} {r t : Nat} (h : KMap w r t) :
  (Instr.lookup 94 (.map (some r)) (.int .i64 1) true).run Tryz.prog w = .ok (.tuple #[fnSig t, .bool true]) w := by
 obtain ⟨b0, b1, cl, h⟩ := h
 have hg : (getObj r).run Tryz.prog w = .ok (.map #[{ key := .int .i64 1, val := fnSig t, born := b0 }, { key := .int .i64 2, val := fnPts t, born := b1 }] cl) w := by simp [getObj, Sem.run, h]
 unfold Instr.lookup Instr.findKey
 simp [Sem.run_bind, run_underlying Tryz.underlying94, run_underlying Tryz.underlying3, Result.andThen_ok, hg, Sem.run_pure, int_check, Instr.findNow, Instr.sameNow]
theorem kinds_two {w : World} {r t : Nat} (h : KMap w r t) :
  (Instr.lookup 94 (.map (some r)) (.int .i64 2) true).run Tryz.prog w = .ok (.tuple #[fnPts t, .bool true]) w := by
 obtain ⟨b0, b1, cl, h⟩ := h
 have hg : (getObj r).run Tryz.prog w = .ok (.map #[{ key := .int .i64 1, val := fnSig t, born := b0 }, { key := .int .i64 2, val := fnPts t, born := b1 }] cl) w := by simp [getObj, Sem.run, h]
 unfold Instr.lookup Instr.findKey
 simp [Sem.run_bind, run_underlying Tryz.underlying94, run_underlying Tryz.underlying3, Result.andThen_ok, hg, Sem.run_pure, int_check, Instr.findNow, Instr.sameNow]
theorem kinds_none {w : World} {r t : Nat} (h : KMap w r t) {k : Int} (h1 : k ≠ 1) (h2 : k ≠ 2) :
  (Instr.lookup 94 (.map (some r)) (.int .i64 k) true).run Tryz.prog w = .ok (.tuple #[.nilFunc, .bool false]) w := by
 obtain ⟨b0, b1, cl, h⟩ := h
 have hg : (getObj r).run Tryz.prog w = .ok (.map #[{ key := .int .i64 1, val := fnSig t, born := b0 }, { key := .int .i64 2, val := fnPts t, born := b1 }] cl) w := by simp [getObj, Sem.run, h]
 have e1 : (k == 1) = false := beq_eq_false_iff_ne.2 h1
 have e2 : (k == 2) = false := beq_eq_false_iff_ne.2 h2
 unfold Instr.lookup Instr.findKey
 simp [Sem.run_bind, run_underlying Tryz.underlying94, run_underlying Tryz.underlying3, Result.andThen_ok, hg, Sem.run_pure, int_check, Instr.findNow, Instr.sameNow, e1, e2]
theorem kput_first {w : World} {r t : Nat} (h : w.heap[r]? = some (.map #[] 0)) :
  (Instr.mapUpdate 94 (.map (some r)) (.int .i64 1) (fnSig t)).run Tryz.prog w = .ok () (w.putObj r (.map #[{ key := .int .i64 1, val := fnSig t, born := 0 }] 1)) := by
 have hg : (getObj r).run Tryz.prog w = .ok (.map #[] 0) w := by simp [getObj, Sem.run, h]
 have hs : ∀ o, (setObj r o).run Tryz.prog w = .ok () (w.putObj r o) := fun o => by simp [setObj, Sem.run, h, World.putObj]
 unfold Instr.mapUpdate Instr.findKey
 simp [Sem.run_bind, run_underlying Tryz.underlying94, run_underlying Tryz.underlying3, Result.andThen_ok, hg, int_check, Instr.findNow, hs]
theorem kput_second {w : World} {r t : Nat} (h : w.heap[r]? = some (.map #[{ key := .int .i64 1, val := fnSig t, born := 0 }] 1)) :
  (Instr.mapUpdate 94 (.map (some r)) (.int .i64 2) (fnPts t)).run Tryz.prog w = .ok () (w.putObj r (.map #[{ key := .int .i64 1, val := fnSig t, born := 0 }, { key := .int .i64 2, val := fnPts t, born := 1 }] 2)) := by
 have hg : (getObj r).run Tryz.prog w = .ok (.map #[{ key := .int .i64 1, val := fnSig t, born := 0 }] 1) w := by simp [getObj, Sem.run, h]
 have hs : ∀ o, (setObj r o).run Tryz.prog w = .ok () (w.putObj r o) := fun o => by simp [setObj, Sem.run, h, World.putObj]
 unfold Instr.mapUpdate Instr.findKey
 simp [Sem.run_bind, run_underlying Tryz.underlying94, run_underlying Tryz.underlying3, Result.andThen_ok, hg, Sem.run_pure, int_check, Instr.findNow, Instr.sameNow, hs]
theorem putM_self {w : World} {r : Nat} (h : r < w.heap.size) (o : Obj) : (w.putObj r o).heap[r]? = some o := by
 show (w.heap.setIfInBounds r o)[r]? = _
 rw [Array.getElem?_setIfInBounds_self_of_lt h]
theorem kinds_any (w : World) (t : Nat) : Calls Tryz.prog 36 #[.pointer (some ⟨t, 0, none⟩)] w fun e w' => e = .returned (.map (some w.heap.size)) ∧ KMap w' w.heap.size t ∧ Below w.heap.size w w' := by
 have hmm := @run_makeMap Tryz.prog
 obtain ⟨r, hr⟩ : ∃ r, w.heap.size = r := ⟨_, rfl⟩
 obtain ⟨w1, hw1⟩ : ∃ w1, w.alloc (.map #[] 0) = w1 := ⟨_, rfl⟩
 have h1 : w1.heap[r]? = some (.map #[] 0) := by rw [← hw1, ← hr]; exact heap_alloc_new w _
 have b1 : Below r w w1 := by rw [← hw1, ← hr]; exact (Below.refl _ _).alloc (Nat.le_refl _) _
 have l1 := (Array.getElem?_eq_some_iff.1 h1).1
 have p1 := kput_first h1 (t := t)
 obtain ⟨w2, hw2⟩ : ∃ w2, w1.putObj r (.map #[{ key := .int .i64 1, val := fnSig t, born := 0 }] 1) = w2 := ⟨_, rfl⟩
 have h2 : w2.heap[r]? = some (.map #[{ key := .int .i64 1, val := fnSig t, born := 0 }] 1) := by rw [← hw2]; exact putM_self l1 _
 have b2 : Below r w w2 := by rw [← hw2]; exact below_putObj b1 (Nat.le_refl _) _
 have l2 := (Array.getElem?_eq_some_iff.1 h2).1
 have p2 := kput_second h2
 obtain ⟨w3, hw3⟩ : ∃ w3, w2.putObj r (.map #[{ key := .int .i64 1, val := fnSig t, born := 0 }, { key := .int .i64 2, val := fnPts t, born := 1 }] 2) = w3 := ⟨_, rfl⟩
 have h3 : KMap w3 r t := ⟨0, 1, 2, by rw [← hw3]; exact putM_self l2 _⟩
 have b3 : Below r w w3 := by rw [← hw3]; exact below_putObj b2 (Nat.le_refl _) _
 have H3 := hid h3
 have HB := hid b3
 rw [hw2] at p1
 rw [hw3] at p2
 rw [hr]
 clear h1 h2 h3 b1 b2 b3 hw2 hw3 l1 l2
 go_enter Tryz.func36, Tryz.ntmps36
 go_wp2_with fail
 go_ret
 exact ⟨rfl, H3.out, HB.out⟩
theorem gsigned_any (w : World) (A1 : Option Addr) (n1 c1 : Nat) (A2 : Option Addr) (n2 c2 : Nat) (sk fr : Int) (A3 : Option Addr) (n3 c3 : Nat) (b : Bool) (hb : decide (0 < fr) = b) :
  Calls Tryz.prog 33 #[.agg #[.slice A1 n1 c1, .slice A2 n2 c2, .int .i64 sk, .int .i64 fr, .slice A3 n3 c3]] w fun e w' => e = .returned (.bool b) ∧ Below w.heap.size w w' := by
 obtain ⟨u, hu⟩ : ∃ u, w.alloc (.cells #[.slice A1 n1 c1, .slice A2 n2 c2, .int .i64 sk, .int .i64 fr, .slice A3 n3 c3] 28) = u := ⟨_, rfl⟩
 have HB := hid (show Below w.heap.size w u from by rw [← hu]; exact (Below.refl _ _).alloc (Nat.le_refl _) _)
 have hh : Held u w.heap.size 28 #[.slice A1 n1 c1, .slice A2 n2 c2, .int .i64 sk, .int .i64 fr, .slice A3 n3 c3] := by rw [← hu]; exact heap_alloc_new w _
 have x3 := hh.cell 3
 simp at x3
 have HX := hid hb
 clear hh hb
 go_enter Tryz.func33, Tryz.ntmps33
 go_wp2_with fail
 go_ret
 exact ⟨by rw [← HX.out]; rfl, HB.out⟩
theorem refuse_any (w : World) (v : Value) :
  Calls Tryz.prog 37 #[v] w fun e w' => e = .returned (.int .i64 4) ∧ w' = w := by
 go_enter Tryz.func37, Tryz.ntmps37
 go_wp2_with fail
 go_ret
 exact ⟨rfl, rfl⟩
section
variable {w : World} {n t : Nat} {g : Gp} {SA : Option Addr} {Sc : Nat} {es : List Pd} {PA : Option Addr} {Pc : Nat} {ps : List Pm} {RA : Option Addr} {Rc : Nat}
theorem rlast_any (h : TAt w n t g SA Sc es PA Pc ps RA Rc) :
  Calls Tryz.prog 110 #[.pointer (some ⟨t, 0, none⟩)] w fun e w' => e = .returned (.int .u64 (lastT g.pts)) ∧ Below w.heap.size w w' := by
 obtain ⟨-, x1, -, -, -⟩ := h.cells
 have hlt := h.held.lt
 obtain ⟨-, hc1, hc2⟩ := h.pts.row.1.len
 by_cases h0 : ps.length = 0
 ·have hl : lastT g.pts = 0 := by
   rw [← h.ptsp, List.eq_nil_of_length_eq_zero h0]
   rfl
  rw [hl]
  rw [h0] at x1
  clear h hl
  go_enter Tryz.func110, Tryz.ntmps110
  go_wp2_with fail
  go_ret
  exact ⟨rfl, Below.refl _ _⟩
 ·obtain ⟨m, hm⟩ : ∃ m, ps.length - 1 = m := ⟨_, rfl⟩
  obtain ⟨d, hd⟩ : ∃ d, ps[m]? = some d := ⟨_, List.getElem?_eq_getElem (by omega)⟩
  have hl : lastT g.pts = d.tm := by
   unfold lastT
   rw [← h.ptsp, List.length_map, hm]
   simp only [List.getD, List.getElem?_map, hd, Option.map_some, Option.getD_some]
  rw [hl]
  obtain ⟨b, o, rfl, hbl, v0, -, -, -, -⟩ := h.pts.row.at hd
  have hbw : b < w.heap.size := hbl
  have e1 : (ps.length : Int) - 1 = (m : Int) := by omega
  have e2 : ¬ (ps.length : Int) = 0 := by omega
  have e3 : (m : Int) < (ps.length : Int) := by omega
  have e4 : ¬ (ps.length : Int) ≤ (m : Int) := by omega
  have e5 : (0 : Int) ≤ (m : Int) := by omega
  have e6 : ¬ (m : Int) < 0 := by omega
  have e7 : IntKind.i64.wrap (m : Int) = (m : Int) := IntWalk.i64_in _ (by omega)
  have e8 : m < ps.length := by omega
  clear h hl hm hd h0
  go_enter Tryz.func110, Tryz.ntmps110
  go_wp2_with fail
  go_region
  all_goals (
  go_wp2_with fail
  go_ret
  exact ⟨rfl, (Below.refl _ _).drew⟩)
abbrev TLeft (w : World) (n t : Nat) (PA RA : Option Addr) (g : Gp) (w' : World) : Prop := TkR (TS t PA RA) w n t g w'
theorem TAt.left {w' : World} (h : TAt w n t g SA Sc es PA Pc ps RA Rc) (hb : Below w.heap.size w w') : TLeft w n t PA RA g w' := ⟨SA, Sc, es, PA, Pc, ps, RA, Rc, h.below hb, PartN.of_below hb, fun j hj => .inl hj⟩
theorem PartN.tail {S : Nat → Prop} {w w1 w2 : World} (h : PartN S w w1) (hb : Below w1.heap.size w1 w2) : PartN S w w2 := h.trans (PartN.of_below hb)
def cntG (g : Gp) (a e : Int) : Gp := if e ≠ 0 then ⟨g.sig, g.isg, g.pts, g.sk, g.fr, g.rej ++ [(a, e)]⟩ else ⟨g.sig, g.isg, g.pts, g.sk, g.fr + 1, g.rej⟩
theorem flatJ_snoc (l : List (Int × Int)) (a e : Int) : flatJ l ++ [.int .i64 a, .int .i64 e] = flatJ (l ++ [(a, e)]) := by rw [flatJ_append]; rfl
theorem rcount_any18 (h : TAt w n t g SA Sc es PA Pc ps RA Rc) (a e : Int) (hR : g.rej.length ≤ 1000000000) (hF : -4611686018427387904 ≤ g.fr ∧ g.fr ≤ 4611686018427387904) :
  Calls Tryz.prog 38 #[.pointer (some ⟨t, 0, none⟩), .int .i64 a, .int .i64 e] w fun r w' => r = .returned (.tuple #[]) ∧ TLeft w n t PA RA (cntG g a e) w' := by
 obtain ⟨i1, hi1, hy0, hy1, hy2⟩ := info_parts Tryz.infoReject
 obtain ⟨x0, x1, x2, x3, x4⟩ := h.cells
 have hlt := h.held.lt
 have hn := h.size
 unfold cntG
 by_cases he : e = 0
 ·have hb : (e != 0) = false := by simp [he]
  rw [if_neg (fun x => x he)]
  have f3 := h.held.frozen 3
  have HT := hid h
  have hw : IntKind.i64.wrap (g.fr + 1) = g.fr + 1 := IntWalk.i64_in _ (by omega)
  clear h
  go_enter Tryz.func38, Tryz.ntmps38
  go_wp2_with fail
  go_end0
  exact ⟨rfl, SA, Sc, es, PA, Pc, ps, RA, Rc, HT.out.putFr _, PartN.put (.inl rfl) 3 _, fun j hj => .inl hj⟩
 ·have hb : (e != 0) = true := by simp [he]
  rw [if_pos he]
  obtain ⟨u, hu⟩ : ∃ u, w.alloc (.cells #[.int .i64 a, .int .i64 e] 38) = u := ⟨_, rfl⟩
  have bu : Below w.heap.size w u := by rw [← hu]; exact (Below.refl _ _).alloc (Nat.le_refl _) _
  have su : u.heap.size = w.heap.size + 1 := by rw [← hu, World.size_alloc]
  have hu1 := h.below bu
  have HU := hid hu1
  have HO := hid hu1.rej
  have HE : Hid (ERow u u.heap.size (.slice (some ⟨w.heap.size, 0, none⟩) 1 1) 1 [.int .i64 a, .int .i64 e]) := hid (by rw [← hu]; exact ERow.held (t := 38) (heap_alloc_new w _) (by rw [hu]; omega) (show (1 : Nat) ≤ maxLen by unfold maxLen; omega))
  have HBU := hid bu
  have hnu : n ≤ u.heap.size := hu1.size
  obtain ⟨M, hM⟩ : ∃ M, g.rej.length = M := ⟨_, rfl⟩
  have HM := hid hM
  have HP := hid (fun A7 c7 w7 => TAt.putRej (A7 := A7) (c7 := c7) (w1 := w7) (a := a) (e := e) hu1 (show g.rej.length + 1 = M + 1 by omega))
  rw [hM] at x4 hR HO HP
  clear h bu hu1 hM
  go_enter Tryz.func38, Tryz.ntmps38
  go_wp2_with (at_builtin; refine wpList_append_erow _ rfl _ _ 26 38 rfl n i1 (.agg #[.int .i64 0, .int .i64 0]) 2 16 Tryz.underlying26 hi1 hy0 hy1 hy2 rfl (by decide) (.slice RA M Rc) M (flatJ g.rej) (by rfl) HO.out _ _ 1 [.int .i64 a, .int .i64 e] (by rfl) HE.out rfl (by simp [Value.oneCell']) (by unfold maxLen; omega) (by omega) hnu (M + 1) rfl (flatJ (g.rej ++ [(a, e)])) (flatJ_snoc _ _ _) ?_; intro A7 c7 w7 hown7 hg7 hat7; obtain ⟨k1, k2, k3, k4⟩ := HP.out A7 c7 w7 hown7 hg7 hat7; have f4 := k1.frozen 4; have q4 := k1.cell 4; have hl4 := k1.lt; simp at q4; clear hown7 hg7 hat7 k1)
  refine bodyPost_ret (v := .tuple #[]) (results_none rfl _ _ _) rfl ?_
  refine ⟨rfl, SA, Sc, es, PA, Pc, ps, A7, c7, k2.out, (PartN.of_below HBU.out).trans k3.out, fun j hj => ?_⟩
  rcases k4.out j hj with k | k
  ·exact .inl k
  ·exact .inr (by omega)
end
def SameC : Prop := ∀ (A1 : Option Addr) (c1 : Nat) (ds1 : List Pd) (A2 : Option Addr) (c2 : Nat) (ds2 : List Pd) (w : World), PredRow w w.heap.size (.slice A1 ds1.length c1) ds1 → PredRow w w.heap.size (.slice A2 ds2.length c2) ds2 →
 Calls Tryz.prog 109 #[.slice A1 ds1.length c1, .slice A2 ds2.length c2] w fun e w' => e = .returned (.bool (decide (ds1.map (·.p) = ds2.map (·.p)))) ∧ Below w.heap.size w w'
theorem equal_any (A1 : Option Addr) (c1 : Nat) (l1 : List Int) (A2 : Option Addr) (c2 : Nat) (l2 : List Int) (w : World) (hrow1 : IRow w w.heap.size (.slice A1 l1.length c1) l1) (hrow2 : IRow w w.heap.size (.slice A2 l2.length c2) l2) :
  Calls Tryz.prog 172 #[.slice A1 l1.length c1, .slice A2 l2.length c2] w fun e w' => e = .returned (.bool (decide (l1 = l2))) ∧ Below w.heap.size w w' := by
 by_cases hl : l1.length = l2.length
 ·have hyes := fun h => decide_eq_true (args_ext (l := l1) (m := l2) hl h)
  have hno := fun (i : Nat) (h : l1.getD i 0 ≠ l2.getD i 0) => decide_eq_false (p := l1 = l2) (fun e => h (by rw [e]))
  generalize decide (l1 = l2) = R at hyes hno ⊢
  have HY := hid hyes
  have HN := hid hno
  have HI1 := hid (fun W (h : Below w.heap.size w W) => hrow1.below h)
  have HI2 := hid (fun W (h : Below w.heap.size w W) => hrow2.below h)
  have hlt : l1.length ≤ 9223372036854775807 := by
   obtain ⟨_, _, _, q1, q2, _⟩ := hrow1
   rw [List.length_map] at q1
   unfold maxLen at q2
   omega
  clear hyes hno hrow1 hrow2
  have HL := hid hl
  rw [← hl] at HI2 ⊢
  clear hl
  go_enter Tryz.func172, Tryz.ntmps172
  go_wp2_with fail
  go_loopg [13] l1.length (fun gm i wr2 => ∃ m : Nat, m ≤ l1.length ∧ i = .int .i64 m ∧ Hid (l1.length - m = gm) ∧ Hid (∀ j, j < m → l1.getD j 0 = l2.getD j 0) ∧ Below w.heap.size w wr2)
  case atStart => exact ⟨0, Nat.zero_le _, rfl, hid rfl, hid (fun j h => absurd h (Nat.not_lt_zero _)), Below.refl _ _⟩
  case round =>
   obtain ⟨m, hm, rfl, HGM, HI, hbw2⟩ := hrel
   by_cases hml : m < l1.length
   ·obtain ⟨q1, r1, rfl, hq1, t1⟩ := (HI1.out _ hbw2).at hml
    obtain ⟨q2, r2, rfl, hq2, t2⟩ := (HI2.out _ hbw2).at (by rw [← HL.out]; exact hml)
    by_cases he : l1.getD m 0 = l2.getD m 0
    ·have HI3 := hid (step_lt (P := fun j => l1.getD j 0 = l2.getD j 0) HI.out he)
     rw [he] at t1
     generalize l2.getD m 0 = t at t1 t2
     have HB2 := hid hbw2
     clear he hbw2
     go_wp2_with fail
     go_quiet (fail)
     go_wp2_with fail
     go_roundg (l1.length - (m + 1))
     case measure => have := HGM.out; omega
     case rel => exact ⟨m + 1, by omega, by go_num, hid rfl, HI3, HB2.out.trans (drewN_low _ _ _)⟩
    ·have HR := hid (HN.out m he)
     generalize l1.getD m 0 = s1 at t1 he
     generalize l2.getD m 0 = s2 at t2 he
     have hse : (s1 != s2) = true := bne_iff_ne.2 he
     have HB2 := hid hbw2
     clear he hbw2
     go_wp2_with fail
     go_quiet (fail)
     go_wp2_with fail
     go_ret
     exact ⟨by rw [HR.out]; rfl, HB2.out.trans (drewN_low _ _ _)⟩
   ·obtain rfl : m = l1.length := by omega
    have HR := hid (HY.out HI.out)
    have HB2 := hid hbw2
    clear hbw2
    go_wp2_with fail
    go_ret
    exact ⟨by rw [HR.out]; rfl, HB2.out⟩
 ·have hlb : ((l1.length : Int) != (l2.length : Int)) = true := bne_iff_ne.2 (by omega)
  have hf : decide (l1 = l2) = false := decide_eq_false (fun e => hl (by rw [e]))
  rw [hf]
  clear hf hrow1 hrow2
  go_enter Tryz.func172, Tryz.ntmps172
  go_wp2_with fail
  go_ret
  exact ⟨rfl, Below.refl _ _⟩
theorem run_eql_key (w : World) (a b : ByteArray) : (binOp .eql 167 (.agg #[.string a]) (.agg #[.string b])).run Tryz.prog w = .ok (.bool (a.toList == b.toList)) w := by
 have h := key_eq w a b
 unfold Op.equal at h
 rw [run_eql_struct, show (10000 : Nat) = Op.maxDepth from rfl, h]
 rfl
theorem pr_eq_dec (p q : Pr) : decide (p = q) = (decide (p.name = q.name) && decide (p.args = q.args)) := by
 obtain ⟨a, b⟩ := p
 obtain ⟨c, d⟩ := q
 by_cases h1 : a = c <;> by_cases h2 : b = d <;> simp [h1, h2]
theorem spred_any (d1 d2 : Pd) (w : World) (f1 : ∀ x ∈ d1.p.name, 0 ≤ x ∧ x < 256) (f2 : ∀ x ∈ d2.p.name, 0 ≤ x ∧ x < 256) (hrow1 : IRow w w.heap.size (.slice d1.A d1.p.args.length d1.c) d1.p.args) (hrow2 : IRow w w.heap.size (.slice d2.A d2.p.args.length d2.c) d2.p.args) :
  Calls Tryz.prog 146 #[d1.val, d2.val] w fun e w' => e = .returned (.bool (decide (d1.p = d2.p))) ∧ Below w.heap.size w w' := by
 obtain ⟨⟨nm1, l1⟩, A1, c1⟩ := d1
 obtain ⟨⟨nm2, l2⟩, A2, c2⟩ := d2
 simp only at f1 f2 hrow1 hrow2
 rw [pr_eq_dec]
 dsimp only [Pd.val]
 have hde := str_eq_dec f1 f2
 have HIE := hid (fun W (h : Below w.heap.size w W) => equal_any A1 c1 l1 A2 c2 l2 W ((hrow1.below h).more h.size) ((hrow2.below h).more h.size))
 clear f1 f2 hrow1 hrow2
 generalize decide (l1 = l2) = E at HIE ⊢
 generalize l1.length = n1 at HIE ⊢
 generalize l2.length = n2 at HIE ⊢
 have HK1 := hid (fun W => key_any (strOfNums nm1) A1 n1 c1 W)
 have HK2 := hid (fun W => key_any (strOfNums nm2) A2 n2 c2 W)
 have hke := fun W => run_eql_key W (strOfNums nm1) (strOfNums nm2)
 rw [hde] at hke
 generalize strOfNums nm1 = s1 at HK1 hke hde ⊢
 generalize strOfNums nm2 = s2 at HK2 hke hde ⊢
 obtain ⟨w1, hw1⟩ : ∃ w1, (w.alloc (.cells #[.string s1, .slice A1 n1 c1] 58)).alloc (.cells #[.string s2, .slice A2 n2 c2] 58) = w1 := ⟨_, rfl⟩
 have s1' : w1.heap.size = w.heap.size + 1 + 1 := by rw [← hw1]; simp
 have b1 : Below w.heap.size w w1 := by rw [← hw1]; exact ((Below.refl _ _).alloc (Nat.le_refl _) _).alloc (by simp) _
 have h1 : Held w1 w.heap.size 58 #[.string s1, .slice A1 n1 c1] := by
  rw [← hw1]
  exact Held.below (heap_alloc_new w _) ((Below.refl _ _).alloc (Nat.le_refl _) _) (by simp)
 have h2 : Held w1 (w.heap.size + 1) 58 #[.string s2, .slice A2 n2 c2] := by
  rw [← hw1, show w.heap.size + 1 = (w.alloc (.cells #[.string s1, .slice A1 n1 c1] 58)).heap.size by simp]
  exact heap_alloc_new _ _
 have hall : ∀ W, Below w1.heap.size w1 W → Below w1.heap.size w1 W ∧ W.cell? ⟨w.heap.size, 0, none⟩ = some (.string s1) ∧ W.cell? ⟨w.heap.size, 1, none⟩ = some (.slice A1 n1 c1) ∧ W.cell? ⟨w.heap.size + 1, 0, none⟩ = some (.string s2) ∧ W.cell? ⟨w.heap.size + 1, 1, none⟩ = some (.slice A2 n2 c2) := fun W h => by
  have g1 := h1.below h (by omega)
  have g2 := h2.below h (by omega)
  obtain ⟨e0, e1⟩ := cC2 g1
  obtain ⟨e2, e3⟩ := cC2 g2
  exact ⟨h, by simpa using e0, by simpa using e1, by simpa using e2, by simpa using e3⟩
 have HALL := hid hall
 have HB1 := hid b1
 clear hall h1 h2 b1
 have hkp : ∀ W W', Below w1.heap.size w1 W → Below W.heap.size W W' → Below w1.heap.size w1 W' := fun W W' h h' => h.trans (h'.mono h.size)
 have HKP := hid hkp
 clear hkp
 cases hd : decide (nm1 = nm2) with
 | false =>
  rw [hd] at hke hde
  clear hd
  rw [Bool.false_and]
  clear hke
  go_enter Tryz.func146, Tryz.ntmps146
  go_wp2_with fail
  clear hw1
  have hS0 := HALL.out _ (Below.refl _ _).drew
  refine wp_region_held_drew (S := fun W => Below w1.heap.size w1 W ∧ W.cell? ⟨w.heap.size, 0, none⟩ = some (.string s1) ∧ W.cell? ⟨w.heap.size, 1, none⟩ = some (.slice A1 n1 c1) ∧ W.cell? ⟨w.heap.size + 1, 0, none⟩ = some (.string s2) ∧ W.cell? ⟨w.heap.size + 1, 1, none⟩ = some (.slice A2 n2 c2)) (by kernel_rfl) hS0 (fun _ => ?_)
  refine wpAnyH_take (i := 0) (v := .agg #[.string s1, .slice A1 n1 c1]) rfl (by kernel_rfl) (by kernel_rfl) (by kernel_rfl) (fun _ _ _ h => h) (Or.inl ⟨by rfl, fun W hW => by obtain ⟨_, q0, q1, q2, q3⟩ := hW; go_simp⟩) hS0 ?_
  try simp only [pU]
  refine wpAnyH_take (i := 2) (v := .agg #[.string s2, .slice A2 n2 c2]) rfl (by kernel_rfl) (by kernel_rfl) (by kernel_rfl) (fun _ _ _ h => h) (Or.inl ⟨by rfl, fun W hW => by obtain ⟨_, q0, q1, q2, q3⟩ := hW; go_simp⟩) hS0 ?_
  try simp only [pU]
  refine wpAnyH_ready (rs := [1]) (by kernel_rfl) (by simp) ?_
  refine AllReadyH.cons rfl (fun K hK => ?_) AllReadyH.nil
  go_simp
  refine (HK1.out _).mono ?_
  rintro e w7 ⟨rfl, hb7⟩
  have b7 : Below w1.heap.size w1 w7 := HKP.out _ _ (Below.refl _ _).drew hb7
  refine hK.out _ _ (HALL.out _ b7) (fun _ => ?_)
  clear hK K
  try simp only [pU]
  refine wpAnyH_ready (rs := [3]) (by kernel_rfl) (by simp) ?_
  refine AllReadyH.cons rfl (fun K hK => ?_) AllReadyH.nil
  go_simp
  refine (HK2.out _).mono ?_
  rintro e w8 ⟨rfl, hb8⟩
  have b8 : Below w1.heap.size w1 w8 := HKP.out _ _ b7 hb8
  have hS8 := HALL.out _ b8
  refine hK.out _ _ hS8 (fun _ => ?_)
  clear hK K hS0
  try simp only [pU]
  refine wpAnyH_take (i := 4) (v := .bool false) rfl (by kernel_rfl) (by kernel_rfl) (by kernel_rfl) (fun _ _ _ h => h) (Or.inl ⟨by rfl, fun W _ => by go_simp⟩) hS8 ?_
  try simp only [pU]
  refine wpAnyH_take (i := 5) (v := .bool false) rfl (by kernel_rfl) (by kernel_rfl) (by kernel_rfl) (fun _ _ _ h => h) (Or.inl ⟨by rfl, fun W _ => by go_simp⟩) hS8 ?_
  try simp only [pU]
  refine wpAnyH_take (i := 6) (v := undef) rfl (by kernel_rfl) (by kernel_rfl) (by kernel_rfl) (fun _ _ _ h => h) (Or.inr ⟨by rfl, rfl⟩) hS8 ?_
  try simp only [pU]
  refine wpAnyH_take (i := 7) (v := undef) rfl (by kernel_rfl) (by kernel_rfl) (by kernel_rfl) (fun _ _ _ h => h) (Or.inr ⟨by rfl, rfl⟩) hS8 ?_
  try simp only [pU]
  refine wpAnyH_take (i := 8) (v := undef) rfl (by kernel_rfl) (by kernel_rfl) (by kernel_rfl) (fun _ _ _ h => h) (Or.inr ⟨by rfl, rfl⟩) hS8 ?_
  try simp only [pU]
  refine wpAnyH_take (i := 9) (v := undef) rfl (by kernel_rfl) (by kernel_rfl) (by kernel_rfl) (fun _ _ _ h => h) (Or.inr ⟨by rfl, rfl⟩) hS8 ?_
  try simp only [pU]
  refine wpAnyH_take (i := 10) (v := undef) rfl (by kernel_rfl) (by kernel_rfl) (by kernel_rfl) (fun _ _ _ h => h) (Or.inr ⟨by rfl, rfl⟩) hS8 ?_
  try simp only [pU]
  refine wpAnyH_take (i := 11) (v := .bool false) rfl (by kernel_rfl) (by kernel_rfl) (by kernel_rfl) (fun _ _ _ h => h) (Or.inl ⟨by rfl, fun W _ => by go_simp⟩) hS8 ?_
  try simp only [pU]
  refine wpAnyH_take (i := 12) (v := .bool false) rfl (by kernel_rfl) (by kernel_rfl) (by kernel_rfl) (fun _ _ _ h => h) (Or.inl ⟨by rfl, fun W _ => by go_simp⟩) hS8 ?_
  try simp only [pU]
  refine wpAnyH_done (by kernel_rfl) ?_ _
  go_wp2_with fail
  go_ret
  exact ⟨rfl, HB1.out.trans (b8.mono (by omega))⟩
 | true =>
  rw [hd] at hke
  clear hd
  rw [Bool.true_and]
  go_enter Tryz.func146, Tryz.ntmps146
  go_wp2_with fail
  clear hw1
  go_region_held3 (fun W => Below w1.heap.size w1 W ∧ W.cell? ⟨w.heap.size, 0, none⟩ = some (.string s1) ∧ W.cell? ⟨w.heap.size, 1, none⟩ = some (.slice A1 n1 c1) ∧ W.cell? ⟨w.heap.size + 1, 0, none⟩ = some (.string s2) ∧ W.cell? ⟨w.heap.size + 1, 1, none⟩ = some (.slice A2 n2 c2))
   (first | exact HALL.out _ (Below.refl _ _) | exact HALL.out _ (Below.refl _ _).drew | exact HALL.out _ b7 | exact HALL.out _ b8 | exact HALL.out _ b9)
   (first
    | (go_at_call 93; (with_reducible refine (HK1.out _).mono ?_); rintro e w7 ⟨rfl, hb7⟩; have b7 : Below w1.heap.size w1 w7 := HKP.out _ _ (Below.refl _ _).drew hb7)
    | (go_at_call 93; (with_reducible refine (HK2.out _).mono ?_); rintro e w8 ⟨rfl, hb8⟩; have b8 : Below w1.heap.size w1 w8 := HKP.out _ _ b7 hb8)
    | (go_at_call 172; (with_reducible refine (HIE.out _ (HB1.out.trans (b8.mono (by omega)))).mono ?_); rintro e w9 ⟨rfl, hb9⟩; have b9 : Below w1.heap.size w1 w9 := HKP.out _ _ b8 hb9))
  go_wp2_with fail
  go_ret
  exact ⟨rfl, HB1.out.trans (b9.mono (by omega))⟩
theorem eqfunc_any (A1 : Option Addr) (c1 : Nat) (ds1 : List Pd) (A2 : Option Addr) (c2 : Nat) (ds2 : List Pd) (w : World) (hrow1 : PredRow w w.heap.size (.slice A1 ds1.length c1) ds1) (hrow2 : PredRow w w.heap.size (.slice A2 ds2.length c2) ds2) :
  Calls Tryz.prog 145 #[.slice A1 ds1.length c1, .slice A2 ds2.length c2, .func (.func 146) #[] #[]] w fun e w' => e = .returned (.bool (decide (ds1.map (·.p) = ds2.map (·.p)))) ∧ Below w.heap.size w w' := by
 obtain ⟨_, hc1, hc2⟩ : ∃ _ : True, ds1.length ≤ c1 ∧ c1 ≤ 9223372036854775807 := by
  obtain ⟨A', c', hv, q1, q2⟩ := hrow1.form
  injection hv with _ _ e3
  exact ⟨trivial, by omega, by omega⟩
 obtain ⟨_, hc3, hc4⟩ : ∃ _ : True, ds2.length ≤ c2 ∧ c2 ≤ 9223372036854775807 := by
  obtain ⟨A', c', hv, q1, q2⟩ := hrow2.form
  injection hv with _ _ e3
  exact ⟨trivial, by omega, by omega⟩
 by_cases hl : ds1.length = ds2.length
 ·have hyes := fun h => decide_eq_true (prs_ext (l := ds1.map (·.p)) (m := ds2.map (·.p)) (by simpa using hl) h)
  have hno := fun (i : Nat) (h : (ds1.map (·.p)).getD i default ≠ (ds2.map (·.p)).getD i default) => decide_eq_false (p := ds1.map (·.p) = ds2.map (·.p)) (fun e => h (by rw [e]))
  generalize decide (ds1.map (·.p) = ds2.map (·.p)) = R at hyes hno ⊢
  have HY := hid hyes
  have HN := hid hno
  have HR1 := hid hrow1
  have HR2 := hid hrow2
  clear hyes hno hrow1 hrow2
  rw [← hl] at hc3
  have HL := hid hl
  rw [← hl] at HR2 ⊢
  clear hl
  obtain ⟨N, hN⟩ : ∃ N, ds1.length = N := ⟨_, rfl⟩
  have HN1 := hid hN
  rw [hN] at HR1 HR2 hc1 hc3 HL ⊢
  clear hN
  go_enter Tryz.func145, Tryz.ntmps145
  go_wp2_with fail
  go_loopg [17] N (fun gk i wr => ∃ k : Nat, k ≤ N ∧ i = .int .i64 k ∧ Hid (N - k = gk) ∧ Hid (∀ j, j < k → (ds1.map (·.p)).getD j default = (ds2.map (·.p)).getD j default) ∧ Hid (Below w.heap.size w wr))
  case atStart => exact ⟨0, Nat.zero_le _, rfl, hid rfl, hid (fun j h => absurd h (Nat.not_lt_zero _)), hid (Below.refl _ _)⟩
  case round =>
   obtain ⟨k, hk, rfl, HGK, HJ, HBW⟩ := hrel
   by_cases hlt : k < N
   ·obtain ⟨d1, hd1⟩ : ∃ d, ds1[k]? = some d := ⟨_, List.getElem?_eq_getElem (by rw [HN1.out]; exact hlt)⟩
    obtain ⟨d2, hd2⟩ : ∃ d, ds2[k]? = some d := ⟨_, List.getElem?_eq_getElem (by rw [← HL.out]; exact hlt)⟩
    obtain ⟨b1, o1, rfl, hb1, x0, x1, hir1, hfit1, ha1, ha2⟩ := (HR1.out.below HBW.out).at hd1
    obtain ⟨b2, o2, rfl, hb2, y0, y1, hir2, hfit2, ha3, ha4⟩ := (HR2.out.below HBW.out).at hd2
    have e1 := getD_pr (at_pr hd1)
    have e2 := getD_pr (at_pr hd2)
    have hno := HN.out k
    rw [e1, e2] at hno
    have HNO := hid hno
    have HST := hid (fun (h : d1.p = d2.p) => step_lt (P := fun j => (ds1.map (·.p)).getD j default = (ds2.map (·.p)).getD j default) HJ.out (by rw [e1, e2]; exact h))
    have HSP := hid (fun W (h : Below w.heap.size wr W) => spred_any d1 d2 W hfit1.2.1 hfit2.2.1 ((hir1.below h).more (Nat.le_trans HBW.out.size h.size)) ((hir2.below h).more (Nat.le_trans HBW.out.size h.size)))
    obtain ⟨w1, hw1⟩ : ∃ w1, wr.alloc (.cells #[.string (strOfNums d1.p.name), .slice d1.A d1.p.args.length d1.c] 58) = w1 := ⟨_, rfl⟩
    obtain ⟨w2, hw2⟩ : ∃ w2, w1.alloc (.cells #[.string (strOfNums d2.p.name), .slice d2.A d2.p.args.length d2.c] 58) = w2 := ⟨_, rfl⟩
    have s1 : w1.heap.size = wr.heap.size + 1 := by rw [← hw1]; simp
    have s2 : w2.heap.size = wr.heap.size + 1 + 1 := by rw [← hw2]; simp [s1]
    have z0 := HBW.out.size
    have g1 : Below wr.heap.size wr w1 := by rw [← hw1]; exact (Below.refl _ _).alloc (Nat.le_refl _) _
    have g2 : Below w1.heap.size w1 w2 := by rw [← hw2]; exact (Below.refl _ _).alloc (Nat.le_refl _) _
    have h1 : Held w1 wr.heap.size 58 #[.string (strOfNums d1.p.name), .slice d1.A d1.p.args.length d1.c] := by rw [← hw1]; exact heap_alloc_new wr _
    have h2 : Held w2 (wr.heap.size + 1) 58 #[.string (strOfNums d2.p.name), .slice d2.A d2.p.args.length d2.c] := by rw [← hw2, ← s1]; exact heap_alloc_new w1 _
    have h1' := h1.below g2 (by omega)
    obtain ⟨p0, p1⟩ := cC2 h1'
    obtain ⟨p2, p3⟩ := cC2 h2
    simp at p0 p1 p2 p3
    have y0' := (g1.cell (p := ⟨b2, o2 + k * 2, none⟩) (by simpa using Nat.lt_of_lt_of_le hb2 z0)).trans y0
    have y1' := (g1.cell (p := ⟨b2, o2 + k * 2 + 1, none⟩) (by simpa using Nat.lt_of_lt_of_le hb2 z0)).trans y1
    have g12 := (g1.trans (g2.mono (by omega))).mono z0
    have HSQ := hid (HSP.out w2 g12)
    have HB2 := hid (HBW.out.trans g12)
    have hbz1 : b1 < w1.heap.size := by omega
    have hbz2 : b2 < w1.heap.size := by omega
    clear HSP hir1 hir2 hfit1 hfit2 e1 e2 hno hd1 hd2 h1 h2 h1' g1 g2 g12
    by_cases hp : d1.p = d2.p
    ·have HJ2 := hid (HST.out hp)
     rw [decide_eq_true hp] at HSQ
     clear hp
     go_wp2_with fail
     refine HSQ.out.mono ?_
     rintro e w3 ⟨rfl, hb3⟩
     have HB3 := hid (HB2.out.trans (hb3.mono (by omega)))
     clear hb3 p0 p1 p2 p3 x0 x1 y0 y1 y0' y1'
     go_wp2_with fail
     go_roundg (N - (k + 1))
     case measure => have := HGK.out; omega
     case rel => exact ⟨k + 1, by omega, by go_num, hid rfl, HJ2, HB3⟩
    ·have HR := hid (HNO.out hp)
     rw [decide_eq_false hp] at HSQ
     clear hp
     go_wp2_with fail
     refine HSQ.out.mono ?_
     rintro e w3 ⟨rfl, hb3⟩
     have HB3 := hid (HB2.out.trans (hb3.mono (by omega)))
     clear hb3 p0 p1 p2 p3 x0 x1 y0 y1 y0' y1'
     go_wp2_with fail
     go_ret
     exact ⟨by rw [HR.out]; rfl, HB3.out⟩
   ·obtain rfl : k = N := by omega
    have HR := hid (HY.out (fun i hi => HJ.out i (by rw [List.length_map, HN1.out] at hi; exact hi)))
    go_wp2_with fail
    go_ret
    exact ⟨by rw [HR.out]; rfl, HBW.out⟩
 ·have hlb : ((ds1.length : Int) != (ds2.length : Int)) = true := bne_iff_ne.2 (by omega)
  have hf : decide (ds1.map (·.p) = ds2.map (·.p)) = false := decide_eq_false (fun e => hl (by have := congrArg List.length e; simpa using this))
  rw [hf]
  clear hf hrow1 hrow2
  go_enter Tryz.func145, Tryz.ntmps145
  go_wp2_with fail
  go_ret
  exact ⟨rfl, Below.refl _ _⟩
theorem ssame_any : SameC := by
 intro A1 c1 ds1 A2 c2 ds2 w hrow1 hrow2
 have HE := hid (eqfunc_any A1 c1 ds1 A2 c2 ds2 w hrow1 hrow2)
 clear hrow1 hrow2
 generalize decide (ds1.map (·.p) = ds2.map (·.p)) = R at HE ⊢
 go_enter Tryz.func109, Tryz.ntmps109
 go_wp2_with fail
 refine HE.out.mono ?_
 rintro e w1 ⟨rfl, hb⟩
 go_wp2_with fail
 go_ret
 exact ⟨rfl, hb⟩
end Go.Proofs.YtnlfcmbpocdpjaaGreat
