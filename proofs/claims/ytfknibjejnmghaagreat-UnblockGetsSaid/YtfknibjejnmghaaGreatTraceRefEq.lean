/-
  The document's own answer: are two traces the same?
-/
import Derived.Test.YtfknibjejnmghaaGreatTraceEqs
import Derived.Deep.RegionHeld3
import Derived.BigQuiet
namespace Go.Proofs.YtfknibjejnmghaaGreat
open Go.RowKit

set_option maxRecDepth 100000 in
set_option maxHeartbeats 2000000 in
theorem revsame_any (d1 d2 : Em) (w : World) (g1 : d1.Ok w w.heap.size) (g2 : d2.Ok w w.heap.size) :
    Calls Tryz.prog 27 #[d1.val, d2.val] w fun e w' => e = .returned (.bool (decide (d1.e = d2.e))) ∧ Below w.heap.size w w' := by
  obtain ⟨-, hc1, hc2⟩ := g1.1.1.len
  obtain ⟨-, hc3, hc4⟩ := g2.1.1.len
  have f1 := g1.2
  have f2 := g2.2
  rw [ev_eq_dec]
  obtain ⟨p1, l1, A1, c1⟩ := d1
  obtain ⟨p2, l2, A2, c2⟩ := d2
  unfold Em.Fits at f1 f2
  dsimp only at hc1 hc2 hc3 hc4 f1 f2 ⊢
  dsimp only [Em.val]
  have HI1 := Lib.hid (fun W (h : Below w.heap.size w W) => g1.1.below h)
  have HI2 := Lib.hid (fun W (h : Below w.heap.size w W) => g2.1.below h)
  dsimp only at HI1 HI2
  clear g1 g2
  obtain ⟨w1, hw1⟩ : ∃ w1, (w.alloc (.cells #[.int .i64 p1, .slice A1 l1.length c1] 53)).alloc (.cells #[.int .i64 p2, .slice A2 l2.length c2] 53) = w1 := ⟨_, rfl⟩
  have s1 : w1.heap.size = w.heap.size + 1 + 1 := by rw [← hw1]; simp
  have b1 : Below w.heap.size w w1 := by rw [← hw1]; exact ((Below.refl _ _).alloc (Nat.le_refl _) _).alloc (by simp) _
  have h1 : Held w1 w.heap.size 53 #[.int .i64 p1, .slice A1 l1.length c1] := by
    rw [← hw1]
    exact Held.below (heap_alloc_new w _) ((Below.refl _ _).alloc (Nat.le_refl _) _) (by simp)
  have h2 : Held w1 (w.heap.size + 1) 53 #[.int .i64 p2, .slice A2 l2.length c2] := by
    rw [← hw1, show w.heap.size + 1 = (w.alloc (.cells #[.int .i64 p1, .slice A1 l1.length c1] 53)).heap.size by simp]
    exact heap_alloc_new _ _
  have e0 := h1.cell 0
  have e1 := h1.cell 1
  have e2 := h2.cell 0
  have e3 := h2.cell 1
  simp at e0 e1 e2 e3
  have HB1 := Lib.hid b1
  by_cases hd : p1 = p2
  case neg =>
    have hb1 : (p1 != p2) = true := bne_iff_ne.2 hd
    rw [decide_eq_false hd, Bool.false_and]
    clear hd h1 h2 b1
    go_enter Tryz.func27, Tryz.ntmps27
    go_wp2_with fail
    go_ret
    exact ⟨rfl, HB1.out⟩
  case pos =>
    subst hd
    rw [decide_eq_true rfl, Bool.true_and]
    have hbb : (p1 != p1) = false := by simp
    by_cases hl : l1.length = l2.length
    · have hyes := fun h => decide_eq_true (lst_ext (l := l1) (m := l2) hl h)
      have hno := fun (i : Nat) (h : l1.getD i default ≠ l2.getD i default) => decide_eq_false (p := l1 = l2) (fun e => h (by rw [e]))
      generalize decide (l1 = l2) = R at hyes hno ⊢
      have HY := Lib.hid hyes
      have HN := Lib.hid hno
      have HL := Lib.hid hl
      rw [← hl] at HI2 hc3 e3 hw1 h2 ⊢
      have hll : ((l1.length : Int) != (l1.length : Int)) = false := by simp
      have HE1 := Lib.hid (fun W (h : Below w1.heap.size w1 W) => (h1.below h (by omega)).cell 1)
      have HE3 := Lib.hid (fun W (h : Below w1.heap.size w1 W) => (h2.below h (by omega)).cell 1)
      simp at HE1 HE3
      have HS1 := Lib.hid s1
      clear hl hyes hno h1 h2 b1
      go_enter Tryz.func27, Tryz.ntmps27
      go_wp2_with fail
      clear e0 e1 e2 e3 hw1
      go_loopg [5] l1.length (fun gm i wr2 => ∃ m : Nat, m ≤ l1.length ∧ i = .int .i64 m ∧ Hid (l1.length - m = gm) ∧ Hid (∀ j, j < m → l1.getD j default = l2.getD j default) ∧ Hid (Below w1.heap.size w1 wr2))
      case atStart => exact ⟨0, Nat.zero_le _, rfl, Lib.hid rfl, Lib.hid (fun j h => absurd h (Nat.not_lt_zero _)), Lib.hid (Below.refl _ _)⟩
      case round =>
        obtain ⟨m, hm, rfl, HGM, HI, HB2⟩ := hrel
        have x1 := HE1.out _ HB2.out
        have x3 := HE3.out _ HB2.out
        by_cases hml : m < l1.length
        · have hbw2 := HB1.out.trans (HB2.out.mono (by omega))
          obtain ⟨x, hx⟩ : ∃ x, l1[m]? = some x := ⟨_, List.getElem?_eq_getElem hml⟩
          obtain ⟨y, hy⟩ : ∃ y, l2[m]? = some y := ⟨_, List.getElem?_eq_getElem (by rw [← HL.out]; exact hml)⟩
          obtain ⟨q1, r1, rfl, hq1, s0, s1, s2, fx⟩ := (HI1.out _ hbw2).at hx
          obtain ⟨q2, r2, rfl, hq2, t0, t1, t2, fy⟩ := (HI2.out _ hbw2).at hy
          have e1 := getD_of hx
          have e2 := getD_of hy
          have hne := fun W => run_neq_arg W fx fy
          by_cases he : x = y
          · have HI3 := Lib.hid (step_lt (P := fun j => l1.getD j default = l2.getD j default) HI.out (by rw [e1, e2, he]))
            rw [decide_eq_true he] at hne
            clear he hbw2 fx fy e1 e2 hx hy
            go_wp2_with fail
            go_quiet (fail)
            go_wp2_with fail
            go_roundg (l1.length - (m + 1))
            case measure => have := HGM.out; omega
            case rel => exact ⟨m + 1, by omega, by go_num, Lib.hid rfl, HI3, Lib.hid (HB2.out.trans (drewN_low _ _ _))⟩
          · have HR := Lib.hid (HN.out m (by rw [e1, e2]; exact he))
            rw [decide_eq_false he] at hne
            clear he fx fy e1 e2 hx hy
            have HB3 := Lib.hid hbw2
            clear hbw2
            go_wp2_with fail
            go_quiet (fail)
            go_wp2_with fail
            go_ret
            exact ⟨by rw [HR.out]; rfl, HB3.out.trans (drewN_low _ _ _)⟩
        · obtain rfl : m = l1.length := by omega
          have HR := Lib.hid (HY.out HI.out)
          have HB3 := Lib.hid (HB1.out.trans (HB2.out.mono (by omega)))
          go_wp2_with fail
          go_ret
          exact ⟨by rw [HR.out]; rfl, HB3.out⟩
    · have hlb : ((l1.length : Int) != (l2.length : Int)) = true := bne_iff_ne.2 (by omega)
      have hf : decide (l1 = l2) = false := decide_eq_false (fun e => hl (by rw [e]))
      rw [hf]
      clear hf hl h1 h2 b1
      go_enter Tryz.func27, Tryz.ntmps27
      go_wp2_with fail
      go_ret
      exact ⟨rfl, HB1.out⟩
#print axioms revsame_any

set_option maxRecDepth 100000 in
set_option maxHeartbeats 4000000 in
theorem rtsame_any (A1 : Option Addr) (c1 : Nat) (ds1 : List Pm) (A2 : Option Addr) (c2 : Nat) (ds2 : List Pm) (w : World) (hrow1 : TrRow w w.heap.size (.slice A1 ds1.length c1) ds1) (hrow2 : TrRow w w.heap.size (.slice A2 ds2.length c2) ds2) :
    Calls Tryz.prog 10 #[.slice A1 ds1.length c1, .slice A2 ds2.length c2] w fun e w' => e = .returned (.bool (decide (ds1.map (·.p) = ds2.map (·.p)))) ∧ Below w.heap.size w w' := by
  obtain ⟨-, hc1, hc2⟩ := hrow1.1.len
  obtain ⟨-, hc3, hc4⟩ := hrow2.1.len
  by_cases hl : ds1.length = ds2.length
  · have hyes := fun h => decide_eq_true (lst_ext (l := ds1.map (·.p)) (m := ds2.map (·.p)) (by simpa using hl) h)
    have hno := fun (i : Nat) (h : (ds1.map (·.p)).getD i default ≠ (ds2.map (·.p)).getD i default) => decide_eq_false (p := ds1.map (·.p) = ds2.map (·.p)) (fun e => h (by rw [e]))
    generalize decide (ds1.map (·.p) = ds2.map (·.p)) = R at hyes hno ⊢
    have HY := Lib.hid hyes
    have HN := Lib.hid hno
    have HR1 := Lib.hid hrow1
    have HR2 := Lib.hid hrow2
    clear hyes hno hrow1 hrow2
    rw [← hl] at hc3
    have HL := Lib.hid hl
    rw [← hl] at HR2 ⊢
    clear hl
    obtain ⟨N, hN⟩ : ∃ N, ds1.length = N := ⟨_, rfl⟩
    have HN1 := Lib.hid hN
    rw [hN] at HR1 HR2 hc1 hc3 HL ⊢
    clear hN
    go_enter Tryz.func10, Tryz.ntmps10
    go_wp2_with fail
    go_loopg [5] N (fun gk i wr => ∃ k : Nat, k ≤ N ∧ i = .int .i64 k ∧ Hid (N - k = gk) ∧ Hid (∀ j, j < k → (ds1.map (·.p)).getD j default = (ds2.map (·.p)).getD j default) ∧ Hid (Below w.heap.size w wr))
    case atStart => exact ⟨0, Nat.zero_le _, rfl, Lib.hid rfl, Lib.hid (fun j h => absurd h (Nat.not_lt_zero _)), Lib.hid (Below.refl _ _)⟩
    case round =>
      obtain ⟨k, hk, rfl, HGK, HJ, HBW⟩ := hrel
      by_cases hlt : k < N
      · obtain ⟨d1, hd1⟩ : ∃ d, ds1[k]? = some d := ⟨_, List.getElem?_eq_getElem (by rw [HN1.out]; exact hlt)⟩
        obtain ⟨d2, hd2⟩ : ∃ d, ds2[k]? = some d := ⟨_, List.getElem?_eq_getElem (by rw [← HL.out]; exact hlt)⟩
        obtain ⟨b1, o1, rfl, hb1, x0, x1, hok1, ha1, ha2⟩ := (HR1.out.below HBW.out).at hd1
        obtain ⟨b2, o2, rfl, hb2, y0, y1, hok2, ha3, ha4⟩ := (HR2.out.below HBW.out).at hd2
        have e1 := getD_of (at_pn hd1)
        have e2 := getD_of (at_pn hd2)
        have hno := HN.out k
        rw [e1, e2] at hno
        have hst := fun (h : d1.p = d2.p) => step_lt (P := fun j => (ds1.map (·.p)).getD j default = (ds2.map (·.p)).getD j default) HJ.out (by rw [e1, e2]; exact h)
        have f1 := hok1.2
        have f2 := hok2.2
        have hiv1 := hok1.1
        have hiv2 := hok2.1
        clear e1 e2 hd1 hd2 hok1 hok2
        have hpd := pn_eq_dec d1 d2
        obtain ⟨p1, l1, B1, e1⟩ := d1
        obtain ⟨p2, l2, B2, e2⟩ := d2
        unfold Pm.Fits at f1 f2
        dsimp only at x0 x1 y0 y1 hiv1 hiv2 ha1 ha2 ha3 ha4 hno hst f1 f2 hpd
        by_cases htm : p1 = p2
        · subst htm
          have htb : (p1 != p1) = false := by simp
          by_cases hal : l1.length = l2.length
          · have HNO := Lib.hid (fun m (h : (l1.map (·.e)).getD m default ≠ (l2.map (·.e)).getD m default) => hno (fun e => h (by injection e with _ e; rw [e])))
            have HST := Lib.hid (fun h => hst (by simpa [Pm.p] using lst_ext (l := l1.map (·.e)) (m := l2.map (·.e)) (by simpa using hal) h))
            have HI1 := Lib.hid (fun W (h : Below w.heap.size wr W) => hiv1.below h)
            have HI2 := Lib.hid (fun W (h : Below w.heap.size wr W) => hiv2.below h)
            have HXX := Lib.hid (fun W (h : Below w.heap.size wr W) => (h.cell (p := ⟨b1, o1 + k * 2 + 1, none⟩) hb1).trans x1)
            have HYY := Lib.hid (fun W (h : Below w.heap.size wr W) => (h.cell (p := ⟨b2, o2 + k * 2 + 1, none⟩) hb2).trans y1)
            have HAL := Lib.hid hal
            clear hno hst hiv1 hiv2 hpd
            rw [← hal] at ha3
            have hlen2 : l2.length = l1.length := hal.symm
            have hll : ((l1.length : Int) != (l1.length : Int)) = false := by simp
            rw [hlen2] at y1 HI2 HYY
            clear hal hlen2
            go_wp2_with fail
            go_quiet (fail)
            go_wp2_with fail
            clear x0 x1 y0 y1
            obtain ⟨wx, hwx⟩ : ∃ wx, wx = wr := ⟨_, rfl⟩
            subst hwx
            go_loopg [6] l1.length (fun gm i wr2 => ∃ m : Nat, m ≤ l1.length ∧ i = .int .i64 m ∧ Hid (l1.length - m = gm) ∧ Hid (∀ j, j < m → (l1.map (·.e)).getD j default = (l2.map (·.e)).getD j default) ∧ Hid (Below w.heap.size wx wr2))
            case atStart => exact ⟨0, Nat.zero_le _, rfl, Lib.hid rfl, Lib.hid (fun j h => absurd h (Nat.not_lt_zero _)), Lib.hid (drewN_low _ _ _)⟩
            case round =>
              obtain ⟨m, hm, rfl, HGM, HI, HB2⟩ := hrel
              have x1' := HXX.out _ HB2.out
              by_cases hml : m < l1.length
              · obtain ⟨v1, hv1⟩ : ∃ x, l1[m]? = some x := ⟨_, List.getElem?_eq_getElem hml⟩
                obtain ⟨v2, hv2⟩ : ∃ x, l2[m]? = some x := ⟨_, List.getElem?_eq_getElem (by rw [← HAL.out]; exact hml)⟩
                obtain ⟨q1, r1, rfl, hq1, s0, s1, hk1, hl1, hl2⟩ := (HI1.out _ HB2.out).at hv1
                obtain ⟨q2, r2, rfl, hq2, t0, t1, hk2, hl3, hl4⟩ := (HI2.out _ HB2.out).at hv2
                have g1 := hk1.2
                have g2 := hk2.2
                unfold Em.Fits at g1 g2
                have z2 := (HBW.out.trans HB2.out).size
                have hall : ∀ W, Below w.heap.size wr W → W.cell? ⟨b1, o1 + k * 2 + 1, none⟩ = some (.slice (some ⟨q1, r1, none⟩) l1.length e1) ∧ W.cell? ⟨b2, o2 + k * 2 + 1, none⟩ = some (.slice (some ⟨q2, r2, none⟩) l1.length e2) ∧
                    W.cell? ⟨q1, r1 + m * 2, none⟩ = some (.int .i64 v1.p) ∧ W.cell? ⟨q1, r1 + m * 2 + 1, none⟩ = some (.slice v1.A v1.args.length v1.c) ∧ W.cell? ⟨q2, r2 + m * 2, none⟩ = some (.int .i64 v2.p) ∧ W.cell? ⟨q2, r2 + m * 2 + 1, none⟩ = some (.slice v2.A v2.args.length v2.c) := fun W h =>
                  ⟨HXX.out _ (HB2.out.trans h), HYY.out _ (HB2.out.trans h), (h.cell (p := ⟨q1, r1 + m * 2, none⟩) hq1).trans s0, (h.cell (p := ⟨q1, r1 + m * 2 + 1, none⟩) hq1).trans s1, (h.cell (p := ⟨q2, r2 + m * 2, none⟩) hq2).trans t0, (h.cell (p := ⟨q2, r2 + m * 2 + 1, none⟩) hq2).trans t1⟩
                have HALL := Lib.hid hall
                have HEV := Lib.hid (fun W (h : Below w.heap.size wr W) => revsame_any v1 v2 W ((hk1.below h).more (Nat.le_trans z2 h.size)) ((hk2.below h).more (Nat.le_trans z2 h.size)))
                have E1 := getD_of (at_ev hv1)
                have E2 := getD_of (at_ev hv2)
                have HE := Lib.hid (And.intro E1 E2)
                clear hall hk1 hk2 hv1 hv2 E1 E2
                by_cases hp : v1.e = v2.e
                · have HJ2 := Lib.hid (step_lt (P := fun j => (l1.map (·.e)).getD j default = (l2.map (·.e)).getD j default) HI.out (by rw [HE.out.1, HE.out.2]; exact hp))
                  rw [decide_eq_true hp] at HEV
                  clear hp
                  go_wp2_with fail
                  go_region_held3 (fun W => W.cell? ⟨b1, o1 + k * 2 + 1, none⟩ = some (.slice (some ⟨q1, r1, none⟩) l1.length e1) ∧ W.cell? ⟨b2, o2 + k * 2 + 1, none⟩ = some (.slice (some ⟨q2, r2, none⟩) l1.length e2) ∧
                    W.cell? ⟨q1, r1 + m * 2, none⟩ = some (.int .i64 v1.p) ∧ W.cell? ⟨q1, r1 + m * 2 + 1, none⟩ = some (.slice v1.A v1.args.length v1.c) ∧ W.cell? ⟨q2, r2 + m * 2, none⟩ = some (.int .i64 v2.p) ∧ W.cell? ⟨q2, r2 + m * 2 + 1, none⟩ = some (.slice v2.A v2.args.length v2.c))
                    (first | exact HALL.out _ (Below.refl _ _) | exact HALL.out _ (Below.refl _ _).drew | exact HALL.out _ b7)
                    (first | (go_at_call 27; (with_reducible refine (HEV.out _ (Below.refl _ _).drew).mono ?_); rintro e w7 ⟨rfl, hb7⟩; have b7 : Below w.heap.size wr w7 := (Below.refl _ _).drew.trans (hb7.mono z2)))
                  have HB7 := Lib.hid (HB2.out.trans b7)
                  clear b7 hb7 s0 s1 t0 t1 x1'
                  go_wp2_with fail
                  go_roundg (l1.length - (m + 1))
                  case measure => have := HGM.out; omega
                  case rel => exact ⟨m + 1, by omega, by go_num, Lib.hid rfl, HJ2, HB7⟩
                · have HR := Lib.hid (HNO.out m (by rw [HE.out.1, HE.out.2]; exact hp))
                  rw [decide_eq_false hp] at HEV
                  clear hp
                  go_wp2_with fail
                  go_region_held3 (fun W => W.cell? ⟨b1, o1 + k * 2 + 1, none⟩ = some (.slice (some ⟨q1, r1, none⟩) l1.length e1) ∧ W.cell? ⟨b2, o2 + k * 2 + 1, none⟩ = some (.slice (some ⟨q2, r2, none⟩) l1.length e2) ∧
                    W.cell? ⟨q1, r1 + m * 2, none⟩ = some (.int .i64 v1.p) ∧ W.cell? ⟨q1, r1 + m * 2 + 1, none⟩ = some (.slice v1.A v1.args.length v1.c) ∧ W.cell? ⟨q2, r2 + m * 2, none⟩ = some (.int .i64 v2.p) ∧ W.cell? ⟨q2, r2 + m * 2 + 1, none⟩ = some (.slice v2.A v2.args.length v2.c))
                    (first | exact HALL.out _ (Below.refl _ _) | exact HALL.out _ (Below.refl _ _).drew | exact HALL.out _ b7)
                    (first | (go_at_call 27; (with_reducible refine (HEV.out _ (Below.refl _ _).drew).mono ?_); rintro e w7 ⟨rfl, hb7⟩; have b7 : Below w.heap.size wr w7 := (Below.refl _ _).drew.trans (hb7.mono z2)))
                  have HB7 := Lib.hid ((HBW.out.trans HB2.out).trans b7)
                  clear b7 hb7 s0 s1 t0 t1 x1'
                  go_wp2_with fail
                  go_ret
                  exact ⟨by rw [HR.out]; rfl, HB7.out⟩
              · obtain rfl : m = l1.length := by omega
                have HJ2 := Lib.hid (HST.out (fun i hi => HI.out i (by rw [List.length_map] at hi; exact hi)))
                go_wp2_with fail
                go_roundg (N - (k + 1))
                case measure => have := HGK.out; omega
                case rel => exact ⟨k + 1, by omega, by go_num, Lib.hid rfl, HJ2, Lib.hid (HBW.out.trans HB2.out)⟩
          · have hR := hno (fun h => hal (by injection h with _ h; have := congrArg List.length h; simpa using this))
            have hne : ((l1.length : Int) != (l2.length : Int)) = true := bne_iff_ne.2 (by omega)
            have HR := Lib.hid hR
            clear hno hst hR hiv1 hiv2 hpd
            go_wp2_with fail
            go_quiet (fail)
            go_wp2_with fail
            go_ret
            exact ⟨by rw [HR.out]; rfl, HBW.out.trans (drewN_low _ _ _)⟩
        · have hR := hno (fun h => htm (by injection h))
          have hne : (p1 != p2) = true := bne_iff_ne.2 htm
          have HR := Lib.hid hR
          clear hno hst hR hiv1 hiv2 htm hpd
          go_wp2_with fail
          go_quiet (fail)
          go_wp2_with fail
          go_ret
          exact ⟨by rw [HR.out]; rfl, HBW.out.trans (drewN_low _ _ _)⟩
      · obtain rfl : k = N := by omega
        have HR := Lib.hid (HY.out (fun i hi => HJ.out i (by rw [List.length_map, HN1.out] at hi; exact hi)))
        go_wp2_with fail
        go_ret
        exact ⟨by rw [HR.out]; rfl, HBW.out⟩
  · have hlb : ((ds1.length : Int) != (ds2.length : Int)) = true := bne_iff_ne.2 (by omega)
    have hf : decide (ds1.map (·.p) = ds2.map (·.p)) = false := decide_eq_false (fun e => hl (by have := congrArg List.length e; simpa using this))
    rw [hf]
    clear hf hrow1 hrow2
    go_enter Tryz.func10, Tryz.ntmps10
    go_wp2_with fail
    go_ret
    exact ⟨rfl, Below.refl _ _⟩
#print axioms rtsame_any
end Go.Proofs.YtfknibjejnmghaaGreat
