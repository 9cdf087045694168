/-
  The document's own answer: are two signatures the same?
-/
import Derived.Test.YtnjhkjlekepjoaaSigRefs
import Derived.Deep.QuietTactic
import Derived.BigQuiet
namespace Go.Proofs.Ytnjhkjlekepjoaa
open Go.RowKit

theorem prs_ext {l m : List Pr} (hl : l.length = m.length) (h : ∀ i, i < l.length → l.getD i default = m.getD i default) : l = m := by
  refine List.ext_getElem hl fun i h1 h2 => ?_
  have := h i h1
  simpa [List.getD, List.getElem?_eq_getElem h1, List.getElem?_eq_getElem h2] using this
theorem args_ext {l m : List Int} (hl : l.length = m.length) (h : ∀ i, i < l.length → l.getD i 0 = m.getD i 0) : l = m := by
  refine List.ext_getElem hl fun i h1 h2 => ?_
  have := h i h1
  simpa [List.getD, List.getElem?_eq_getElem h1, List.getElem?_eq_getElem h2] using this

theorem drewN_low (w : World) (n : Nat) (B : Nat) : Below B w (w.drewN n) := ⟨rfl, rfl, rfl, Nat.le_refl _, fun _ _ => rfl⟩

set_option maxRecDepth 100000 in
set_option maxHeartbeats 2000000 in
theorem rsigsame_any (A1 : Option Addr) (c1 : Nat) (ds1 : List Pd) (A2 : Option Addr) (c2 : Nat) (ds2 : List Pd) (w : World) (hrow1 : PredRow w w.heap.size (.slice A1 ds1.length c1) ds1) (hrow2 : PredRow w w.heap.size (.slice A2 ds2.length c2) ds2) :
    Calls Try.prog 14 #[.slice A1 ds1.length c1, .slice A2 ds2.length c2] w fun e w' => e = .returned (.bool (decide (ds1.map (·.p) = ds2.map (·.p)))) ∧ Below w.heap.size w w' := by
  obtain ⟨_, hc1, hc2⟩ : ∃ _ : True, ds1.length ≤ c1 ∧ c1 ≤ 9223372036854775807 := by
    obtain ⟨A', c', hv, q1, q2⟩ := hrow1.form
    injection hv with _ _ e3
    exact ⟨trivial, by omega, by omega⟩
  obtain ⟨_, hc3, hc4⟩ : ∃ _ : True, ds2.length ≤ c2 ∧ c2 ≤ 9223372036854775807 := by
    obtain ⟨A', c', hv, q1, q2⟩ := hrow2.form
    injection hv with _ _ e3
    exact ⟨trivial, by omega, by omega⟩
  by_cases hl : ds1.length = ds2.length
  · have hyes := fun h => decide_eq_true (prs_ext (l := ds1.map (·.p)) (m := ds2.map (·.p)) (by simpa using hl) h)
    have hno := fun (i : Nat) (h : (ds1.map (·.p)).getD i default ≠ (ds2.map (·.p)).getD i default) => decide_eq_false (p := ds1.map (·.p) = ds2.map (·.p)) (fun e => h (by rw [e]))
    generalize decide (ds1.map (·.p) = ds2.map (·.p)) = R at hyes hno ⊢
    have HY := Lib.hid hyes
    have HN := Lib.hid hno
    have HR1 := Lib.hid hrow1
    have HR2 := Lib.hid hrow2
    clear hyes hno hrow1 hrow2
    rw [← hl] at hc3
    have HL := Lib.hid hl
    rw [← hl] at HR2 ⊢
    clear hl
    obtain ⟨N, hN⟩ : ∃ N, ds1.length = N := ⟨_, rfl⟩
    have HN1 := Lib.hid hN
    rw [hN] at HR1 HR2 hc1 hc3 HL ⊢
    clear hN
    go_enter Try.func14, Try.ntmps14
    go_wp2_with fail
    go_loopg [5] N (fun gk i wr => ∃ k : Nat, k ≤ N ∧ i = .int .i64 k ∧ Hid (N - k = gk) ∧ Hid (∀ j, j < k → (ds1.map (·.p)).getD j default = (ds2.map (·.p)).getD j default) ∧ Below w.heap.size w wr)
    case atStart => exact ⟨0, Nat.zero_le _, rfl, Lib.hid rfl, Lib.hid (fun j h => absurd h (Nat.not_lt_zero _)), Below.refl _ _⟩
    case round =>
      obtain ⟨k, hk, rfl, HGK, HJ, hbw⟩ := hrel
      by_cases hlt : k < N
      · obtain ⟨d1, hd1⟩ : ∃ d, ds1[k]? = some d := ⟨_, List.getElem?_eq_getElem (by rw [HN1.out]; exact hlt)⟩
        obtain ⟨d2, hd2⟩ : ∃ d, ds2[k]? = some d := ⟨_, List.getElem?_eq_getElem (by rw [← HL.out]; exact hlt)⟩
        obtain ⟨b1, o1, rfl, hb1, x0, x1, hir1, hfit1, ha1, ha2⟩ := (HR1.out.below hbw).at hd1
        obtain ⟨b2, o2, rfl, hb2, y0, y1, hir2, hfit2, ha3, ha4⟩ := (HR2.out.below hbw).at hd2
        have e1 := getD_pr (at_pr hd1)
        have e2 := getD_pr (at_pr hd2)
        have hno := HN.out k
        rw [e1, e2] at hno
        have hst := fun (h : d1.p = d2.p) => step_lt (P := fun j => (ds1.map (·.p)).getD j default = (ds2.map (·.p)).getD j default) HJ.out (by rw [e1, e2]; exact h)
        have hf1 := hfit1.2.1
        have hf2 := hfit2.2.1
        clear e1 e2 hd1 hd2 hfit1 hfit2
        obtain ⟨⟨nm1, as1⟩, B1, e1⟩ := d1
        obtain ⟨⟨nm2, as2⟩, B2, e2⟩ := d2
        simp only at x0 x1 y0 y1 hir1 hir2 ha1 ha2 ha3 ha4 hno hst hf1 hf2
        by_cases hnm : nm1 = nm2
        · subst hnm
          by_cases hal : as1.length = as2.length
          · have hne : ((as1.length : Int) != (as2.length : Int)) = false := by rw [hal]; simp
            have HNO := Lib.hid (fun m (h : as1.getD m 0 ≠ as2.getD m 0) => hno (fun e => h (by injection e with _ e; rw [e])))
            have HST := Lib.hid (fun h => hst (by rw [args_ext hal h]))
            have HI1 := Lib.hid (fun W (h : Below w.heap.size wr W) => hir1.below h)
            have HI2 := Lib.hid (fun W (h : Below w.heap.size wr W) => hir2.below h)
            have hxx := fun W (h : Below w.heap.size wr W) => (h.cell (p := ⟨b1, o1 + k * 2 + 1, none⟩) hb1).trans x1
            have hyy := fun W (h : Below w.heap.size wr W) => (h.cell (p := ⟨b2, o2 + k * 2 + 1, none⟩) hb2).trans y1
            have HXX := Lib.hid hxx
            have HYY := Lib.hid hyy
            have HBW := Lib.hid hbw
            clear hno hst hf1 hf2 hir1 hir2 hxx hyy hbw
            rw [← hal] at ha3
            have HAL := Lib.hid hal
            clear hal
            have hlen2 : as2.length = as1.length := HAL.out.symm
            rw [hlen2] at y1 hne HI2 HYY
            clear hlen2
            go_wp2_with fail
            go_quiet (fail)
            go_wp2_with fail
            go_loopg [6] as1.length (fun gm i wr2 => ∃ m : Nat, m ≤ as1.length ∧ i = .int .i64 m ∧ Hid (as1.length - m = gm) ∧ Hid (∀ j, j < m → as1.getD j 0 = as2.getD j 0) ∧ Below w.heap.size wr wr2)
            case atStart => exact ⟨0, Nat.zero_le _, rfl, Lib.hid rfl, Lib.hid (fun j h => absurd h (Nat.not_lt_zero _)), drewN_low _ _ _⟩
            case round =>
              obtain ⟨m, hm, rfl, HGM, HI, hbw2⟩ := hrel
              have x1' := HXX.out _ hbw2
              have y1' := HYY.out _ hbw2
              by_cases hml : m < as1.length
              · obtain ⟨q1, r1, rfl, hq1, t1⟩ := (HI1.out _ hbw2).at hml
                obtain ⟨q2, r2, rfl, hq2, t2⟩ := (HI2.out _ hbw2).at (by rw [← HAL.out]; exact hml)
                by_cases he : as1.getD m 0 = as2.getD m 0
                · have HI3 := Lib.hid (step_lt (P := fun j => as1.getD j 0 = as2.getD j 0) HI.out he)
                  rw [he] at t1
                  generalize as2.getD m 0 = t at t1 t2
                  have HB2 := Lib.hid hbw2
                  clear he hbw2 x1 y1
                  go_wp2_with fail
                  go_quiet (fail)
                  go_wp2_with fail
                  go_roundg (as1.length - (m + 1))
                  case measure => have := HGM.out; omega
                  case rel => exact ⟨m + 1, by omega, by go_num, Lib.hid rfl, HI3, HB2.out.trans (drewN_low _ _ _)⟩
                · have HR := Lib.hid (HNO.out m he)
                  generalize as1.getD m 0 = s1 at t1 he
                  generalize as2.getD m 0 = s2 at t2 he
                  have hse : (s1 != s2) = true := bne_iff_ne.2 he
                  have HB2 := Lib.hid hbw2
                  clear he hbw2 x1 y1
                  go_wp2_with fail
                  go_quiet (fail)
                  go_wp2_with fail
                  go_ret
                  exact ⟨by rw [HR.out]; rfl, (HBW.out.trans HB2.out).trans (drewN_low _ _ _)⟩
              · obtain rfl : m = as1.length := by omega
                have HJ2 := Lib.hid (HST.out HI.out)
                have HB2 := Lib.hid hbw2
                clear hbw2 x1 y1
                go_wp2_with fail
                go_roundg (N - (k + 1))
                case measure => have := HGK.out; omega
                case rel => exact ⟨k + 1, by omega, by go_num, Lib.hid rfl, HJ2, HBW.out.trans HB2.out⟩
          · have hR := hno (fun h => hal (by injection h with _ h; rw [h]))
            have hne : ((as1.length : Int) != (as2.length : Int)) = true := bne_iff_ne.2 (by omega)
            have HR := Lib.hid hR
            clear hno hst hf1 hf2 hR hir1 hir2
            have HBW := Lib.hid hbw
            clear hbw
            go_wp2_with fail
            go_quiet (fail)
            go_wp2_with fail
            go_ret
            exact ⟨by rw [HR.out]; rfl, HBW.out.trans (drewN_low _ _ _)⟩
        · have hR := hno (fun h => hnm (by injection h))
          have hne := str_ne hf1 hf2 hnm
          have HR := Lib.hid hR
          clear hno hst hf1 hf2 hR hir1 hir2 hnm
          have HBW := Lib.hid hbw
          clear hbw
          go_wp2_with fail
          go_quiet (fail)
          go_wp2_with fail
          go_ret
          exact ⟨by rw [HR.out]; rfl, HBW.out.trans (drewN_low _ _ _)⟩
      · obtain rfl : k = N := by omega
        have HR := Lib.hid (HY.out (fun i hi => HJ.out i (by rw [List.length_map, HN1.out] at hi; exact hi)))
        go_wp2_with fail
        go_ret
        exact ⟨by rw [HR.out]; rfl, hbw⟩
  · have hlb : ((ds1.length : Int) != (ds2.length : Int)) = true := bne_iff_ne.2 (by omega)
    have hf : decide (ds1.map (·.p) = ds2.map (·.p)) = false := decide_eq_false (fun e => hl (by have := congrArg List.length e; simpa using this))
    rw [hf]
    clear hf
    go_enter Try.func14, Try.ntmps14
    go_wp2_with fail
    go_ret
    exact ⟨rfl, Below.refl _ _⟩
end Go.Proofs.Ytnjhkjlekepjoaa
