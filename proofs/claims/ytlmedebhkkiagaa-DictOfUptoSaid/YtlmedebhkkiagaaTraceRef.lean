/-
  The document's own answers for traces: why an event isn't of a signature, why a trace isn't, and where.
-/
import Derived.Test.YtlmedebhkkiagaaTraceRows
import Derived.Test.YtlmedebhkkiagaaSigKit
import Derived.Carry
namespace Go.Proofs.Ytlmedebhkkiagaa
open Go.RowKit

set_option maxRecDepth 100000 in
set_option maxHeartbeats 2000000 in
theorem revent_any (A : Option Addr) (c : Nat) (ds : List Pd) (x : Em) (w : World) (hrow : PredRow w w.heap.size (.slice A ds.length c) ds) (hx : x.Ok w w.heap.size) :
    Calls Try.prog 14 #[.slice A ds.length c, x.val] w fun e w' => e = .returned (.int .i64 (eventT (ds.map (·.p)) x.e)) ∧ Below w.heap.size w w' := by
  obtain ⟨hc1, hc2⟩ : ds.length ≤ c ∧ c ≤ 9223372036854775807 := by
    obtain ⟨A', c', hv, q1, q2⟩ := hrow.form
    injection hv with _ _ e3
    exact ⟨by omega, by omega⟩
  have hml : (ds.map (·.p)).length = ds.length := List.length_map _
  obtain ⟨hga, hfp⟩ := hx
  obtain ⟨-, hl1, hl2⟩ := hga.1.len
  unfold Em.Fits at hfp
  have hb1 : Below w.heap.size w (w.alloc (.cells #[.int .i64 x.p, .slice x.A x.args.length x.c] 42)) := (Below.refl _ _).alloc (Nat.le_refl _) _
  by_cases hneg : x.p < 0
  · rw [eventT_name (.inl hneg)]
    clear hrow hga
    go_enter Try.func14, Try.ntmps14
    go_wp2_with fail
    go_ret
    exact ⟨rfl, hb1⟩
  have hn0 : 0 ≤ x.p := by omega
  by_cases hbig : (ds.length : Int) ≤ x.p
  · rw [eventT_name (.inr (by rw [hml]; exact hbig))]
    clear hrow hga
    go_enter Try.func14, Try.ntmps14
    go_wp2_with fail
    go_ret
    exact ⟨rfl, hb1⟩
  obtain ⟨k, hk⟩ : ∃ k : Nat, x.p = k := ⟨x.p.toNat, by omega⟩
  have hkl : k < ds.length := by omega
  obtain ⟨d, hd⟩ : ∃ d, ds[k]? = some d := ⟨_, List.getElem?_eq_getElem hkl⟩
  obtain ⟨b, o, rfl, hb, x0, x1, hir, hfit, ha1, ha2⟩ := hrow.at hd
  have hat := @eventT_arg (ds.map (·.p)) x.e k d.p hk (at_pr hd)
  have hfound := @eventT_found (ds.map (·.p)) x.e k d.p hk (at_pr hd)
  have hnone := @eventT_none (ds.map (·.p)) x.e k d.p hk (at_pr hd)
  generalize eventT (ds.map (·.p)) x.e = R at hat hfound hnone ⊢
  have hvx : x.val = .agg #[.int .i64 k, .slice x.A x.args.length x.c] := by rw [Em.val, hk]
  rw [hvx]
  rw [hk] at hb1
  dsimp only [Em.e] at hat hfound hnone
  obtain ⟨dA, hdA⟩ : ∃ dA, d.A = dA := ⟨_, rfl⟩
  rw [hdA] at x1 hir
  obtain ⟨dc, hdc⟩ : ∃ dc, d.c = dc := ⟨_, rfl⟩
  rw [hdc] at x1 hir ha1 ha2
  obtain ⟨dn, hdn⟩ : ∃ dn, strOfNums d.p.name = dn := ⟨_, rfl⟩
  rw [hdn] at x0
  obtain ⟨ts, hts⟩ : ∃ ts, d.p.args = ts := ⟨_, rfl⟩
  rw [hts] at x1 hir ha1 hat hfound hnone
  obtain ⟨xA, hxA⟩ : ∃ xA, x.A = xA := ⟨_, rfl⟩
  rw [hxA] at hga hb1 ⊢
  obtain ⟨xc, hxc⟩ : ∃ xc, x.c = xc := ⟨_, rfl⟩
  rw [hxc] at hga hb1 hl1 hl2 ⊢
  obtain ⟨gs, has⟩ : ∃ gs, x.args = gs := ⟨_, rfl⟩
  simp only [has] at hga hb1 hl1 hat hfound hnone ⊢
  have y0 := (hb1.cell (p := ⟨b, o + k * 2, none⟩) hb).trans x0
  have y1 := (hb1.cell (p := ⟨b, o + k * 2 + 1, none⟩) hb).trans x1
  clear hvx hk hdA hdc hdn hts hxA hxc has hneg hbig hfp hd hrow hml hn0 hfit x0 x1
  clear x d
  obtain ⟨w2, hw2⟩ : ∃ w2, (w.alloc (.cells #[.int .i64 k, .slice xA gs.length xc] 42)).alloc (.cells #[.string dn, .slice dA ts.length dc] 66) = w2 := ⟨_, rfl⟩
  have s1 : (w.alloc (.cells #[.int .i64 k, .slice xA gs.length xc] 42)).heap.size = w.heap.size + 1 := World.size_alloc _ _
  have s2 : w2.heap.size = w.heap.size + 2 := by rw [← hw2, World.size_alloc, s1]
  have hb2 : Below w.heap.size w w2 := by rw [← hw2]; exact hb1.alloc (by omega) _
  have hh1 : Held w2 w.heap.size 42 #[.int .i64 k, .slice xA gs.length xc] := by rw [← hw2]; exact Held.below (heap_alloc_new w _) ((Below.refl _ _).alloc (Nat.le_refl _) _) (by omega)
  have hh2 : Held w2 (w.heap.size + 1) 66 #[.string dn, .slice dA ts.length dc] := by rw [← hw2, ← s1]; exact heap_alloc_new _ _
  have g1 := hh1.cell 1
  have g2 := hh2.cell 1
  simp at g1 g2
  clear hb1 s1
  by_cases hne : gs.length ≠ ts.length
  · rw [hat hne]
    have hne1 : ((ts.length : Int) != (gs.length : Int)) = true := bne_iff_ne.2 (by omega)
    clear hne hat hfound hnone hga hir hh1 hh2
    go_enter Try.func14, Try.ntmps14
    go_wp2_with fail
    go_ret
    exact ⟨rfl, hb2⟩
  have hle : gs.length = ts.length := by omega
  rw [← hle] at y1 hir ha1 hh2 g2 hw2
  have HF := Lib.hid (fun r hr => hfound hle (r := r) hr)
  have HNO := Lib.hid (hnone hle)
  have HGA := Lib.hid hga
  have HIR := Lib.hid hir
  have HB1 := Lib.hid hb2
  have HLE := Lib.hid hle
  have HALL := Lib.hid (fun W (h : Below w2.heap.size w2 W) => (show W.cell? ⟨w.heap.size, 1, none⟩ = some (.slice xA gs.length xc) ∧ W.cell? ⟨w.heap.size + 1, 1, none⟩ = some (.slice dA gs.length dc) from by
    have v1 := (hh1.below h (by omega)).cell 1
    have v2 := (hh2.below h (by omega)).cell 1
    simp at v1 v2
    exact ⟨v1, v2⟩))
  clear hne hat hfound hnone hga hir hle hb2 hh1 hh2
  go_enter Try.func14, Try.ntmps14
  go_wp2_with fail
  clear y0 y1 g1 g2 hw2
  rename _ ∧ ¬ ds.length ≤ k => hq
  clear hq
  go_loopg [6] gs.length (fun gm i wr => ∃ m : Nat, m ≤ gs.length ∧ i = .int .i64 m ∧ Hid (gs.length - m = gm) ∧ Hid (∀ j, j < m → whyG (ts.getD j 0) (gs.getD j default) = 0) ∧ Hid (Below w2.heap.size w2 wr))
  case atStart => exact ⟨0, Nat.zero_le _, rfl, Lib.hid rfl, Lib.hid (fun j h => absurd h (Nat.not_lt_zero _)), Lib.hid (Below.refl _ _)⟩
  case round =>
    obtain ⟨m, hm, rfl, HGM, HJ, HB⟩ := hrel
    obtain ⟨g1, g2⟩ := HALL.out _ HB.out
    by_cases hml : m < gs.length
    · obtain ⟨a, ha⟩ : ∃ a, gs[m]? = some a := ⟨_, List.getElem?_eq_getElem hml⟩
      have hbb := HB1.out.trans (HB.out.mono (by omega))
      obtain ⟨b2, o2, rfl, hb2, ht⟩ := (HIR.out.below hbb).at (i := m) (by have := HLE.out; omega)
      obtain ⟨b3, o3, rfl, hb3, z0, z1, z2, hfit⟩ := (HGA.out.below hbb).at ha
      have hz := HB.out.size
      have FM := HF.out m hml HJ.out
      have ST := step_lt (P := fun j => whyG (ts.getD j 0) (gs.getD j default) = 0) (k := m) HJ.out
      rw [getD_of ha] at FM ST
      have HFM := Lib.hid FM
      have HST := Lib.hid ST
      generalize ts.getD m 0 = t at ht HFM HST
      obtain ⟨at', an, as'⟩ := a
      have hsn := strOfNums_size as'
      have hsl : as'.length ≤ 9223372036854775807 := by have := hfit.1; unfold maxLen at this; simpa using this
      have hse := str_empty as'
      obtain ⟨w4, hw4⟩ : ∃ w4, wr.alloc (.cells #[.int .i64 at', .int .i64 an, .string (strOfNums as')] 68) = w4 := ⟨_, rfl⟩
      have s4 : w4.heap.size = wr.heap.size + 1 := by rw [← hw4, World.size_alloc]
      have hb4 : Below wr.heap.size wr w4 := by rw [← hw4]; exact (Below.refl _ _).alloc (Nat.le_refl _) _
      have hh4 : Held w4 wr.heap.size 68 #[.int .i64 at', .int .i64 an, .string (strOfNums as')] := by rw [← hw4]; exact heap_alloc_new wr _
      have HB4 := Lib.hid (HB.out.trans (hb4.mono hz))
      have v0 := hh4.cell 0
      have v1 := hh4.cell 1
      have v2 := hh4.cell 2
      simp at v0 v1 v2
      have g2' := (HALL.out _ HB4.out).2
      have ht' := (hb4.cell (p := ⟨b2, o2 + m, none⟩) (by simp only; omega)).trans ht
      generalize strOfNums as' = sv at *
      clear ST FM ha hfit hb4 hh4 hbb g2 ht
      by_cases h1 : at' = t
      case neg =>
        have hw : whyG t ⟨at', an, as'⟩ = 7 := by simp [whyG, h1]
        have HR := Lib.hid ((HFM.out (by rw [hw]; decide)).trans hw)
        have h1c : (at' != t) = true := bne_iff_ne.2 h1
        clear h1 hw HFM HST hse
        go_wp2_with fail
        go_quiet (fail)
        go_wp2_with fail
        go_ret
        exact ⟨by rw [HR.out]; rfl, HB1.out.trans ((HB4.out.trans (drewN_low _ _ _)).mono (by omega))⟩
      subst h1
      by_cases h2 : at' = 1
      · subst h2
        by_cases h3 : as' = []
        · have hs1 : sv.toList.isEmpty = true := by rw [hse, h3]; rfl
          have hl0 : as'.length = 0 := by rw [h3]; rfl
          have HJ2 := Lib.hid (HST.out (show whyG 1 ⟨1, an, as'⟩ = 0 from by simp [whyG, h3]))
          rw [hl0] at hsn
          clear h3 hl0 HFM HST hse hsl
          go_wp2_with fail
          go_quiet (fail)
          go_wp2_with fail
          go_roundg (gs.length - (m + 1))
          case measure => have := HGM.out; omega
          case rel => exact ⟨m + 1, by omega, by go_num, Lib.hid rfl, HJ2, Lib.hid (HB4.out.trans (drewN_low _ _ _))⟩
        · have hs1 : sv.toList.isEmpty = false := by
            rw [hse]
            cases as' with
            | nil => exact absurd rfl h3
            | cons _ _ => rfl
          have hw : whyG 1 ⟨1, an, as'⟩ = 1 := by simp [whyG, h3]
          have HR := Lib.hid ((HFM.out (by rw [hw]; decide)).trans hw)
          clear h3 hw HFM HST hse
          go_wp2_with fail
          go_quiet (fail)
          go_wp2_with fail
          go_ret
          exact ⟨by rw [HR.out]; rfl, HB1.out.trans ((HB4.out.trans (drewN_low _ _ _)).mono (by omega))⟩
      have h2b : (at' == 1) = false := beq_eq_false_iff_ne.2 h2
      by_cases h3 : at' = 2
      · subst h3
        by_cases h4 : an = 0
        case neg =>
          have h4b : (an != 0) = true := bne_iff_ne.2 h4
          have hw : whyG 2 ⟨2, an, as'⟩ = 1 := by simp [whyG, h4]
          have HR := Lib.hid ((HFM.out (by rw [hw]; decide)).trans hw)
          clear h4 hw HFM HST hse
          go_wp2_with fail
          go_quiet (fail)
          go_wp2_with fail
          go_ret
          exact ⟨by rw [HR.out]; rfl, HB1.out.trans ((HB4.out.trans (drewN_low _ _ _)).mono (by omega))⟩
        subst h4
        by_cases h5 : 200 < as'.length
        · have h5i : (200 : Int) < (as'.length : Int) := by omega
          have hw : whyG 2 ⟨2, 0, as'⟩ = 6 := by simp [whyG, h5]
          have HR := Lib.hid ((HFM.out (by rw [hw]; decide)).trans hw)
          clear hw HFM HST hse
          go_wp2_with fail
          go_quiet (fail)
          go_wp2_with fail
          go_ret
          exact ⟨by rw [HR.out]; rfl, HB1.out.trans ((HB4.out.trans (drewN_low _ _ _)).mono (by omega))⟩
        · have h5i : (as'.length : Int) ≤ 200 := by omega
          have HJ2 := Lib.hid (HST.out (show whyG 2 ⟨2, 0, as'⟩ = 0 from by simp [whyG, h5]))
          clear HFM HST hse
          go_wp2_with fail
          go_quiet (fail)
          go_wp2_with fail
          go_roundg (gs.length - (m + 1))
          case measure => have := HGM.out; omega
          case rel => exact ⟨m + 1, by omega, by go_num, Lib.hid rfl, HJ2, Lib.hid (HB4.out.trans (drewN_low _ _ _))⟩
      have h3b : (at' == 2) = false := beq_eq_false_iff_ne.2 h3
      by_cases h5 : 200 < as'.length
      · have h5i : (200 : Int) < (as'.length : Int) := by omega
        have hw : whyG at' ⟨at', an, as'⟩ = 6 := by simp [whyG, h2, h3, h5]
        have HR := Lib.hid ((HFM.out (by rw [hw]; decide)).trans hw)
        clear hw HFM HST hse
        go_wp2_with fail
        go_quiet (fail)
        go_wp2_with fail
        go_ret
        exact ⟨by rw [HR.out]; rfl, HB1.out.trans ((HB4.out.trans (drewN_low _ _ _)).mono (by omega))⟩
      · have h5i : (as'.length : Int) ≤ 200 := by omega
        have HJ2 := Lib.hid (HST.out (show whyG at' ⟨at', an, as'⟩ = 0 from by simp [whyG, h2, h3, h5]))
        clear HFM HST hse
        go_wp2_with fail
        go_quiet (fail)
        go_wp2_with fail
        go_roundg (gs.length - (m + 1))
        case measure => have := HGM.out; omega
        case rel => exact ⟨m + 1, by omega, by go_num, Lib.hid rfl, HJ2, Lib.hid (HB4.out.trans (drewN_low _ _ _))⟩
    · obtain rfl : m = gs.length := by omega
      have HR := Lib.hid (HNO.out HJ.out)
      go_wp2_with fail
      go_ret
      exact ⟨by rw [HR.out]; rfl, HB1.out.trans (HB.out.mono (by omega))⟩
#print axioms revent_any
end Go.Proofs.Ytlmedebhkkiagaa
