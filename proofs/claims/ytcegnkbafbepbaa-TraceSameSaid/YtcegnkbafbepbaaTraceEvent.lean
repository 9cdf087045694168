/-
  What trace.checkArg and trace.Event answer.
-/
import Derived.Test.YtcegnkbafbepbaaTraceRows
import Derived.Carry
import Derived.Deep.RegionHeld3
namespace Go.Proofs.Ytcegnkbafbepbaa
open Go.RowKit

set_option maxRecDepth 100000 in
set_option maxHeartbeats 1000000 in
theorem checkArg_any (t : Int) (a : Ag) (hf : a.Fits) (w : World) :
    Calls Try.prog 23 #[.int .i64 t, a.val] w fun e w' => e = .returned (.int .i64 (whyG t a)) ∧ Below w.heap.size w w' := by
  obtain ⟨hl, -, -, -⟩ := hf
  unfold maxLen at hl
  have hsn := strOfNums_size a.s
  have hb1 : Below w.heap.size w (w.alloc (.cells #[.int .i64 a.t, .int .i64 a.n, .string (strOfNums a.s)] 49)) := (Below.refl _ _).alloc (Nat.le_refl _) _
  obtain ⟨at', an, as'⟩ := a
  dsimp only at hl hsn hb1 ⊢
  unfold whyG
  dsimp only
  by_cases h1 : at' = t
  · subst h1
    rw [if_neg (by simp)]
    by_cases h2 : at' = 1
    · subst h2
      by_cases h3 : as' = []
      · have s1 : (strOfNums as').toList.isEmpty = true := by rw [str_empty, h3]; rfl
        have hl0 : as'.length = 0 := by rw [h3]; rfl
        rw [if_neg (by simp [h3]), if_neg (by simp), if_neg (by omega)]
        rw [hl0] at hsn
        clear hl h3 hl0
        go_enter Try.func23, Try.ntmps23
        go_wp2_with fail
        go_ret
        exact ⟨rfl, hb1⟩
      · have s1 : (strOfNums as').toList.isEmpty = false := by
          rw [str_empty]
          cases as' with
          | nil => exact absurd rfl h3
          | cons _ _ => rfl
        rw [if_pos ⟨rfl, h3⟩]
        go_enter Try.func23, Try.ntmps23
        go_wp2_with fail
        go_ret
        exact ⟨rfl, hb1⟩
    · have h2b : (at' == 1) = false := beq_eq_false_iff_ne.2 h2
      rw [if_neg (fun h => h2 h.1)]
      by_cases h3 : at' = 2
      · subst h3
        by_cases h4 : an = 0
        · subst h4
          rw [if_neg (by simp)]
          by_cases h5 : 200 < as'.length
          · rw [if_pos h5]
            have h5i : (200 : Int) < (as'.length : Int) := by omega
            go_enter Try.func23, Try.ntmps23
            go_wp2_with fail
            go_ret
            exact ⟨rfl, hb1⟩
          · rw [if_neg h5]
            have h5i : (as'.length : Int) ≤ 200 := by omega
            go_enter Try.func23, Try.ntmps23
            go_wp2_with fail
            go_ret
            exact ⟨rfl, hb1⟩
        · rw [if_pos ⟨rfl, h4⟩]
          have h4b : (an == 0) = false := beq_eq_false_iff_ne.2 h4
          have h4c : (an != 0) = true := bne_iff_ne.2 h4
          go_enter Try.func23, Try.ntmps23
          go_wp2_with fail
          go_ret
          exact ⟨rfl, hb1⟩
      · have h3b : (at' == 2) = false := beq_eq_false_iff_ne.2 h3
        rw [if_neg (fun h => h3 h.1)]
        by_cases h5 : 200 < as'.length
        · rw [if_pos h5]
          have h5i : (200 : Int) < (as'.length : Int) := by omega
          go_enter Try.func23, Try.ntmps23
          go_wp2_with fail
          go_ret
          exact ⟨rfl, hb1⟩
        · rw [if_neg h5]
          have h5i : (as'.length : Int) ≤ 200 := by omega
          go_enter Try.func23, Try.ntmps23
          go_wp2_with fail
          go_ret
          exact ⟨rfl, hb1⟩
  · have h1b : (at' == t) = false := beq_eq_false_iff_ne.2 h1
    have h1c : (at' != t) = true := bne_iff_ne.2 h1
    rw [if_pos h1]
    go_enter Try.func23, Try.ntmps23
    go_wp2_with fail
    go_ret
    exact ⟨rfl, hb1⟩

set_option maxRecDepth 100000 in
set_option maxHeartbeats 2000000 in
theorem event_any (A : Option Addr) (c : Nat) (ds : List Pd) (x : Em) (w : World) (hrow : PredRow w w.heap.size (.slice A ds.length c) ds) (hx : x.Ok w w.heap.size) :
    Calls Try.prog 13 #[.slice A ds.length c, x.val] w fun e w' => e = .returned (.int .i64 (eventT (ds.map (·.p)) x.e)) ∧ Below w.heap.size w w' := by
  obtain ⟨hc1, hc2⟩ : ds.length ≤ c ∧ c ≤ 9223372036854775807 := by
    obtain ⟨A', c', hv, q1, q2⟩ := hrow.form
    injection hv with _ _ e3
    exact ⟨by omega, by omega⟩
  have hml : (ds.map (·.p)).length = ds.length := List.length_map _
  obtain ⟨hga, hfp⟩ := hx
  obtain ⟨-, hl1, hl2⟩ := hga.1.len
  unfold Em.Fits at hfp
  have hb1 : Below w.heap.size w (w.alloc (.cells #[.int .i64 x.p, .slice x.A x.args.length x.c] 42)) := (Below.refl _ _).alloc (Nat.le_refl _) _
  by_cases hneg : x.p < 0
  · rw [eventT_name (.inl hneg)]
    clear hrow hga
    go_enter Try.func13, Try.ntmps13
    go_wp2_with fail
    go_ret
    exact ⟨rfl, hb1⟩
  have hn0 : 0 ≤ x.p := by omega
  by_cases hbig : (ds.length : Int) ≤ x.p
  · rw [eventT_name (.inr (by rw [hml]; exact hbig))]
    clear hrow hga
    go_enter Try.func13, Try.ntmps13
    go_wp2_with fail
    go_ret
    exact ⟨rfl, hb1⟩
  obtain ⟨k, hk⟩ : ∃ k : Nat, x.p = k := ⟨x.p.toNat, by omega⟩
  have hkl : k < ds.length := by omega
  obtain ⟨d, hd⟩ : ∃ d, ds[k]? = some d := ⟨_, List.getElem?_eq_getElem hkl⟩
  obtain ⟨b, o, rfl, hb, x0, x1, hir, hfit, ha1, ha2⟩ := hrow.at hd
  have hat := @eventT_arg (ds.map (·.p)) x.e k d.p hk (at_pr hd)
  have hfound := @eventT_found (ds.map (·.p)) x.e k d.p hk (at_pr hd)
  have hnone := @eventT_none (ds.map (·.p)) x.e k d.p hk (at_pr hd)
  generalize eventT (ds.map (·.p)) x.e = R at hat hfound hnone ⊢
  have hvx : x.val = .agg #[.int .i64 k, .slice x.A x.args.length x.c] := by rw [Em.val, hk]
  rw [hvx]
  rw [hk] at hb1
  dsimp only [Em.e] at hat hfound hnone
  obtain ⟨dA, hdA⟩ : ∃ dA, d.A = dA := ⟨_, rfl⟩
  rw [hdA] at x1 hir
  obtain ⟨dc, hdc⟩ : ∃ dc, d.c = dc := ⟨_, rfl⟩
  rw [hdc] at x1 hir ha1 ha2
  obtain ⟨ts, hts⟩ : ∃ ts, d.p.args = ts := ⟨_, rfl⟩
  rw [hts] at x1 hir ha1 hat hfound hnone
  obtain ⟨xA, hxA⟩ : ∃ xA, x.A = xA := ⟨_, rfl⟩
  rw [hxA] at hga hb1 ⊢
  obtain ⟨xc, hxc⟩ : ∃ xc, x.c = xc := ⟨_, rfl⟩
  rw [hxc] at hga hb1 hl1 hl2 ⊢
  obtain ⟨gs, has⟩ : ∃ gs, x.args = gs := ⟨_, rfl⟩
  simp only [has] at hga hb1 hl1 hat hfound hnone ⊢
  have hdl := hb1.size
  have y0 := (hb1.cell (p := ⟨b, o + k * 2, none⟩) hb).trans x0
  have y1 := (hb1.cell (p := ⟨b, o + k * 2 + 1, none⟩) hb).trans x1
  clear hvx hk hdA hdc hts hxA hxc has hneg hbig hfp hd hrow hml hn0 hfit x0 x1
  clear x
  by_cases hne : gs.length ≠ ts.length
  · rw [hat hne]
    have hne1 : ((gs.length : Int) != (ts.length : Int)) = true := bne_iff_ne.2 (by omega)
    have hne2 : ((gs.length : Int) == (ts.length : Int)) = false := beq_eq_false_iff_ne.2 (by omega)
    clear hne hat hfound hnone hga hir
    go_enter Try.func13, Try.ntmps13
    go_wp2_with fail
    go_ret
    exact ⟨rfl, hb1⟩
  have hle : gs.length = ts.length := by omega
  rw [← hle] at y1 hir ha1
  have HF := Lib.hid (fun r hr => hfound hle (r := r) hr)
  have HNO := Lib.hid (hnone hle)
  have HGA := Lib.hid hga
  have HIR := Lib.hid hir
  have HB1 := Lib.hid hb1
  have HLE := Lib.hid hle
  clear hne hat hfound hnone hga hir hle hb1
  go_enter Try.func13, Try.ntmps13
  go_wp2_with fail
  rename _ ∧ ¬ ds.length ≤ k => hq
  clear hq
  go_loopg [34] gs.length (fun gm i wr => ∃ m : Nat, m ≤ gs.length ∧ i = .int .i64 m ∧ Hid (gs.length - m = gm) ∧ Hid (∀ j, j < m → whyG (ts.getD j 0) (gs.getD j default) = 0) ∧ Hid (Below w.heap.size w wr))
  case atStart => exact ⟨0, Nat.zero_le _, rfl, Lib.hid rfl, Lib.hid (fun j h => absurd h (Nat.not_lt_zero _)), HB1⟩
  case round =>
    obtain ⟨m, hm, rfl, HGM, HJ, HB⟩ := hrel
    clear y0 y1
    by_cases hml : m < gs.length
    · obtain ⟨a, ha⟩ : ∃ a, gs[m]? = some a := ⟨_, List.getElem?_eq_getElem hml⟩
      obtain ⟨b2, o2, rfl, hb2, ht⟩ := (HIR.out.below HB.out).at (i := m) (by have := HLE.out; omega)
      obtain ⟨b3, o3, rfl, hb3, z0, z1, z2, hfit⟩ := (HGA.out.below HB.out).at ha
      have hz := HB.out.size
      have HCA := Lib.hid (fun W => checkArg_any (ts.getD m 0) a hfit W)
      have HFM := HF.out m hml HJ.out
      have HST := Lib.hid (step_lt (P := fun j => whyG (ts.getD j 0) (gs.getD j default) = 0) (k := m) HJ.out)
      rw [getD_of ha] at HFM HST
      have HWF := Lib.hid HFM
      generalize ts.getD m 0 = t at ht HCA HWF HST
      obtain ⟨r, hr⟩ : ∃ r, whyG t a = r := ⟨_, rfl⟩
      rw [hr] at HCA HWF HST
      obtain ⟨w4, hw4⟩ : ∃ w4, wr.alloc (.cells #[.int .i64 a.t, .int .i64 a.n, .string (strOfNums a.s)] 49) = w4 := ⟨_, rfl⟩
      have s4 : w4.heap.size = wr.heap.size + 1 := by rw [← hw4, World.size_alloc]
      have hb4 : Below wr.heap.size wr w4 := by rw [← hw4]; exact (Below.refl _ _).alloc (Nat.le_refl _) _
      have hh4 : Held w4 wr.heap.size 49 #[.int .i64 a.t, .int .i64 a.n, .string (strOfNums a.s)] := by rw [← hw4]; exact heap_alloc_new wr _
      have HB4 := Lib.hid (HB.out.trans (hb4.mono hz))
      have HALL := Lib.hid (fun W (h : Below w4.heap.size w4 W) => (show W.cell? ⟨b2, o2 + m, none⟩ = some (.int .i64 t) ∧ W.cell? ⟨wr.heap.size, 0, none⟩ = some (.int .i64 a.t) ∧ W.cell? ⟨wr.heap.size, 1, none⟩ = some (.int .i64 a.n) ∧ W.cell? ⟨wr.heap.size, 2, none⟩ = some (.string (strOfNums a.s)) from by
        have hh := hh4.below h (by omega)
        have v0 := hh.cell 0
        have v1 := hh.cell 1
        have v2 := hh.cell 2
        simp at v0 v1 v2
        exact ⟨(h.cell (p := ⟨b2, o2 + m, none⟩) (by simp only; omega)).trans ((hb4.cell (p := ⟨b2, o2 + m, none⟩) (by simp only; omega)).trans ht), v0, v1, v2⟩))
      clear ha hfit HFM hr hb4 hh4
      go_wp2_with fail
      clear hw4
      go_region_held3 (fun W => Below w4.heap.size w4 W ∧ W.cell? ⟨b2, o2 + m, none⟩ = some (.int .i64 t) ∧ W.cell? ⟨wr.heap.size, 0, none⟩ = some (.int .i64 a.t) ∧ W.cell? ⟨wr.heap.size, 1, none⟩ = some (.int .i64 a.n) ∧ W.cell? ⟨wr.heap.size, 2, none⟩ = some (.string (strOfNums a.s)))
        (first | exact ⟨Below.refl _ _, HALL.out _ (Below.refl _ _)⟩ | exact ⟨(Below.refl _ _).drew, HALL.out _ (Below.refl _ _).drew⟩ | exact ⟨b5, HALL.out _ b5⟩)
        (first | (go_at_call 23; refine (HCA.out _).mono ?_; rintro e w5 ⟨rfl, hb5⟩; have b5 : Below w4.heap.size w4 w5 := (Below.refl w4.heap.size w4).drew.trans hb5))
      have HB5 := Lib.hid (HB4.out.trans (b5.mono HB4.out.size))
      clear b5
      by_cases h0 : r = 0
      · subst h0
        have HST2 := Lib.hid (HST.out rfl)
        go_wp2_with fail
        go_roundg (gs.length - (m + 1))
        case measure => have := HGM.out; omega
        case rel => exact ⟨m + 1, by omega, by go_num, Lib.hid rfl, HST2, HB5⟩
      · have HR := Lib.hid (HWF.out h0)
        have h1 : (r == 0) = false := beq_eq_false_iff_ne.2 h0
        have h2 : (r != 0) = true := bne_iff_ne.2 h0
        clear h0
        go_wp2_with fail
        go_ret
        exact ⟨by rw [HR.out]; rfl, HB5.out⟩
    · obtain rfl : m = gs.length := by omega
      have HR := Lib.hid (HNO.out HJ.out)
      go_wp2_with fail
      go_ret
      exact ⟨by rw [HR.out]; rfl, HB.out⟩
#print axioms event_any
end Go.Proofs.Ytcegnkbafbepbaa
