/-
  What the theorem of ReadBack rests on, part 11 of 15.
-/
import Derived.Deep.LoopGhost
import Derived.Deep.RegionHeld3
import Derived.Laws.StructEq
import Derived.BigQuiet
import Derived.Carry
import Derived.Test.YtimihhcidbeonaaGreatReadBackZ10
namespace Go.Proofs.YtimihhcidbeonaaGreat
open Go.RowKit
set_option linter.unusedVariables false
theorem Tryz.infoStr15 : (Tryz.prog.info? 9).map (fun i => (i.zero, i.size, i.bytes)) = some (some (.string ⟨#[]⟩), 1, 16) := by kernel_rfl
section
variable {K g G n : Nat} {xs : List Int} {D : List (List Int)} {p : Nat} {e : Int} {w : World} {vs vt : Value}
/-- The next number, as what is taken of the bytes. -/
theorem unum_any (h : Cur 174 w K g xs p e) (hp : p ≤ xs.length) (hK : K ≤ g) (hb : ∀ x ∈ xs, 0 ≤ x ∧ x < 256) :
    Calls Tryz.prog 94 #[.pointer (some ⟨g, 0, none⟩), .int .u64 18446744073709551615] w (Took u64V w K g xs (nx m64 xs p e)) := number_any 18446744073709551615 h hp hK hb
set_option maxRecDepth 100000 in
set_option maxHeartbeats 2000000 in
theorem utext_any (h : Cur 174 w K g xs p e) (hp : p ≤ xs.length) (hK : K ≤ g) (hb : ∀ x ∈ xs, 0 ≤ x ∧ x < 256) (hh : Held w G 105 #[.pointer (some ⟨g, 0, none⟩), vs, vt]) (hgG : g ≠ G)
    (ht : w.ownsRow n 9 1 vt D.length (strVs D)) (hgn : g < n) (hDl : D.length ≤ 4096) :
    Calls Tryz.prog 196 #[.pointer (some ⟨G, 0, none⟩)] w (Took txtV w K g xs (txtU D xs p e)) := by
  have HNUM := Lib.hid (unum_any h hp hK hb)
  obtain ⟨⟨N, hN, _, hN64⟩, _, hq⟩ := nx_range (e := e) hb (m := m64) (by decide) hp
  unfold txtU
  generalize nx m64 xs p e = t at HNUM hN hq ⊢
  obtain ⟨Ni, q, e2⟩ := t
  simp only at hN hq ⊢
  subst hN
  rw [Int.toNat_natCast]
  obtain ⟨T, ct, rfl⟩ := own_form ht
  have x0 := hh.cell 0
  simp at x0
  have HH := Lib.hid hh
  have HT := Lib.hid ht
  have HGG := Lib.hid hgG
  have HGN := Lib.hid hgn
  obtain ⟨m, hm⟩ : ∃ m, D.length = m := ⟨_, rfl⟩
  have HM := Lib.hid hm
  rw [hm] at hDl ⊢
  clear h hb hp hq hh ht hgG hgn hm
  by_cases hlt : m ≤ N
  · rw [if_pos (by omega)]
    have hli : (m : Int) ≤ (N : Int) := by omega
    have hcv : IntKind.u64.wrap (m : Int) = (m : Int) := IntWalk.u64_in _ (by omega)
    clear hlt
    go_enter Tryz.func196, Tryz.ntmps196
    go_wp2_with fail
    refine HNUM.out.mono ?_
    rintro r w1 ⟨rfl, hc1, hg1⟩
    simp only [u64V]
    have hh1 := HH.out.grown hg1 (fun e => by injection e with e; exact HGG.out e.symm)
    rw [HM.out] at hh1
    have y0 := hh1.cell 0
    have y2 := hh1.cell 2
    simp at y0 y2
    have HST := Lib.hid (stop_any 10 hc1)
    have HG1 := Lib.hid hg1
    clear hc1 hg1 x0 hh1
    go_wp2_with fail
    refine HST.out.mono ?_
    rintro r w2 ⟨rfl, hc2, hg2⟩
    have HC2 := Lib.hid hc2
    have HG2 := Lib.hid (grown_trans HG1.out hg2)
    clear hc2 hg2
    go_wp2_with fail
    go_ret
    exact ⟨rfl, HC2.out, HG2.out⟩
  · rw [if_neg (by omega)]
    have hli : ¬ (m : Int) ≤ (N : Int) := by omega
    have hli2 : (N : Int) < (m : Int) := by omega
    have hlt2 : N < m := by omega
    have hcv : IntKind.u64.wrap (m : Int) = (m : Int) := IntWalk.u64_in _ (by omega)
    obtain ⟨s, hs⟩ : ∃ s, D[N]? = some s := ⟨_, List.getElem?_eq_getElem (by rw [HM.out]; exact hlt2)⟩
    rw [show D.getD N [] = s by simp [List.getD, hs]]
    have HS := Lib.hid (strVs_at D hs)
    clear hlt hs
    go_enter Tryz.func196, Tryz.ntmps196
    go_wp2_with fail
    refine HNUM.out.mono ?_
    rintro r w1 ⟨rfl, hc1, hg1⟩
    simp only [u64V]
    have hh1 := HH.out.grown hg1 (fun e => by injection e with e; exact HGG.out e.symm)
    have ho1 := World.ownsRow.kept HT.out hg1 (.inr (own_low HT.out HGN.out))
    obtain ⟨b, o, hT, _, hcell⟩ := (ERow.of_own ho1).block (by rw [HM.out]; omega)
    have hcs := hcell N _ HS.out
    rw [HM.out] at hh1
    subst hT
    have y0 := hh1.cell 0
    have y2 := hh1.cell 2
    simp at y0 y2
    have HC1 := Lib.hid hc1
    have HG1 := Lib.hid hg1
    clear hc1 hg1 x0 hh1 ho1 hcell
    go_wp2_with fail
    go_ret
    exact ⟨rfl, HC1.out, HG1.out⟩
set_option maxRecDepth 100000 in
set_option maxHeartbeats 2000000 in
theorem ulater_any (tm : Int) (ht0 : 0 ≤ tm) (ht1 : tm < 18446744073709551616) (h : Cur 174 w K g xs p e) (hp : p ≤ xs.length) (hK : K ≤ g) (hb : ∀ x ∈ xs, 0 ≤ x ∧ x < 256) (hh : Held w G 105 #[.pointer (some ⟨g, 0, none⟩), vs, vt]) (hgG : g ≠ G) :
    Calls Tryz.prog 97 #[.pointer (some ⟨G, 0, none⟩), .int .u64 tm] w (Took u64V w K g xs (laterU xs tm p e)) := by
  have HNUM := Lib.hid (unum_any h hp hK hb)
  obtain ⟨⟨N, hN, _, hN64⟩, _, hq⟩ := nx_range (e := e) hb (m := m64) (by decide) hp
  unfold laterU
  generalize nx m64 xs p e = t at HNUM hN hq ⊢
  obtain ⟨Ni, q, e2⟩ := t
  simp only at hN hq ⊢
  subst hN
  have x0 := hh.cell 0
  simp at x0
  have HH := Lib.hid hh
  have HGG := Lib.hid hgG
  have hw1 : IntKind.u64.wrap (18446744073709551615 - tm) = 18446744073709551615 - tm := IntWalk.u64_in _ (by omega)
  have hw2 : IntKind.u64.wrap (tm + (N : Int)) = (tm + (N : Int)) % 18446744073709551616 := IntKind.wrap_u64 _
  unfold m64
  clear h hb hp hq hh hgG
  by_cases hlt : 18446744073709551615 - tm < (N : Int)
  · rw [if_pos hlt]
    go_enter Tryz.func97, Tryz.ntmps97
    go_wp2_with fail
    refine HNUM.out.mono ?_
    rintro r w1 ⟨rfl, hc1, hg1⟩
    simp only [u64V]
    have hh1 := HH.out.grown hg1 (fun e => by injection e with e; exact HGG.out e.symm)
    have y0 := hh1.cell 0
    simp at y0
    have HST := Lib.hid (stop_any 8 hc1)
    have HG1 := Lib.hid hg1
    clear hc1 hg1 x0 hh1
    go_wp2_with fail
    refine HST.out.mono ?_
    rintro r w2 ⟨rfl, hc2, hg2⟩
    have HC2 := Lib.hid hc2
    have HG2 := Lib.hid (grown_trans HG1.out hg2)
    clear hc2 hg2
    go_wp2_with fail
    go_ret
    exact ⟨rfl, HC2.out, HG2.out⟩
  · rw [if_neg hlt]
    go_enter Tryz.func97, Tryz.ntmps97
    go_wp2_with fail
    refine HNUM.out.mono ?_
    rintro r w1 ⟨rfl, hc1, hg1⟩
    simp only [u64V]
    have hh1 := HH.out.grown hg1 (fun e => by injection e with e; exact HGG.out e.symm)
    have y0 := hh1.cell 0
    simp at y0
    have HC1 := Lib.hid hc1
    have HG1 := Lib.hid hg1
    clear hc1 hg1 x0 hh1
    go_wp2_with fail
    go_ret
    exact ⟨rfl, HC1.out, HG1.out⟩
set_option maxRecDepth 100000 in
set_option maxHeartbeats 2000000 in
theorem ucount_any (h : Cur 174 w K g xs p e) (hp : p ≤ xs.length) (hK : K ≤ g) (hb : ∀ x ∈ xs, 0 ≤ x ∧ x < 256) (hh : Held w G 105 #[.pointer (some ⟨g, 0, none⟩), vs, vt]) (hgG : g ≠ G) :
    Calls Tryz.prog 95 #[.pointer (some ⟨G, 0, none⟩)] w (Took u64V w K g xs (countU xs p e)) := by
  have HNUM : Hid (Calls Tryz.prog 94 #[.pointer (some ⟨g, 0, none⟩), .int .u64 1024] w (Took u64V w K g xs (nx 1024 xs p e))) := Lib.hid (number_any 1024 h hp hK hb)
  obtain ⟨⟨N, hN, hN1, hN64⟩, _, hq⟩ := nx_range (e := e) hb (m := 1024) (by decide) hp
  unfold countU
  generalize nx 1024 xs p e = t at HNUM hN hq ⊢
  obtain ⟨Ni, q, e2⟩ := t
  simp only at hN hq ⊢
  subst hN
  have x0 := hh.cell 0
  simp at x0
  have HH := Lib.hid hh
  have HGG := Lib.hid hgG
  clear h hb hp hq hh hgG
  by_cases hz : N = 0
  · subst hz
    rw [if_pos (show ((0 : Nat) : Int) = 0 from rfl)]
    go_enter Tryz.func95, Tryz.ntmps95
    go_wp2_with fail
    refine HNUM.out.mono ?_
    rintro r w1 ⟨rfl, hc1, hg1⟩
    simp only [u64V]
    have hh1 := HH.out.grown hg1 (fun e => by injection e with e; exact HGG.out e.symm)
    have y0 := hh1.cell 0
    simp at y0
    have HST := Lib.hid (stop_any 4 hc1)
    have HG1 := Lib.hid hg1
    clear hc1 hg1 x0 hh1
    go_wp2_with fail
    refine HST.out.mono ?_
    rintro r w2 ⟨rfl, hc2, hg2⟩
    have HC2 := Lib.hid hc2
    have HG2 := Lib.hid (grown_trans HG1.out hg2)
    clear hc2 hg2
    go_wp2_with fail
    go_ret
    exact ⟨rfl, HC2.out, HG2.out⟩
  · rw [if_neg (by omega)]
    have hne : ((N : Int) == 0) = false := beq_eq_false_iff_ne.2 (by omega)
    have hn0 : ¬ (N : Int) = 0 := by omega
    clear hz
    go_enter Tryz.func95, Tryz.ntmps95
    go_wp2_with fail
    refine HNUM.out.mono ?_
    rintro r w1 ⟨rfl, hc1, hg1⟩
    simp only [u64V]
    have HC1 := Lib.hid hc1
    have HG1 := Lib.hid hg1
    clear hc1 hg1 x0
    go_wp2_with fail
    go_ret
    exact ⟨rfl, HC1.out, HG1.out⟩
set_option maxRecDepth 100000 in
theorem ustopped_any (h : Cur 174 w K g xs p e) (hh : Held w G 105 #[.pointer (some ⟨g, 0, none⟩), vs, vt]) :
    Calls Tryz.prog 99 #[.pointer (some ⟨G, 0, none⟩)] w fun r w' => r = .returned (.bool (decide (e ≠ 0))) ∧ w = w' := by
  have HE := Lib.hid (err_any h)
  have x0 := hh.cell 0
  simp at x0
  clear h hh
  by_cases he : e = 0
  · subst he
    go_enter Tryz.func99, Tryz.ntmps99
    go_wp2_with fail
    refine HE.out.mono ?_
    rintro r w1 ⟨rfl, rfl⟩
    go_wp2_with fail
    go_ret
    exact ⟨rfl, rfl⟩
  · have hne : (e != 0) = true := bne_iff_ne.2 he
    rw [decide_eq_true he]
    clear he
    go_enter Tryz.func99, Tryz.ntmps99
    go_wp2_with fail
    refine HE.out.mono ?_
    rintro r w1 ⟨rfl, rfl⟩
    go_wp2_with fail
    go_ret
    exact ⟨rfl, rfl⟩
theorem put_past {a b : World} {g : Nat} (h : a.grownBy b (some g)) {R : Nat} (hR : a.heap.size ≤ R) (i : Nat) (u : Value) : a.grownBy (b.setCell ⟨R, i, none⟩ u) (some g) := grown_past h (grown_put b R i u) (fun j e => by injection e with e; omega)
set_option maxRecDepth 100000 in
set_option maxHeartbeats 2000000 in
theorem uarg_any (t : Int) (h : Cur 174 w K g xs p e) (hp : p ≤ xs.length) (hK : K ≤ g) (hb : ∀ x ∈ xs, 0 ≤ x ∧ x < 256) (hh : Held w G 105 #[.pointer (some ⟨g, 0, none⟩), vs, vt]) (hgG : g ≠ G)
    (ht : w.ownsRow n 9 1 vt D.length (strVs D)) (hgn : g < n) (hDl : D.length ≤ 4096) :
    Calls Tryz.prog 153 #[.pointer (some ⟨G, 0, none⟩), .int .i64 t] w (Took Ag.val w K g xs (argU D t xs p e)) := by
  obtain ⟨w0, hw0⟩ : ∃ w0, w.alloc (.cells #[.int .i64 0, .int .i64 0, .string ⟨#[]⟩] 97) = w0 := ⟨_, rfl⟩
  have b0 : Below w.heap.size w w0 := by rw [← hw0]; exact (Below.refl _ _).alloc (Nat.le_refl _) _
  have h0 : Held w0 w.heap.size 97 #[.int .i64 0, .int .i64 0, .string ⟨#[]⟩] := by rw [← hw0]; exact heap_alloc_new w _
  have hc0 := h.below b0 hK
  have hh0 := hh.below b0 hh.lt
  have ht0 := own_below ht b0
  have hgl := h.lt
  have HH0 := Lib.hid h0
  have HG0 := Lib.hid (grown_below b0 (some g))
  have x0 := hh0.cell 0
  simp at x0
  have HGL := Lib.hid hgl
  unfold argU
  by_cases h1 : t = 1
  · subst h1
    rw [if_pos rfl]
    have HS : Hid (Calls Tryz.prog 195 #[.pointer (some ⟨g, 0, none⟩)] w0 (Took i64V w0 K g xs (sx xs p e))) := Lib.hid (signed_any hc0 hp hK hb)
    clear h hp hb hh hgG ht hgn hc0 hh0 ht0 h0 b0 hgl
    generalize sx xs p e = u at HS ⊢
    obtain ⟨N, q, e2⟩ := u
    go_enter Tryz.func153, Tryz.ntmps153
    go_wp2_with fail
    refine HS.out.mono ?_
    rintro r w1 ⟨rfl, hc1, hg1⟩
    simp only [i64V]
    have hb1 := HH0.out.grown hg1 (fun e => by have := HGL.out; injection e with e; omega)
    have f0 := hb1.frozen 0
    have f1 := hb1.frozen 1
    have f2 := hb1.frozen 2
    have c0 := hb1.cell 0
    have c1 := hb1.cell 1
    have c2 := hb1.cell 2
    simp at c0 c1 c2
    have HB1 := Lib.hid hb1
    have HC1 := Lib.hid hc1
    have HG1 := Lib.hid (grown_trans HG0.out hg1)
    clear hc1 hg1 hb1
    have hs : ∀ u0 u1 u2, Held (((w1.setCell ⟨w.heap.size, 0, none⟩ u0).setCell ⟨w.heap.size, 1, none⟩ u1).setCell ⟨w.heap.size, 2, none⟩ u2) w.heap.size 97 #[u0, u1, u2] := fun u0 u1 u2 => by simpa using ((HB1.out.put 0 u0).put 1 u1).put 2 u2
    have HCF := Lib.hid (fun u0 u1 u2 => ((HC1.out.grown (grown_put w1 w.heap.size 0 u0) (.inr HGL.out) hK).grown (grown_put (w1.setCell ⟨w.heap.size, 0, none⟩ u0) w.heap.size 1 u1) (.inr HGL.out) hK).grown (grown_put ((w1.setCell ⟨w.heap.size, 0, none⟩ u0).setCell ⟨w.heap.size, 1, none⟩ u1) w.heap.size 2 u2) (.inr HGL.out) hK)
    have HGF := Lib.hid (fun u0 u1 u2 => put_past (put_past (put_past HG1.out (Nat.le_refl _) 0 u0) (Nat.le_refl _) 1 u1) (Nat.le_refl _) 2 u2)
    have z0 := (hs (.int .i64 1) (.int .i64 N) (.string ⟨#[]⟩)).cell 0
    have z1 := (hs (.int .i64 1) (.int .i64 N) (.string ⟨#[]⟩)).cell 1
    have z2 := (hs (.int .i64 1) (.int .i64 N) (.string ⟨#[]⟩)).cell 2
    simp at z0 z1 z2
    go_wp2_with fail
    exact bodyPost_ret (v := .agg #[.int .i64 1, (.int .i64 N), (.string ⟨#[]⟩)]) (by simp [results, Tryz.results153, go_sem, z0, z1, z2]) rfl ⟨rfl, HCF.out _ _ _, HGF.out _ _ _⟩
  · rw [if_neg h1]
    have hne : (t == 1) = false := beq_eq_false_iff_ne.2 h1
    clear h1
    have HS := Lib.hid (utext_any hc0 hp hK hb hh0 hgG ht0 hgn hDl)
    clear h hp hb hh hgG ht hgn hc0 hh0 ht0 h0 b0 hgl
    generalize txtU D xs p e = u at HS ⊢
    obtain ⟨N, q, e2⟩ := u
    go_enter Tryz.func153, Tryz.ntmps153
    go_wp2_with fail
    refine HS.out.mono ?_
    rintro r w1 ⟨rfl, hc1, hg1⟩
    simp only [txtV]
    have hb1 := HH0.out.grown hg1 (fun e => by have := HGL.out; injection e with e; omega)
    have f0 := hb1.frozen 0
    have f1 := hb1.frozen 1
    have f2 := hb1.frozen 2
    have c0 := hb1.cell 0
    have c1 := hb1.cell 1
    have c2 := hb1.cell 2
    simp at c0 c1 c2
    have HB1 := Lib.hid hb1
    have HC1 := Lib.hid hc1
    have HG1 := Lib.hid (grown_trans HG0.out hg1)
    clear hc1 hg1 hb1
    have hs : ∀ u0 u1 u2, Held (((w1.setCell ⟨w.heap.size, 0, none⟩ u0).setCell ⟨w.heap.size, 1, none⟩ u1).setCell ⟨w.heap.size, 2, none⟩ u2) w.heap.size 97 #[u0, u1, u2] := fun u0 u1 u2 => by simpa using ((HB1.out.put 0 u0).put 1 u1).put 2 u2
    have HCF := Lib.hid (fun u0 u1 u2 => ((HC1.out.grown (grown_put w1 w.heap.size 0 u0) (.inr HGL.out) hK).grown (grown_put (w1.setCell ⟨w.heap.size, 0, none⟩ u0) w.heap.size 1 u1) (.inr HGL.out) hK).grown (grown_put ((w1.setCell ⟨w.heap.size, 0, none⟩ u0).setCell ⟨w.heap.size, 1, none⟩ u1) w.heap.size 2 u2) (.inr HGL.out) hK)
    have HGF := Lib.hid (fun u0 u1 u2 => put_past (put_past (put_past HG1.out (Nat.le_refl _) 0 u0) (Nat.le_refl _) 1 u1) (Nat.le_refl _) 2 u2)
    have z0 := (hs (.int .i64 t) (.int .i64 0) (.string (strOfNums N))).cell 0
    have z1 := (hs (.int .i64 t) (.int .i64 0) (.string (strOfNums N))).cell 1
    have z2 := (hs (.int .i64 t) (.int .i64 0) (.string (strOfNums N))).cell 2
    simp at z0 z1 z2
    go_wp2_with fail
    exact bodyPost_ret (v := .agg #[.int .i64 t, (.int .i64 0), (.string (strOfNums N))]) (by simp [results, Tryz.results153, go_sem, z0, z1, z2]) rfl ⟨rfl, HCF.out _ _ _, HGF.out _ _ _⟩
end
end Go.Proofs.YtimihhcidbeonaaGreat
namespace Go.Proofs.YtimihhcidbeonaaGreat
open Go.RowKit
set_option linter.unusedVariables false
section
variable {K g G n : Nat} {xs : List Int} {p : Nat} {e : Int} {w : World} {vs vt : Value}
set_option maxRecDepth 100000 in
set_option maxHeartbeats 2000000 in
theorem udict_any (h : Cur 174 w K g xs p e) (hp : p ≤ xs.length) (hK : K ≤ g) (hb : ∀ x ∈ xs, 0 ≤ x ∧ x < 256) (hh : Held w G 105 #[.pointer (some ⟨g, 0, none⟩), vs, vt]) (hgG : g ≠ G) :
    Calls Tryz.prog 96 #[.pointer (some ⟨G, 0, none⟩)] w fun r w' => (∃ A c, r = .returned (.slice A (dictU xs p e).1.length c) ∧ w'.ownsRow w.heap.size 9 1 (.slice A (dictU xs p e).1.length c) (dictU xs p e).1.length (strVs (dictU xs p e).1)) ∧
      Cur 174 w' K g xs (dictU xs p e).2.1 (dictU xs p e).2.2 ∧ w.grownBy w' (some g) := by
  obtain ⟨i0, hi, hz0, hz1, hz2⟩ := info_parts Tryz.infoStr15
  have HNUM : Hid (Calls Tryz.prog 94 #[.pointer (some ⟨g, 0, none⟩), .int .u64 4096] w (Took u64V w K g xs (nx 4096 xs p e))) := Lib.hid (number_any 4096 h hp hK hb)
  obtain ⟨⟨N, hN, hN1, hN64⟩, _, hq⟩ := nx_range (e := e) hb (m := 4096) (by decide) hp
  unfold dictU txsU
  generalize nx 4096 xs p e = t at HNUM hN hq ⊢
  obtain ⟨Ni, q, e2⟩ := t
  simp only at hN hq ⊢
  subst hN
  rw [Int.toNat_natCast]
  obtain ⟨F, hF⟩ : ∃ F : Nat → List (List Int) × Nat × Int, stepsU (fun _ s => tx xs s.1 s.2) (q, e2) = F := ⟨_, rfl⟩
  have HF0 := Lib.hid (show F 0 = ([], q, e2) by rw [← hF]; rfl)
  have HFS := Lib.hid (fun j => show F (j + 1) = ((F j).1 ++ [(tx xs (F j).2.1 (F j).2.2).1], (tx xs (F j).2.1 (F j).2.2).2) by rw [← hF]; rfl)
  have HFL := Lib.hid (fun j => show (F j).1.length = j by rw [← hF]; exact stepsU_length j)
  have HFP := Lib.hid (fun j => show (F j).2.1 ≤ xs.length by rw [← hF]; exact stepsU_inv (I := fun s : Nat × Int => s.1 ≤ xs.length) hq (fun j s h => (tx_range hb h).2) j)
  rw [hF]
  clear hF
  have x0 := hh.cell 0
  simp at x0
  have HH := Lib.hid hh
  have HGG := Lib.hid hgG
  have HBY := Lib.hid hb
  have HGL := Lib.hid h.lt
  clear h hb hp hq hh hgG
  go_enter Tryz.func96, Tryz.ntmps96
  go_wp2_with fail
  refine HNUM.out.mono ?_
  rintro r w1 ⟨rfl, hc1, hg1⟩
  simp only [u64V]
  have HC1 := Lib.hid (show Cur 174 w1 K g xs (F 0).2.1 (F 0).2.2 by rw [HF0.out]; exact hc1)
  have HG1 := Lib.hid hg1
  clear hc1 hg1 x0
  go_wp2_with fail
  go_loopg [9, 3] N (fun gk i v wr => ∃ (j : Nat) (A : Option Addr) (c : Nat), j ≤ N ∧ i = .int .u64 j ∧ v = .slice A j c ∧ Hid (N - j = gk) ∧ Hid (Cur 174 wr K g xs (F j).2.1 (F j).2.2) ∧ Hid (wr.ownsRow w.heap.size 9 1 (.slice A j c) j (strVs (F j).1)) ∧ Hid (w.grownBy wr (some g)))
  case atStart => exact ⟨0, none, 0, Nat.zero_le _, rfl, rfl, Lib.hid rfl, HC1, Lib.hid (by rw [HF0.out]; exact World.ownsRow_nil _ _ _ _), HG1⟩
  case round =>
    obtain ⟨j, A, c, hj, rfl, rfl, HGK, HC, HOW, HGR⟩ := hrel
    by_cases hlt : j < N
    · have hhr := HH.out.grown HGR.out (fun e => by injection e with e; exact HGG.out e.symm)
      have y0 := hhr.cell 0
      simp at y0
      have HTX : Hid (Calls Tryz.prog 152 #[.pointer (some ⟨g, 0, none⟩), .int .i64 200] wr (Took txtV wr K g xs (tx xs (F j).2.1 (F j).2.2))) := Lib.hid (text_any 200 (by omega) (by omega) HC.out (HFP.out j) hK HBY.out)
      have hnext := HFS.out j
      generalize tx xs (F j).2.1 (F j).2.2 = t at HTX hnext
      obtain ⟨s, q3, e3⟩ := t
      simp only at hnext
      have HNX := Lib.hid hnext
      clear hnext hhr
      go_wp2_with fail
      refine HTX.out.mono ?_
      rintro r w2 ⟨rfl, hc2, hg2⟩
      simp only [txtV]
      have HC2 := Lib.hid hc2
      have HO2 := Lib.hid (World.ownsRow.kept HOW.out hg2 (.inr (own_low HOW.out HGL.out)))
      have HG2 := Lib.hid (grown_trans HGR.out hg2)
      clear hc2 hg2 y0
      go_wp2_with (at_builtin; refine wpList_append_own _ rfl _ _ 55 rfl w.heap.size 9 i0 (.string ⟨#[]⟩) 1 16 Tryz.underlying55 hi hz0 hz1 hz2 rfl (by decide) _ _ _ rfl (HO2.out.alloc _) ⟨w2.heap.size, 0, none⟩ 1 1 [.string (strOfNums s)] rfl rfl (cell_one_new _ _ _) (by simp [Value.oneCell']) (by simp only [maxLen]; omega) (by omega) (by have := HG2.out.size; simp; omega) ?_; intro v3 w3 hown3 hg3 hn3)
      have hlow : ∀ i, (Value.slice A j c).ownBlock = some i → w.heap.size ≤ i := fun i e => (World.ownsRow.lt HO2.out i e).1
      have HC3 := Lib.hid ((HC2.out.below ((Below.refl _ _).alloc (Nat.le_refl _) (.cells #[.string (strOfNums s)] 9)) hK).past hg3 hlow HGL.out hK)
      have HG3 := Lib.hid (grown_past (grown_trans HG2.out (grown_alloc w2 (.cells #[.string (strOfNums s)] 9) (some g))) hg3 hlow)
      have HEV := Lib.hid (show strVs (F j).1 ++ [.string (strOfNums s)] = strVs (F (j + 1)).1 by rw [HNX.out]; simp [strVs, strV])
      obtain ⟨A3, c3, rfl⟩ := own_form hown3
      have HO3 := Lib.hid hown3
      clear hown3 hg3 hn3 hlow
      go_wp2_with fail
      go_roundg (N - (j + 1))
      case measure => have := HGK.out; omega
      case rel => exact ⟨j + 1, A3, c3, by omega, by go_num, rfl, Lib.hid rfl, Lib.hid (by rw [HNX.out]; exact HC3.out), Lib.hid (by rw [← HEV.out]; exact HO3.out), HG3⟩
    · obtain rfl : j = N := by omega
      go_wp2_with fail
      go_ret
      rw [HFL.out]
      exact ⟨⟨A, c, rfl, HOW.out⟩, HC.out, HGR.out⟩
end
end Go.Proofs.YtimihhcidbeonaaGreat

namespace Go.Proofs.YtimihhcidbeonaaGreat
open Go.RowKit
section
variable {K g : Nat} {xs : List Int} {p : Nat} {e : Int} {w : World}
/-- Left. -/
theorem left_any (h : Cur 174 w K g xs p e) (hp : p ≤ xs.length) :
    Calls Tryz.prog 100 #[.pointer (some ⟨g, 0, none⟩)] w fun r w' => r = .returned (.int .i64 ((xs.length - p : Nat) : Int)) ∧ ∃ n, w' = w.drewN n := by
  obtain ⟨A, c, c0, c1, c2, f1, f2, hr, hl, hc⟩ := h.cells
  clear h hr
  have hv : (((xs.length - p : Nat) : Nat) : Int) = (xs.length : Int) - (p : Int) := by omega
  rw [hv]
  clear hv
  generalize xs.length = L at *
  have hw : IntKind.i64.wrap ((L : Int) - (p : Int)) = (L : Int) - (p : Int) := IntWalk.i64_in _ (by omega)
  go_enter Tryz.func100, Tryz.ntmps100
  go_wp2_with fail
  go_quiet (fail)
  go_wp2_with fail
  go_ret
  exact ⟨rfl, _, rfl⟩
end
/-- What Done answers, and the error behind it. -/
def doneI (n p : Nat) (e : Int) : Bool × Int := if e = 0 then if p < n then (false, 4) else (true, 0) else (false, e)
set_option maxHeartbeats 1000000 in
/-- Done. -/
theorem done_any {K g : Nat} {xs : List Int} {p : Nat} {e : Int} {w : World} (h : Cur 174 w K g xs p e) (hp : p ≤ xs.length) (hK : K ≤ g) :
    Calls Tryz.prog 46 #[.pointer (some ⟨g, 0, none⟩)] w fun r w' => r = .returned (.bool (doneI xs.length p e).1) ∧ Cur 174 w' K g xs p (doneI xs.length p e).2 ∧ w.grownBy w' (some g) := by
  have HC := Lib.hid h; clear h
  by_cases hlt : p < xs.length
  · have hl0 : (0 : Int) < ((xs.length - p : Nat) : Int) := by omega
    have hl1 : 0 < xs.length - p := by omega
    have hd : doneI xs.length p e = (false, stopI e 4) := by
      unfold doneI stopI
      by_cases he : e = 0
      · rw [if_pos he, if_pos he, if_pos hlt]
      · rw [if_neg he, if_neg he]
    have hne : (stopI e 4 == 0) = false := by
      unfold stopI
      split
      · rfl
      · exact beq_eq_false_iff_ne.2 ‹_›
    obtain ⟨e2, he2⟩ : ∃ e2, stopI e 4 = e2 := ⟨_, rfl⟩
    rw [hd, he2]
    rw [he2] at hne
    have HE := Lib.hid he2; clear he2 hd
    go_enter Tryz.func46, Tryz.ntmps46
    go_wp2_with fail
    refine (left_any HC.out hp).mono ?_
    rintro r w1 ⟨rfl, n1, rfl⟩
    have HC1 : Hid (Cur 174 (w.drewN n1) K g xs p e) := HC.out.keep (fun _ _ _ => rfl) hK
    go_wp2_with fail
    refine (stop_any 4 HC1.out).mono ?_
    rintro r w2 ⟨rfl, hc2, hg2⟩
    rw [HE.out] at hc2
    obtain ⟨A, c, c0, c1, c2, f1, f2, hr, _, _⟩ := hc2.cells
    have HC2 := Lib.hid hc2; clear hc2 hr
    go_wp2_with fail
    go_ret
    exact ⟨rfl, HC2.out, ⟨hg2.os, hg2.tape, hg2.output, hg2.size, hg2.block⟩⟩
  · have hz : xs.length - p = 0 := by omega
    have hd : doneI xs.length p e = (e == 0, e) := by
      unfold doneI
      by_cases he : e = 0
      · rw [if_pos he, if_neg hlt, he]; rfl
      · rw [if_neg he, beq_eq_false_iff_ne.2 he]
    rw [hd]
    clear hd
    obtain ⟨A, c, c0, c1, c2, f1, f2, hr, _, _⟩ := HC.out.cells
    clear hr
    have hl := left_any HC.out hp
    rw [hz] at hl
    have HL := Lib.hid hl; clear hl hz
    go_enter Tryz.func46, Tryz.ntmps46
    go_wp2_with fail
    refine HL.out.mono ?_
    rintro r w1 ⟨rfl, n1, rfl⟩
    go_wp2_with fail
    go_ret
    exact ⟨rfl, HC.out.keep (fun _ _ _ => rfl) hK, grown_drewN (World.grownBy.refl _ _) n1⟩
end Go.Proofs.YtimihhcidbeonaaGreat

namespace Go.Proofs.YtimihhcidbeonaaGreat
open Go.RowKit
set_option maxRecDepth 100000 in
set_option maxHeartbeats 2000000 in
theorem bargs_any {K g n : Nat} {xs : List Int} {p : Nat} {e : Int} {w : World} (h : Cur 174 w K g xs p e) (hp : p ≤ xs.length) (hK : K ≤ g) (hb : ∀ x ∈ xs, 0 ≤ x ∧ x < 256) (hnw : n ≤ w.heap.size) :
    Calls Tryz.prog 214 #[.agg #[.pointer (some ⟨g, 0, none⟩)]] w fun r w' => ∃ A c, r = .returned (.slice A (argsC xs p e).1.length c) ∧ w'.ownsRow n 3 1 (.slice A (argsC xs p e).1.length c) (argsC xs p e).1.length ((argsC xs p e).1.map (.int .i64)) ∧
      Cur 174 w' K g xs (argsC xs p e).2.1 (argsC xs p e).2.2 ∧ w.grownBy w' (some g) := by
  obtain ⟨i0, hi, hz0, hz1, hz2⟩ := info_parts Tryz.infoIntB
  have h1 := h.below ((Below.refl _ _).alloc (Nat.le_refl _) (.cells #[.pointer (some ⟨g, 0, none⟩)] 282)) hK
  have HNUM := Lib.hid (number_any 8 h1 hp hK hb)
  obtain ⟨⟨N, hN, hN8⟩, _, hq⟩ := tkN_range (e := e) hb 8 hp
  have hN : (tk 0 p e (getN 8 (xs.drop p))).1 = (N : Int) := hN
  have hq : (tk 0 p e (getN 8 (xs.drop p))).2.1 ≤ xs.length := hq
  unfold argsC
  generalize tk 0 p e (getN 8 (xs.drop p)) = t at HNUM hN hq ⊢
  obtain ⟨Ni, q, e2⟩ := t
  simp only at hN hq ⊢
  subst hN
  rw [Int.toNat_natCast]
  have HBX0 := Lib.hid (show Held (w.alloc (.cells #[.pointer (some ⟨g, 0, none⟩)] 282)) w.heap.size 282 #[.pointer (some ⟨g, 0, none⟩)] from heap_alloc_new w _)
  have HLE := Lib.hid (fun j => stB_le (xs := xs) (e := e2) hq j)
  have HL := Lib.hid (stB_length (xs := xs) (p := q) (e := e2) N)
  have HBY0 := Lib.hid hb
  have HGL := Lib.hid h.lt
  clear h h1 hb hp hq
  go_enter Tryz.func214, Tryz.ntmps214
  go_wp2_with fail
  refine HNUM.out.mono ?_
  rintro r w1 ⟨rfl, hc1, hg1⟩
  simp only [u64V]
  have HC1 := Lib.hid hc1
  have HBX1 := Lib.hid (HBX0.out.grown hg1 (fun e => by have := HGL.out; injection e with e; omega))
  have HG1 := Lib.hid (grown_trans (grown_alloc w (.cells #[.pointer (some ⟨g, 0, none⟩)] 282) (some g)) hg1)
  clear hc1 hg1
  go_wp2_with fail
  go_loopg [7, 3] N (fun gk i v wr => ∃ (j : Nat) (A : Option Addr) (c : Nat), j ≤ N ∧ i = .int .u64 j ∧ v = .slice A j c ∧ Hid (N - j = gk) ∧ Hid (Cur 174 wr K g xs (stB xs q e2 j).2.1 (stB xs q e2 j).2.2) ∧ Hid (Held wr w.heap.size 282 #[.pointer (some ⟨g, 0, none⟩)]) ∧ Hid (wr.ownsRow (w.heap.size + 1) 3 1 (.slice A j c) j ((stB xs q e2 j).1.map (.int .i64))) ∧ Hid (w.grownBy wr (some g)))
  case atStart => exact ⟨0, none, 0, Nat.zero_le _, rfl, rfl, Lib.hid rfl, HC1, HBX1, Lib.hid (World.ownsRow_nil _ _ _ _), HG1⟩
  case round =>
    obtain ⟨j, A, c, hj, rfl, rfl, HGK, HC, HBX, HOW, HGR⟩ := hrel
    by_cases hlt : j < N
    · have hbox := HBX.out.cell 0
      simp at hbox
      have HBY := Lib.hid (byte_any HC.out (HLE.out j).2 hK HBY0.out)
      have hby := tkB_byte HBY0.out (stB xs q e2 j).2.1 (stB xs q e2 j).2.2
      have hnext : stB xs q e2 (j + 1) = ((stB xs q e2 j).1 ++ [(tk 0 (stB xs q e2 j).2.1 (stB xs q e2 j).2.2 (getB (xs.drop (stB xs q e2 j).2.1))).1], (tk 0 (stB xs q e2 j).2.1 (stB xs q e2 j).2.2 (getB (xs.drop (stB xs q e2 j).2.1))).2) := rfl
      generalize tk 0 (stB xs q e2 j).2.1 (stB xs q e2 j).2.2 (getB (xs.drop (stB xs q e2 j).2.1)) = t at HBY hby hnext
      obtain ⟨y, q3, e3⟩ := t
      simp only at hby hnext
      obtain ⟨y0, y1⟩ := hby
      have HNX := Lib.hid hnext
      have hws := HBX.out.lt
      clear hnext
      go_wp2_with fail
      refine HBY.out.mono ?_
      rintro r w2 ⟨rfl, hc2, hg2⟩
      simp only [u8V]
      have HC2 := Lib.hid hc2
      have HO2 := Lib.hid (World.ownsRow.kept HOW.out hg2 (.inr (own_low HOW.out (by have := HGL.out; omega))))
      have HBX2 := Lib.hid (HBX.out.grown hg2 (fun e => by have := HGL.out; injection e with e; omega))
      have HG2 := Lib.hid (grown_trans HGR.out hg2)
      have hs2 := HBX2.out.lt
      clear hc2 hg2 hbox
      go_wp2_with (at_builtin; refine wpList_append_own _ rfl _ _ 86 rfl (w.heap.size + 1) 3 i0 (.int .i64 0) 1 8 Tryz.underlying86 hi hz0 hz1 hz2 rfl (by decide) _ _ _ rfl (HO2.out.alloc _) ⟨w2.heap.size, 0, none⟩ 1 1 [.int .i64 y] rfl rfl (cell_one_new _ _ _) (by simp [Value.oneCell']) (by simp only [maxLen]; omega) (by omega) (by simp; omega) ?_; intro v3 w3 hown3 hg3 hn3)
      have hlow : ∀ i, (Value.slice A j c).ownBlock = some i → w.heap.size + 1 ≤ i := fun i e => (World.ownsRow.lt HO2.out i e).1
      have HC3 := Lib.hid ((HC2.out.below ((Below.refl _ _).alloc (Nat.le_refl _) (.cells #[.int .i64 y] 3)) hK).past hg3 hlow (by have := HGL.out; omega) hK)
      have HBX3 := Lib.hid ((HBX2.out.below ((Below.refl _ _).alloc (Nat.le_refl _) (.cells #[.int .i64 y] 3)) hs2).grown hg3 (fun e => by have := hlow _ e.symm; omega))
      have HG3 := Lib.hid (grown_past (grown_trans HG2.out (grown_alloc w2 (.cells #[.int .i64 y] 3) (some g))) hg3 (fun i e => by have := hlow i e; omega))
      have HEV := Lib.hid (show (stB xs q e2 j).1.map (Value.int .i64) ++ [.int .i64 y] = (stB xs q e2 (j + 1)).1.map (.int .i64) by rw [HNX.out]; simp)
      obtain ⟨A3, c3, rfl⟩ := own_form hown3
      have HO3 := Lib.hid hown3
      clear hown3 hg3 hn3 hlow
      go_wp2_with fail
      go_roundg (N - (j + 1))
      case measure => have := HGK.out; omega
      case rel => exact ⟨j + 1, A3, c3, by omega, by go_num, rfl, Lib.hid rfl, Lib.hid (by rw [HNX.out]; exact HC3.out), HBX3, Lib.hid (by rw [← HEV.out]; exact HO3.out), HG3⟩
    · obtain rfl : j = N := by omega
      go_wp2_with fail
      go_ret
      rw [HL.out]
      exact ⟨A, c, rfl, own_base HOW.out (by omega), HC.out, HGR.out⟩
end Go.Proofs.YtimihhcidbeonaaGreat
namespace Go.Proofs.YtimihhcidbeonaaGreat
open Go.RowKit
theorem OwnA.kept {w w' : World} {n m : Nat} {d : Pd} (h : OwnA w n d) (hg : w.grownBy w' (some m)) (hm : m < n) : OwnA w' n d := World.ownsRow.kept h hg (.inr (own_low h hm))
theorem OwnP.kept {w w' : World} {n m : Nat} {v : Value} {es : List Pd} (h : OwnP w n v es) (hg : w.grownBy w' (some m)) (hm : m < n) : OwnP w' n v es :=
  ⟨World.ownsRow.kept h.1 hg (.inr (own_low h.1 hm)), fun d hd => ⟨(h.2 d hd).1.kept hg hm, (h.2 d hd).2⟩⟩
set_option maxRecDepth 100000 in
set_option maxHeartbeats 2000000 in
theorem bpreds_any {K g n : Nat} {xs : List Int} {w : World} (h : Cur 174 w K g xs 0 0) (hK : K ≤ g) (hb : ∀ x ∈ xs, 0 ≤ x ∧ x < 256) (hl : xs.length ≤ 100000000000) (hnw : n ≤ w.heap.size) :
    Calls Tryz.prog 201 #[.agg #[.pointer (some ⟨g, 0, none⟩)]] w fun r w' => (∃ A c es, r = .returned (.slice A es.length c) ∧ OwnP w' n (.slice A es.length c) es ∧ es.map (·.p) = (predsC xs).1) ∧
      Cur 174 w' K g xs (predsC xs).2.1 (predsC xs).2.2 ∧ w.grownBy w' (some g) := by
  obtain ⟨i1, hi1, hy0, hy1, hy2⟩ := info_parts Tryz.infoPred
  have h1 := h.below ((Below.refl _ _).alloc (Nat.le_refl _) (.cells #[.pointer (some ⟨g, 0, none⟩)] 282)) hK
  have hnum := number_any 64 h1 (Nat.zero_le _) hK hb
  obtain ⟨⟨N, hN, hN8⟩, _, hq⟩ := tkN_range (e := 0) hb 64 (Nat.zero_le xs.length)
  have hN : (tk 0 0 0 (getN 64 (xs.drop 0))).1 = (N : Int) := hN
  have hq : (tk 0 0 0 (getN 64 (xs.drop 0))).2.1 ≤ xs.length := hq
  rw [List.drop_zero] at hnum hN hq
  have HNUM := Lib.hid hnum
  unfold predsC
  generalize tk 0 0 0 (getN 64 xs) = t at HNUM hN hq ⊢
  obtain ⟨Ni, q, e2⟩ := t
  simp only at hN hq ⊢
  subst hN
  rw [Int.toNat_natCast]
  have HBX0 := Lib.hid (show Held (w.alloc (.cells #[.pointer (some ⟨g, 0, none⟩)] 282)) w.heap.size 282 #[.pointer (some ⟨g, 0, none⟩)] from heap_alloc_new w _)
  have HLE := Lib.hid (fun j => stP_le (xs := xs) (e := e2) hb hq j)
  have HPL := Lib.hid (fun (p : Nat) (e : Int) (hp : p ≤ xs.length) => predC_le (e := e) hb hp)
  have HTL := Lib.hid (fun (p : Nat) (e : Int) (hp : p ≤ xs.length) => (tkT_le (e := e) hb 32 hp).2)
  have HBY0 := Lib.hid hb
  have HGL := Lib.hid h.lt
  clear h h1 hnum hb hq
  go_enter Tryz.func201, Tryz.ntmps201
  go_wp2_with fail
  refine HNUM.out.mono ?_
  rintro r w1 ⟨rfl, hc1, hg1⟩
  simp only [u64V]
  have HC1 := Lib.hid hc1
  have HBX1 := Lib.hid (HBX0.out.grown hg1 (fun e => by have := HGL.out; injection e with e; omega))
  have HG1 := Lib.hid (grown_trans (grown_alloc w (.cells #[.pointer (some ⟨g, 0, none⟩)] 282) (some g)) hg1)
  clear hc1 hg1
  go_wp2_with fail
  go_loopg [8, 3] N (fun gk i v wr => ∃ (j : Nat) (A : Option Addr) (c : Nat) (es : List Pd), j ≤ N ∧ i = .int .u64 j ∧ v = .slice A es.length c ∧ Hid (N - j = gk) ∧ Hid (Cur 174 wr K g xs (stP xs q e2 j).2.1 (stP xs q e2 j).2.2) ∧ Hid (Held wr w.heap.size 282 #[.pointer (some ⟨g, 0, none⟩)]) ∧ Hid (OwnP wr (w.heap.size + 1) (.slice A es.length c) es) ∧ Hid (es.map (·.p) = (stP xs q e2 j).1) ∧ Hid (w.grownBy wr (some g)))
  case atStart => exact ⟨0, none, 0, [], Nat.zero_le _, rfl, rfl, Lib.hid rfl, HC1, HBX1, Lib.hid (OwnP.nil _ _), Lib.hid rfl, HG1⟩
  case round =>
    obtain ⟨j, A, c, es, hj, rfl, rfl, HGK, HC, HBX, HOW, HES, HGR⟩ := hrel
    by_cases hlt : j < N
    · have hbox := HBX.out.cell 0
      simp at hbox
      obtain ⟨hle, hjl⟩ := HLE.out j
      have HEL := Lib.hid (show es.length = j by have := congrArg List.length HES.out; rw [hjl, List.length_map] at this; exact this)
      have hnext : stP xs q e2 (j + 1) = ((stP xs q e2 j).1 ++ [(predC xs (stP xs q e2 j).2.1 (stP xs q e2 j).2.2).1], (predC xs (stP xs q e2 j).2.1 (stP xs q e2 j).2.2).2) := rfl
      generalize (stP xs q e2 j).2.1 = p0 at HC hle hnext
      generalize (stP xs q e2 j).2.2 = e0 at HC hnext
      have hpc := HPL.out p0 e0 hle
      have htl := HTL.out p0 e0 hle
      have HTX := Lib.hid (text_any 32 (by omega) (by omega) HC.out hle hK HBY0.out)
      have HAR0 := Lib.hid (fun (W : World) (hc : Cur 174 W K g xs (tk [] p0 e0 (getT 32 (xs.drop p0))).2.1 (tk [] p0 e0 (getT 32 (xs.drop p0))).2.2) (hn : w.heap.size + 1 ≤ W.heap.size) => bargs_any (n := w.heap.size + 1) hc htl hK HBY0.out hn)
      unfold predC at hnext hpc
      generalize tk [] p0 e0 (getT 32 (xs.drop p0)) = t at HTX HAR0 hnext hpc
      obtain ⟨s, p1, e1⟩ := t
      simp only at HAR0 hnext hpc
      generalize argsC xs p1 e1 = u at HAR0 hnext hpc
      obtain ⟨ts, p2, e3⟩ := u
      simp only at HAR0 hnext hpc
      obtain ⟨_, hsl, htn, hsb, htb⟩ := hpc
      have HNX := Lib.hid hnext
      have HFT := Lib.hid (fun (A : Option Addr) (c : Nat) => show (⟨⟨s, ts⟩, A, c⟩ : Pd).Fits from ⟨by unfold maxLen; simp only; omega, hsb, fun x hx => by have := htb x hx; omega⟩)
      have hws := HBX.out.lt
      clear hnext hsb htb
      go_wp2_with fail
      refine HTX.out.mono ?_
      rintro r w2 ⟨rfl, hc2, hg2⟩
      simp only [txtV]
      have hbx2 := HBX.out.grown hg2 (fun e => by have := HGL.out; injection e with e; omega)
      have hs2 := hbx2.lt
      have hbox2 := hbx2.cell 0
      simp at hbox2
      have HC2 := Lib.hid (HAR0.out w2 hc2 (by omega))
      have HO2 := Lib.hid (HOW.out.kept hg2 (by have := HGL.out; omega))
      have HBX2 := Lib.hid hbx2
      have HG2 := Lib.hid (grown_trans HGR.out hg2)
      clear hc2 hg2 hbox hbx2
      go_wp2_with fail
      refine HC2.out.mono ?_
      rintro r w3 ⟨A2, c2, rfl, hoa, hc3, hg3⟩
      have hbx3 := HBX2.out.grown hg3 (fun e => by have := HGL.out; injection e with e; omega)
      have hs3 := hbx3.lt
      have HC3 := Lib.hid hc3
      have HO3 := Lib.hid (HO2.out.kept hg3 (by have := HGL.out; omega))
      have HA3 := Lib.hid (show OwnA w3 (w.heap.size + 1) ⟨⟨s, ts⟩, A2, c2⟩ from hoa)
      have HBX3 := Lib.hid hbx3
      have HG3 := Lib.hid (grown_trans HG2.out hg3)
      clear hc3 hg3 hoa hbox2 hbx3
      go_wp2_with (at_builtin; refine wpList_append_pred (by rfl) (.tmp 13) (.tmp 18) 22 (by rfl) i1 _ Tryz.underlying22 hi1 hy0 hy1 hy2 rfl (w.heap.size + 1) (.slice A es.length c) es (by rfl) (HO3.out.below ((Below.refl _ _).alloc (Nat.le_refl _) _)) ⟨w3.heap.size, 0, none⟩ 1 ⟨⟨s, ts⟩, A2, c2⟩ (by rfl) (by go_simp) (by go_simp) (HA3.out.below ((Below.refl _ _).alloc (Nat.le_refl _) _)) (HFT.out A2 c2) (by have := HEL.out; omega) (by simp; omega) ?_; intro v5 w5 hO5 hg5)
      have hlow : ∀ i, (Value.slice A es.length c).ownBlock = some i → w.heap.size + 1 ≤ i := fun i e => (World.ownsRow.lt HO3.out.1 i e).1
      have HC5 := Lib.hid ((HC3.out.below ((Below.refl _ _).alloc (Nat.le_refl _) (.cells #[.string (strOfNums s), .slice A2 ts.length c2] 88)) hK).past hg5 hlow (by have := HGL.out; omega) hK)
      have HBX5 := Lib.hid ((HBX3.out.below ((Below.refl _ _).alloc (Nat.le_refl _) (.cells #[.string (strOfNums s), .slice A2 ts.length c2] 88)) hs3).grown hg5 (fun e => by have := hlow _ e.symm; omega))
      have HG5 := Lib.hid (grown_past (grown_trans HG3.out (grown_alloc w3 (.cells #[.string (strOfNums s), .slice A2 ts.length c2] 88) (some g))) hg5 (fun i e => by have := hlow i e; omega))
      have HEV := Lib.hid (show (es ++ [(⟨⟨s, ts⟩, A2, c2⟩ : Pd)]).map (·.p) = (stP xs q e2 (j + 1)).1 by rw [HNX.out, List.map_append, HES.out]; rfl)
      obtain ⟨A5, c5, ev, _, _⟩ := hO5.form
      have HO5 := Lib.hid hO5
      subst ev
      clear hO5 hg5 hlow
      generalize es ++ [(⟨⟨s, ts⟩, A2, c2⟩ : Pd)] = es5 at HO5 HEV ⊢
      go_wp2_with fail
      go_roundg (N - (j + 1))
      case measure => have := HGK.out; omega
      case rel => exact ⟨j + 1, A5, c5, es5, by omega, by go_num, rfl, Lib.hid rfl, Lib.hid (by rw [HNX.out]; exact HC5.out), HBX5, HO5, HEV, HG5⟩
    · obtain rfl : j = N := by omega
      go_wp2_with fail
      go_ret
      exact ⟨⟨A, c, es, rfl, HOW.out.base (by omega), HES.out⟩, HC.out, HGR.out⟩
end Go.Proofs.YtimihhcidbeonaaGreat
namespace Go.Proofs.YtimihhcidbeonaaGreat
open Go.RowKit
/-- A signature that was read, or why none was. -/
def SigGot (n : Nat) (r : List Pr × Int) (e : Ending) (w' : World) : Prop := ∃ A c es, e = .returned (.tuple #[.slice A es.length c, .int .i64 r.2]) ∧ OwnP w' n (.slice A es.length c) es ∧ es.map (·.p) = r.1
theorem sig_bad {n : Nat} {r : List Pr × Int} {k : Int} {e : Ending} {w' : World} (hr : r = ([], k)) (he : e = .returned (.tuple #[.slice none 0 0, .int .i64 k])) : SigGot n r e w' := by
  subst hr
  exact ⟨none, 0, [], he, OwnP.nil _ _, rfl⟩
set_option maxRecDepth 100000 in
set_option maxHeartbeats 2000000 in
theorem bsget_any (A : Option Addr) (c : Nat) (xs : List Int) (hl : xs.length ≤ 1000000000) (hb : ∀ x ∈ xs, 0 ≤ x ∧ x < 256) (w : World) (hrow : Row w w.heap.size (.slice A xs.length c) xs) :
    Calls Tryz.prog 178 #[.slice A xs.length c] w fun e w' => SigGot w.heap.size (getSig xs) e w' ∧ Below w.heap.size w w' := by
  rw [← getC_eq hb]
  have HNEW := Lib.hid (new_any A c xs (by omega) w hrow)
  have HPR := Lib.hid (fun (g n : Nat) (W : World) (h : Cur 174 W w.heap.size g xs 0 0) (hK : w.heap.size ≤ g) (hn : n ≤ W.heap.size) => bpreds_any (n := n) h hK hb (by omega) hn)
  have hple := predsC_le hb
  unfold getC
  generalize predsC xs = t at HPR hple ⊢
  obtain ⟨l, p, er⟩ := t
  simp only at hple HPR ⊢
  have hbad : er ≠ 0 ∨ p < xs.length → (doneI xs.length p er).1 = false ∧ (doneI xs.length p er).2 ≠ 0 ∧ (if endC xs.length p er (checkP l) = 0 then (l, 0) else ([], endC xs.length p er (checkP l))) = (([] : List Pr), (doneI xs.length p er).2) := by
    intro h
    unfold doneI endC
    by_cases h0 : er = 0
    · have h1 : p < xs.length := h.resolve_left (fun q => q h0)
      simp [h0, h1]
    · simp [h0]
  have hok : ¬ (er ≠ 0 ∨ p < xs.length) → doneI xs.length p er = (true, 0) ∧ er = 0 ∧ endC xs.length p er (checkP l) = checkP l := by
    intro h
    have h0 : er = 0 := Classical.byContradiction fun q => h (.inl q)
    have h1 : ¬ p < xs.length := fun q => h (.inr q)
    unfold doneI endC
    simp [h0, h1]
  generalize hn : w.heap.size = n at HPR ⊢
  have HN := Lib.hid hn
  have HB0 := Lib.hid hb
  clear hn hrow hb
  by_cases hway : er ≠ 0 ∨ p < xs.length
  · obtain ⟨q1, q2, q3⟩ := hbad hway
    rw [q3]
    clear hok hbad hway q3
    have HDN := Lib.hid (fun (g : Nat) (W : World) (h : Cur 174 W n g xs p er) (hK : n ≤ g) => done_any h hple hK)
    generalize doneI xs.length p er = dn at HDN q1 q2 ⊢
    obtain ⟨d1, d2⟩ := dn
    simp only at q1 q2 ⊢
    subst q1
    have hne : (d2 != 0) = true := bne_iff_ne.2 q2
    clear q2
    go_enter Tryz.func178, Tryz.ntmps178
    go_wp2_with fail
    refine HNEW.out.mono ?_
    rintro e w1 ⟨g, rfl, hwg, hc1, hb1⟩
    rw [HN.out] at hwg hc1 hb1
    have hn1 := hb1.size
    rw [HN.out] at hn1
    have hgl := hc1.lt
    obtain ⟨w2, hw2⟩ : ∃ w2, w1.alloc (.cells #[.pointer (some ⟨g, 0, none⟩)] 282) = w2 := ⟨_, rfl⟩
    have b2 : Below w1.heap.size w1 w2 := by rw [← hw2]; exact (Below.refl _ _).alloc (Nat.le_refl _) _
    have s2 : w2.heap.size = w1.heap.size + 1 := by rw [← hw2]; simp
    have h2 : Held w2 w1.heap.size 282 #[.pointer (some ⟨g, 0, none⟩)] := by rw [← hw2]; exact heap_alloc_new w1 _
    have HBX2 := Lib.hid h2
    have HC2 := Lib.hid (HPR.out g (w1.heap.size + 1) w2 (hc1.below b2 hwg) hwg (by omega))
    have HB2 := Lib.hid (hb1.trans (b2.mono hn1))
    have hbox2 := h2.cell 0
    simp at hbox2
    clear h2 b2 hc1 hb1
    go_wp2_with fail
    refine HC2.out.mono ?_
    rintro e w3 ⟨⟨A3, c3, es, rfl, ho3, he3⟩, hc3, hg3⟩
    have hbx3 := HBX2.out.grown hg3 (fun e => by injection e with e; omega)
    have hbox3 := hbx3.cell 0
    simp at hbox3
    have HBX3 := Lib.hid hbx3
    have HB3 := Lib.hid (HB2.out.grown hg3 (by omega) (fun j e => by injection e with e; omega))
    have HD := Lib.hid (HDN.out g w3 hc3 hwg)
    clear hbox2 hbx3 hc3 hg3 ho3 he3
    go_wp2_with fail
    refine HD.out.mono ?_
    rintro e w4 ⟨rfl, hc4, hg4⟩
    have hbx4 := HBX3.out.grown hg4 (fun e => by injection e with e; omega)
    have hbox4 := hbx4.cell 0
    simp at hbox4
    have HB4 := Lib.hid (HB3.out.grown hg4 (by have := HB3.out.size; rw [HN.out] at this; exact this) (fun j e => by injection e with e; omega))
    have HE := Lib.hid (err_any hc4)
    clear hbox3 hbx4 hc4 hg4
    go_wp2_with fail
    refine HE.out.mono ?_
    rintro e w5 ⟨rfl, rfl⟩
    go_wp2_with fail
    go_ret2
    exact ⟨sig_bad rfl rfl, HB4.out⟩
  · obtain ⟨q1, rfl, q3⟩ := hok hway
    rw [q3]
    clear hok hbad hway q3
    have HDN := Lib.hid (fun (g : Nat) (W : World) (h : Cur 174 W n g xs p 0) (hK : n ≤ g) => done_any h hple hK)
    rw [q1] at HDN
    clear q1
    obtain ⟨ck, hck⟩ : ∃ ck, checkP l = ck := ⟨_, rfl⟩
    have HCK := Lib.hid (fun (A : Option Addr) (c : Nat) (ds : List Pd) (W : World) (h : PredRow W W.heap.size (.slice A ds.length c) ds) (e : ds.map (·.p) = l) => (show Calls Tryz.prog 43 #[.slice A ds.length c] W fun e w' => e = .returned (.int .i64 ck) ∧ Below W.heap.size W w' by rw [← hck, ← e]; exact scheck_any A c ds W h))
    rw [hck]
    clear hck
    go_enter Tryz.func178, Tryz.ntmps178
    go_wp2_with fail
    refine HNEW.out.mono ?_
    rintro e w1 ⟨g, rfl, hwg, hc1, hb1⟩
    rw [HN.out] at hwg hc1 hb1
    have hn1 := hb1.size
    rw [HN.out] at hn1
    have hgl := hc1.lt
    obtain ⟨w2, hw2⟩ : ∃ w2, w1.alloc (.cells #[.pointer (some ⟨g, 0, none⟩)] 282) = w2 := ⟨_, rfl⟩
    have b2 : Below w1.heap.size w1 w2 := by rw [← hw2]; exact (Below.refl _ _).alloc (Nat.le_refl _) _
    have s2 : w2.heap.size = w1.heap.size + 1 := by rw [← hw2]; simp
    have h2 : Held w2 w1.heap.size 282 #[.pointer (some ⟨g, 0, none⟩)] := by rw [← hw2]; exact heap_alloc_new w1 _
    have HBX2 := Lib.hid h2
    have HC2 := Lib.hid (HPR.out g (w1.heap.size + 1) w2 (hc1.below b2 hwg) hwg (by omega))
    have HB2 := Lib.hid (hb1.trans (b2.mono hn1))
    have hbox2 := h2.cell 0
    simp at hbox2
    clear h2 b2 hc1 hb1
    go_wp2_with fail
    refine HC2.out.mono ?_
    rintro e w3 ⟨⟨A3, c3, es, rfl, ho3, he3⟩, hc3, hg3⟩
    have hbx3 := HBX2.out.grown hg3 (fun e => by injection e with e; omega)
    have hbox3 := hbx3.cell 0
    simp at hbox3
    have HBX3 := Lib.hid hbx3
    have HB3 := Lib.hid (HB2.out.grown hg3 (by omega) (fun j e => by injection e with e; omega))
    have HD := Lib.hid (HDN.out g w3 hc3 hwg)
    have HO3 := Lib.hid ho3
    have HES := Lib.hid he3
    clear hbox2 hbx3 hc3 hg3 ho3 he3
    go_wp2_with fail
    refine HD.out.mono ?_
    rintro e w4 ⟨rfl, hc4, hg4⟩
    have hbx4 := HBX3.out.grown hg4 (fun e => by injection e with e; omega)
    have hbox4 := hbx4.cell 0
    simp at hbox4
    have hb4 := HB3.out.grown hg4 (by have := HB3.out.size; rw [HN.out] at this; exact this) (fun j e => by injection e with e; omega)
    have ho4 := HO3.out.kept hg4 (by omega)
    have hs4 := hbx4.lt
    have HB4 := Lib.hid hb4
    have HC4 := Lib.hid hc4
    have HO4 := Lib.hid ho4
    have HBX4 := Lib.hid hbx4
    have HKEEP := Lib.hid (fun (W : World) (h : Below w4.heap.size w4 W) => (show W.cell? ⟨w1.heap.size, 0, none⟩ = some (.pointer (some ⟨g, 0, none⟩)) from by have e := (hbx4.below h (by omega)).cell 0; simpa using e))
    have HCK4 := Lib.hid (fun (W : World) (h : Below w4.heap.size w4 W) => HCK.out A3 c3 es W ((ho4.below h).fresh).1 HES.out)
    clear hbox3 hc4 hg4 hb4 ho4 hbx4
    go_wp2_with fail
    go_region_held3 (fun W => W.cell? ⟨w1.heap.size, 0, none⟩ = some (.pointer (some ⟨g, 0, none⟩)))
      (first | exact HKEEP.out _ (Below.refl _ _) | exact HKEEP.out _ (Below.refl _ _).drew | exact HKEEP.out _ b5 | exact hbox6)
      (first
        | (go_at_call 43; (with_reducible refine (HCK4.out _ (by first | exact Below.refl _ _ | exact (Below.refl _ _).drew)).mono ?_); rintro r w5 ⟨rfl, hb5⟩; have b5 : Below w4.heap.size w4 w5 := (Below.refl _ _).drew.trans hb5)
        | (go_at_call 47; (with_reducible refine (stop_any ck (HC4.out.below b5 hwg)).mono ?_); rintro r w6 ⟨rfl, hc6, hg6⟩; have hbx6 := (HBX4.out.below b5 hs4).grown hg6 (fun e => by injection e with e; omega); have hbox6 : w6.cell? ⟨w1.heap.size, 0, none⟩ = some (.pointer (some ⟨g, 0, none⟩)) := by { have e := hbx6.cell 0; simpa using e }))
    rw [stopI_zero] at hc6
    have HE := Lib.hid (err_any hc6)
    have HO6 := Lib.hid ((HO4.out.below b5).kept hg6 (by omega))
    have HB6 := Lib.hid ((HB4.out.trans (b5.mono (by have := HB4.out.size; rw [HN.out] at this; exact this))).grown hg6 (by have := (HB4.out.trans (b5.mono (by have := HB4.out.size; rw [HN.out] at this; exact this))).size; rw [HN.out] at this; exact this) (fun j e => by injection e with e; omega))
    by_cases hz : ck = 0
    · subst hz
      go_wp2_with fail
      refine HE.out.mono ?_
      rintro e w7 ⟨rfl, rfl⟩
      go_wp2_with fail
      go_ret2
      exact ⟨⟨A3, c3, es, rfl, HO6.out.base (by omega), HES.out⟩, HB6.out⟩
    · have hne : (ck != 0) = true := bne_iff_ne.2 hz
      have HZ := Lib.hid hz
      clear hz
      go_wp2_with fail
      refine HE.out.mono ?_
      rintro e w7 ⟨rfl, rfl⟩
      go_wp2_with fail
      go_ret2
      exact ⟨sig_bad rfl rfl, HB6.out⟩
end Go.Proofs.YtimihhcidbeonaaGreat

namespace Go.Proofs.YtimihhcidbeonaaGreat
open Go.RowKit
theorem lst_ext {α : Type} [Inhabited α] {l m : List α} (hl : l.length = m.length) (h : ∀ i, i < l.length → l.getD i default = m.getD i default) : l = m := by
  refine List.ext_getElem hl fun i h1 h2 => ?_
  have := h i h1
  simpa [List.getD, List.getElem?_eq_getElem h1, List.getElem?_eq_getElem h2] using this
theorem part_num (w : World) (t : TypeId) (k k' : IntKind) (cs : Array Value) (i : Nat) (x : Int) (ht : Tryz.prog.underlying t = some (.int k')) (hi : cs[i]? = some (.int k x)) : (part t cs i).run Tryz.prog w = .ok (.int k x) w := by
  unfold part isAgg
  simp [run_underlying ht, hi, Result.andThen]
theorem arg_eq (w : World) (a b : Int) (s : ByteArray) (a' b' : Int) (s' : ByteArray) : (Op.equal 97 (.agg #[.int .i64 a, .int .i64 b, .string s]) (.agg #[.int .i64 a', .int .i64 b', .string s'])).run Tryz.prog w = .ok (a == a' && (b == b' && s.toList == s'.toList)) w := by
  unfold Op.equal
  rw [show Op.maxDepth = 9998 + 1 + 1 from rfl, run_equalIn_struct (P := Tryz.prog) w _ 97 _ _ (by kernel_rfl) (by kernel_rfl)]
  simp [Program.fieldsOf, Tryz.underlying97, Op.eqFields]
  rw [part_num w 3 .i64 .i64 _ 0 a Tryz.underlying3 rfl, Result.andThen_ok, part_num w 3 .i64 .i64 _ 0 a' Tryz.underlying3 rfl, Result.andThen_ok, show (9999 : Nat) = 9998 + 1 from rfl, run_equalIn_int (P := Tryz.prog) w 9998 3 .i64 .i64 a a' Tryz.underlying3, Result.andThen_ok]
  cases h : a == a' with
  | false => simp
  | true =>
    simp
    rw [part_num w 2 .i64 .i64 _ 1 b Tryz.underlying2 rfl, Result.andThen_ok, part_num w 2 .i64 .i64 _ 1 b' Tryz.underlying2 rfl, Result.andThen_ok, show (9999 : Nat) = 9998 + 1 from rfl, run_equalIn_int (P := Tryz.prog) w 9998 2 .i64 .i64 b b' Tryz.underlying2, Result.andThen_ok]
    cases h : b == b' with
    | false => simp
    | true =>
      simp
      rw [part_str w 9 _ 2 s Tryz.underlying9 rfl, Result.andThen_ok, part_str w 9 _ 2 s' Tryz.underlying9 rfl, Result.andThen_ok, show (9999 : Nat) = 9998 + 1 from rfl, run_equalIn_string (P := Tryz.prog) w 9998 9 s s' Tryz.underlying9, Result.andThen_ok]
      cases s.toList == s'.toList <;> simp
theorem ag_eq_dec {x y : Ag} (hx : x.Fits) (hy : y.Fits) : (x.t == y.t && (x.n == y.n && (strOfNums x.s).toList == (strOfNums y.s).toList)) = decide (x = y) := by
  obtain ⟨a, b, s⟩ := x
  obtain ⟨a', b', s'⟩ := y
  rw [str_eq_dec hx.2.1 hy.2.1]
  by_cases h1 : a = a' <;> by_cases h2 : b = b' <;> by_cases h3 : s = s' <;> simp [h1, h2, h3]
theorem run_neq_arg (w : World) {x y : Ag} (hx : x.Fits) (hy : y.Fits) :
    (binOp .neq 97 (.agg #[.int .i64 x.t, .int .i64 x.n, .string (strOfNums x.s)]) (.agg #[.int .i64 y.t, .int .i64 y.n, .string (strOfNums y.s)])).run Tryz.prog w = .ok (.bool (!decide (x = y))) w := by
  have h := arg_eq w x.t x.n (strOfNums x.s) y.t y.n (strOfNums y.s)
  rw [ag_eq_dec hx hy] at h
  simp only [binOp, Sem.run_bind, h, Result.andThen_ok, Sem.run_pure]
theorem ev_eq_dec (a b : Em) : decide (a.e = b.e) = (decide (a.p = b.p) && decide (a.args = b.args)) := by
  obtain ⟨p, l, _, _⟩ := a
  obtain ⟨q, m, _, _⟩ := b
  by_cases h1 : p = q <;> by_cases h2 : l = m <;> simp [Em.e, h1, h2]
theorem pn_eq_dec (a b : Pm) : decide (a.p = b.p) = (decide (a.tm = b.tm) && decide (a.evs.map (·.e) = b.evs.map (·.e))) := by
  obtain ⟨p, l, _, _⟩ := a
  obtain ⟨q, m, _, _⟩ := b
  by_cases h1 : p = q <;> by_cases h2 : l.map (·.e) = m.map (·.e) <;> simp [Pm.p, h1, h2]
end Go.Proofs.YtimihhcidbeonaaGreat

namespace Go.Proofs.YtimihhcidbeonaaGreat
open Go.RowKit
set_option maxRecDepth 100000 in
set_option maxHeartbeats 2000000 in
theorem revsame_any (d1 d2 : Em) (w : World) (g1 : d1.Ok w w.heap.size) (g2 : d2.Ok w w.heap.size) :
    Calls Tryz.prog 56 #[d1.val, d2.val] w fun e w' => e = .returned (.bool (decide (d1.e = d2.e))) ∧ Below w.heap.size w w' := by
  obtain ⟨-, hc1, hc2⟩ := g1.1.1.len
  obtain ⟨-, hc3, hc4⟩ := g2.1.1.len
  have f1 := g1.2
  have f2 := g2.2
  rw [ev_eq_dec]
  obtain ⟨p1, l1, A1, c1⟩ := d1
  obtain ⟨p2, l2, A2, c2⟩ := d2
  unfold Em.Fits at f1 f2
  dsimp only at hc1 hc2 hc3 hc4 f1 f2 ⊢
  dsimp only [Em.val]
  have HI1 := Lib.hid (fun W (h : Below w.heap.size w W) => g1.1.below h)
  have HI2 := Lib.hid (fun W (h : Below w.heap.size w W) => g2.1.below h)
  dsimp only at HI1 HI2
  clear g1 g2
  obtain ⟨w1, hw1⟩ : ∃ w1, (w.alloc (.cells #[.int .i64 p1, .slice A1 l1.length c1] 100)).alloc (.cells #[.int .i64 p2, .slice A2 l2.length c2] 100) = w1 := ⟨_, rfl⟩
  have s1 : w1.heap.size = w.heap.size + 1 + 1 := by rw [← hw1]; simp
  have b1 : Below w.heap.size w w1 := by rw [← hw1]; exact ((Below.refl _ _).alloc (Nat.le_refl _) _).alloc (by simp) _
  have h1 : Held w1 w.heap.size 100 #[.int .i64 p1, .slice A1 l1.length c1] := by
    rw [← hw1]
    exact Held.below (heap_alloc_new w _) ((Below.refl _ _).alloc (Nat.le_refl _) _) (by simp)
  have h2 : Held w1 (w.heap.size + 1) 100 #[.int .i64 p2, .slice A2 l2.length c2] := by
    rw [← hw1, show w.heap.size + 1 = (w.alloc (.cells #[.int .i64 p1, .slice A1 l1.length c1] 100)).heap.size by simp]
    exact heap_alloc_new _ _
  have e0 := h1.cell 0
  have e1 := h1.cell 1
  have e2 := h2.cell 0
  have e3 := h2.cell 1
  simp at e0 e1 e2 e3
  have HB1 := Lib.hid b1
  by_cases hd : p1 = p2
  case neg =>
    have hb1 : (p1 != p2) = true := bne_iff_ne.2 hd
    rw [decide_eq_false hd, Bool.false_and]
    clear hd h1 h2 b1
    go_enter Tryz.func56, Tryz.ntmps56
    go_wp2_with fail
    go_ret
    exact ⟨rfl, HB1.out⟩
  case pos =>
    subst hd
    rw [decide_eq_true rfl, Bool.true_and]
    have hbb : (p1 != p1) = false := by simp
    by_cases hl : l1.length = l2.length
    · have hyes := fun h => decide_eq_true (lst_ext (l := l1) (m := l2) hl h)
      have hno := fun (i : Nat) (h : l1.getD i default ≠ l2.getD i default) => decide_eq_false (p := l1 = l2) (fun e => h (by rw [e]))
      generalize decide (l1 = l2) = R at hyes hno ⊢
      have HY := Lib.hid hyes
      have HN := Lib.hid hno
      have HL := Lib.hid hl
      rw [← hl] at HI2 hc3 e3 hw1 h2 ⊢
      have hll : ((l1.length : Int) != (l1.length : Int)) = false := by simp
      have HE1 := Lib.hid (fun W (h : Below w1.heap.size w1 W) => (h1.below h (by omega)).cell 1)
      have HE3 := Lib.hid (fun W (h : Below w1.heap.size w1 W) => (h2.below h (by omega)).cell 1)
      simp at HE1 HE3
      have HS1 := Lib.hid s1
      clear hl hyes hno h1 h2 b1
      go_enter Tryz.func56, Tryz.ntmps56
      go_wp2_with fail
      clear e0 e1 e2 e3 hw1
      go_loopg [5] l1.length (fun gm i wr2 => ∃ m : Nat, m ≤ l1.length ∧ i = .int .i64 m ∧ Hid (l1.length - m = gm) ∧ Hid (∀ j, j < m → l1.getD j default = l2.getD j default) ∧ Hid (Below w1.heap.size w1 wr2))
      case atStart => exact ⟨0, Nat.zero_le _, rfl, Lib.hid rfl, Lib.hid (fun j h => absurd h (Nat.not_lt_zero _)), Lib.hid (Below.refl _ _)⟩
      case round =>
        obtain ⟨m, hm, rfl, HGM, HI, HB2⟩ := hrel
        have x1 := HE1.out _ HB2.out
        have x3 := HE3.out _ HB2.out
        by_cases hml : m < l1.length
        · have hbw2 := HB1.out.trans (HB2.out.mono (by omega))
          obtain ⟨x, hx⟩ : ∃ x, l1[m]? = some x := ⟨_, List.getElem?_eq_getElem hml⟩
          obtain ⟨y, hy⟩ : ∃ y, l2[m]? = some y := ⟨_, List.getElem?_eq_getElem (by rw [← HL.out]; exact hml)⟩
          obtain ⟨q1, r1, rfl, hq1, s0, s1, s2, fx⟩ := (HI1.out _ hbw2).at hx
          obtain ⟨q2, r2, rfl, hq2, t0, t1, t2, fy⟩ := (HI2.out _ hbw2).at hy
          have e1 := getD_of hx
          have e2 := getD_of hy
          have hne := fun W => run_neq_arg W fx fy
          by_cases he : x = y
          · have HI3 := Lib.hid (step_lt (P := fun j => l1.getD j default = l2.getD j default) HI.out (by rw [e1, e2, he]))
            rw [decide_eq_true he] at hne
            clear he hbw2 fx fy e1 e2 hx hy
            go_wp2_with fail
            go_quiet (fail)
            go_wp2_with fail
            go_roundg (l1.length - (m + 1))
            case measure => have := HGM.out; omega
            case rel => exact ⟨m + 1, by omega, by go_num, Lib.hid rfl, HI3, Lib.hid (HB2.out.trans (drewN_low _ _ _))⟩
          · have HR := Lib.hid (HN.out m (by rw [e1, e2]; exact he))
            rw [decide_eq_false he] at hne
            clear he fx fy e1 e2 hx hy
            have HB3 := Lib.hid hbw2
            clear hbw2
            go_wp2_with fail
            go_quiet (fail)
            go_wp2_with fail
            go_ret
            exact ⟨by rw [HR.out]; rfl, HB3.out.trans (drewN_low _ _ _)⟩
        · obtain rfl : m = l1.length := by omega
          have HR := Lib.hid (HY.out HI.out)
          have HB3 := Lib.hid (HB1.out.trans (HB2.out.mono (by omega)))
          go_wp2_with fail
          go_ret
          exact ⟨by rw [HR.out]; rfl, HB3.out⟩
    · have hlb : ((l1.length : Int) != (l2.length : Int)) = true := bne_iff_ne.2 (by omega)
      have hf : decide (l1 = l2) = false := decide_eq_false (fun e => hl (by rw [e]))
      rw [hf]
      clear hf hl h1 h2 b1
      go_enter Tryz.func56, Tryz.ntmps56
      go_wp2_with fail
      go_ret
      exact ⟨rfl, HB1.out⟩
set_option maxRecDepth 100000 in
set_option maxHeartbeats 4000000 in
theorem rtsame_any (A1 : Option Addr) (c1 : Nat) (ds1 : List Pm) (A2 : Option Addr) (c2 : Nat) (ds2 : List Pm) (w : World) (hrow1 : TrRow w w.heap.size (.slice A1 ds1.length c1) ds1) (hrow2 : TrRow w w.heap.size (.slice A2 ds2.length c2) ds2) :
    Calls Tryz.prog 15 #[.slice A1 ds1.length c1, .slice A2 ds2.length c2] w fun e w' => e = .returned (.bool (decide (ds1.map (·.p) = ds2.map (·.p)))) ∧ Below w.heap.size w w' := by
  obtain ⟨-, hc1, hc2⟩ := hrow1.1.len
  obtain ⟨-, hc3, hc4⟩ := hrow2.1.len
  by_cases hl : ds1.length = ds2.length
  · have hyes := fun h => decide_eq_true (lst_ext (l := ds1.map (·.p)) (m := ds2.map (·.p)) (by simpa using hl) h)
    have hno := fun (i : Nat) (h : (ds1.map (·.p)).getD i default ≠ (ds2.map (·.p)).getD i default) => decide_eq_false (p := ds1.map (·.p) = ds2.map (·.p)) (fun e => h (by rw [e]))
    generalize decide (ds1.map (·.p) = ds2.map (·.p)) = R at hyes hno ⊢
    have HY := Lib.hid hyes
    have HN := Lib.hid hno
    have HR1 := Lib.hid hrow1
    have HR2 := Lib.hid hrow2
    clear hyes hno hrow1 hrow2
    rw [← hl] at hc3
    have HL := Lib.hid hl
    rw [← hl] at HR2 ⊢
    clear hl
    obtain ⟨N, hN⟩ : ∃ N, ds1.length = N := ⟨_, rfl⟩
    have HN1 := Lib.hid hN
    rw [hN] at HR1 HR2 hc1 hc3 HL ⊢
    clear hN
    go_enter Tryz.func15, Tryz.ntmps15
    go_wp2_with fail
    go_loopg [5] N (fun gk i wr => ∃ k : Nat, k ≤ N ∧ i = .int .i64 k ∧ Hid (N - k = gk) ∧ Hid (∀ j, j < k → (ds1.map (·.p)).getD j default = (ds2.map (·.p)).getD j default) ∧ Hid (Below w.heap.size w wr))
    case atStart => exact ⟨0, Nat.zero_le _, rfl, Lib.hid rfl, Lib.hid (fun j h => absurd h (Nat.not_lt_zero _)), Lib.hid (Below.refl _ _)⟩
    case round =>
      obtain ⟨k, hk, rfl, HGK, HJ, HBW⟩ := hrel
      by_cases hlt : k < N
      · obtain ⟨d1, hd1⟩ : ∃ d, ds1[k]? = some d := ⟨_, List.getElem?_eq_getElem (by rw [HN1.out]; exact hlt)⟩
        obtain ⟨d2, hd2⟩ : ∃ d, ds2[k]? = some d := ⟨_, List.getElem?_eq_getElem (by rw [← HL.out]; exact hlt)⟩
        obtain ⟨b1, o1, rfl, hb1, x0, x1, hok1, ha1, ha2⟩ := (HR1.out.below HBW.out).at hd1
        obtain ⟨b2, o2, rfl, hb2, y0, y1, hok2, ha3, ha4⟩ := (HR2.out.below HBW.out).at hd2
        have e1 := getD_of (at_pn hd1)
        have e2 := getD_of (at_pn hd2)
        have hno := HN.out k
        rw [e1, e2] at hno
        have hst := fun (h : d1.p = d2.p) => step_lt (P := fun j => (ds1.map (·.p)).getD j default = (ds2.map (·.p)).getD j default) HJ.out (by rw [e1, e2]; exact h)
        have f1 := hok1.2
        have f2 := hok2.2
        have hiv1 := hok1.1
        have hiv2 := hok2.1
        clear e1 e2 hd1 hd2 hok1 hok2
        have hpd := pn_eq_dec d1 d2
        obtain ⟨p1, l1, B1, e1⟩ := d1
        obtain ⟨p2, l2, B2, e2⟩ := d2
        unfold Pm.Fits at f1 f2
        dsimp only at x0 x1 y0 y1 hiv1 hiv2 ha1 ha2 ha3 ha4 hno hst f1 f2 hpd
        by_cases htm : p1 = p2
        · subst htm
          have htb : (p1 != p1) = false := by simp
          by_cases hal : l1.length = l2.length
          · have HNO := Lib.hid (fun m (h : (l1.map (·.e)).getD m default ≠ (l2.map (·.e)).getD m default) => hno (fun e => h (by injection e with _ e; rw [e])))
            have HST := Lib.hid (fun h => hst (by simpa [Pm.p] using lst_ext (l := l1.map (·.e)) (m := l2.map (·.e)) (by simpa using hal) h))
            have HI1 := Lib.hid (fun W (h : Below w.heap.size wr W) => hiv1.below h)
            have HI2 := Lib.hid (fun W (h : Below w.heap.size wr W) => hiv2.below h)
            have HXX := Lib.hid (fun W (h : Below w.heap.size wr W) => (h.cell (p := ⟨b1, o1 + k * 2 + 1, none⟩) hb1).trans x1)
            have HYY := Lib.hid (fun W (h : Below w.heap.size wr W) => (h.cell (p := ⟨b2, o2 + k * 2 + 1, none⟩) hb2).trans y1)
            have HAL := Lib.hid hal
            clear hno hst hiv1 hiv2 hpd
            rw [← hal] at ha3
            have hlen2 : l2.length = l1.length := hal.symm
            have hll : ((l1.length : Int) != (l1.length : Int)) = false := by simp
            rw [hlen2] at y1 HI2 HYY
            clear hal hlen2
            go_wp2_with fail
            go_quiet (fail)
            go_wp2_with fail
            clear x0 x1 y0 y1
            obtain ⟨wx, hwx⟩ : ∃ wx, wx = wr := ⟨_, rfl⟩
            subst hwx
            go_loopg [6] l1.length (fun gm i wr2 => ∃ m : Nat, m ≤ l1.length ∧ i = .int .i64 m ∧ Hid (l1.length - m = gm) ∧ Hid (∀ j, j < m → (l1.map (·.e)).getD j default = (l2.map (·.e)).getD j default) ∧ Hid (Below w.heap.size wx wr2))
            case atStart => exact ⟨0, Nat.zero_le _, rfl, Lib.hid rfl, Lib.hid (fun j h => absurd h (Nat.not_lt_zero _)), Lib.hid (drewN_low _ _ _)⟩
            case round =>
              obtain ⟨m, hm, rfl, HGM, HI, HB2⟩ := hrel
              have x1' := HXX.out _ HB2.out
              by_cases hml : m < l1.length
              · obtain ⟨v1, hv1⟩ : ∃ x, l1[m]? = some x := ⟨_, List.getElem?_eq_getElem hml⟩
                obtain ⟨v2, hv2⟩ : ∃ x, l2[m]? = some x := ⟨_, List.getElem?_eq_getElem (by rw [← HAL.out]; exact hml)⟩
                obtain ⟨q1, r1, rfl, hq1, s0, s1, hk1, hl1, hl2⟩ := (HI1.out _ HB2.out).at hv1
                obtain ⟨q2, r2, rfl, hq2, t0, t1, hk2, hl3, hl4⟩ := (HI2.out _ HB2.out).at hv2
                have g1 := hk1.2
                have g2 := hk2.2
                unfold Em.Fits at g1 g2
                have z2 := (HBW.out.trans HB2.out).size
                have hall : ∀ W, Below w.heap.size wr W → W.cell? ⟨b1, o1 + k * 2 + 1, none⟩ = some (.slice (some ⟨q1, r1, none⟩) l1.length e1) ∧ W.cell? ⟨b2, o2 + k * 2 + 1, none⟩ = some (.slice (some ⟨q2, r2, none⟩) l1.length e2) ∧
                    W.cell? ⟨q1, r1 + m * 2, none⟩ = some (.int .i64 v1.p) ∧ W.cell? ⟨q1, r1 + m * 2 + 1, none⟩ = some (.slice v1.A v1.args.length v1.c) ∧ W.cell? ⟨q2, r2 + m * 2, none⟩ = some (.int .i64 v2.p) ∧ W.cell? ⟨q2, r2 + m * 2 + 1, none⟩ = some (.slice v2.A v2.args.length v2.c) := fun W h =>
                  ⟨HXX.out _ (HB2.out.trans h), HYY.out _ (HB2.out.trans h), (h.cell (p := ⟨q1, r1 + m * 2, none⟩) hq1).trans s0, (h.cell (p := ⟨q1, r1 + m * 2 + 1, none⟩) hq1).trans s1, (h.cell (p := ⟨q2, r2 + m * 2, none⟩) hq2).trans t0, (h.cell (p := ⟨q2, r2 + m * 2 + 1, none⟩) hq2).trans t1⟩
                have HALL := Lib.hid hall
                have HEV := Lib.hid (fun W (h : Below w.heap.size wr W) => revsame_any v1 v2 W ((hk1.below h).more (Nat.le_trans z2 h.size)) ((hk2.below h).more (Nat.le_trans z2 h.size)))
                have E1 := getD_of (at_ev hv1)
                have E2 := getD_of (at_ev hv2)
                have HE := Lib.hid (And.intro E1 E2)
                clear hall hk1 hk2 hv1 hv2 E1 E2
                by_cases hp : v1.e = v2.e
                · have HJ2 := Lib.hid (step_lt (P := fun j => (l1.map (·.e)).getD j default = (l2.map (·.e)).getD j default) HI.out (by rw [HE.out.1, HE.out.2]; exact hp))
                  rw [decide_eq_true hp] at HEV
                  clear hp
                  go_wp2_with fail
                  go_region_held3 (fun W => W.cell? ⟨b1, o1 + k * 2 + 1, none⟩ = some (.slice (some ⟨q1, r1, none⟩) l1.length e1) ∧ W.cell? ⟨b2, o2 + k * 2 + 1, none⟩ = some (.slice (some ⟨q2, r2, none⟩) l1.length e2) ∧
                    W.cell? ⟨q1, r1 + m * 2, none⟩ = some (.int .i64 v1.p) ∧ W.cell? ⟨q1, r1 + m * 2 + 1, none⟩ = some (.slice v1.A v1.args.length v1.c) ∧ W.cell? ⟨q2, r2 + m * 2, none⟩ = some (.int .i64 v2.p) ∧ W.cell? ⟨q2, r2 + m * 2 + 1, none⟩ = some (.slice v2.A v2.args.length v2.c))
                    (first | exact HALL.out _ (Below.refl _ _) | exact HALL.out _ (Below.refl _ _).drew | exact HALL.out _ b7)
                    (first | (go_at_call 56; (with_reducible refine (HEV.out _ (Below.refl _ _).drew).mono ?_); rintro e w7 ⟨rfl, hb7⟩; have b7 : Below w.heap.size wr w7 := (Below.refl _ _).drew.trans (hb7.mono z2)))
                  have HB7 := Lib.hid (HB2.out.trans b7)
                  clear b7 hb7 s0 s1 t0 t1 x1'
                  go_wp2_with fail
                  go_roundg (l1.length - (m + 1))
                  case measure => have := HGM.out; omega
                  case rel => exact ⟨m + 1, by omega, by go_num, Lib.hid rfl, HJ2, HB7⟩
                · have HR := Lib.hid (HNO.out m (by rw [HE.out.1, HE.out.2]; exact hp))
                  rw [decide_eq_false hp] at HEV
                  clear hp
                  go_wp2_with fail
                  go_region_held3 (fun W => W.cell? ⟨b1, o1 + k * 2 + 1, none⟩ = some (.slice (some ⟨q1, r1, none⟩) l1.length e1) ∧ W.cell? ⟨b2, o2 + k * 2 + 1, none⟩ = some (.slice (some ⟨q2, r2, none⟩) l1.length e2) ∧
                    W.cell? ⟨q1, r1 + m * 2, none⟩ = some (.int .i64 v1.p) ∧ W.cell? ⟨q1, r1 + m * 2 + 1, none⟩ = some (.slice v1.A v1.args.length v1.c) ∧ W.cell? ⟨q2, r2 + m * 2, none⟩ = some (.int .i64 v2.p) ∧ W.cell? ⟨q2, r2 + m * 2 + 1, none⟩ = some (.slice v2.A v2.args.length v2.c))
                    (first | exact HALL.out _ (Below.refl _ _) | exact HALL.out _ (Below.refl _ _).drew | exact HALL.out _ b7)
                    (first | (go_at_call 56; (with_reducible refine (HEV.out _ (Below.refl _ _).drew).mono ?_); rintro e w7 ⟨rfl, hb7⟩; have b7 : Below w.heap.size wr w7 := (Below.refl _ _).drew.trans (hb7.mono z2)))
                  have HB7 := Lib.hid ((HBW.out.trans HB2.out).trans b7)
                  clear b7 hb7 s0 s1 t0 t1 x1'
                  go_wp2_with fail
                  go_ret
                  exact ⟨by rw [HR.out]; rfl, HB7.out⟩
              · obtain rfl : m = l1.length := by omega
                have HJ2 := Lib.hid (HST.out (fun i hi => HI.out i (by rw [List.length_map] at hi; exact hi)))
                go_wp2_with fail
                go_roundg (N - (k + 1))
                case measure => have := HGK.out; omega
                case rel => exact ⟨k + 1, by omega, by go_num, Lib.hid rfl, HJ2, Lib.hid (HBW.out.trans HB2.out)⟩
          · have hR := hno (fun h => hal (by injection h with _ h; have := congrArg List.length h; simpa using this))
            have hne : ((l1.length : Int) != (l2.length : Int)) = true := bne_iff_ne.2 (by omega)
            have HR := Lib.hid hR
            clear hno hst hR hiv1 hiv2 hpd
            go_wp2_with fail
            go_quiet (fail)
            go_wp2_with fail
            go_ret
            exact ⟨by rw [HR.out]; rfl, HBW.out.trans (drewN_low _ _ _)⟩
        · have hR := hno (fun h => htm (by injection h))
          have hne : (p1 != p2) = true := bne_iff_ne.2 htm
          have HR := Lib.hid hR
          clear hno hst hR hiv1 hiv2 htm hpd
          go_wp2_with fail
          go_quiet (fail)
          go_wp2_with fail
          go_ret
          exact ⟨by rw [HR.out]; rfl, HBW.out.trans (drewN_low _ _ _)⟩
      · obtain rfl : k = N := by omega
        have HR := Lib.hid (HY.out (fun i hi => HJ.out i (by rw [List.length_map, HN1.out] at hi; exact hi)))
        go_wp2_with fail
        go_ret
        exact ⟨by rw [HR.out]; rfl, HBW.out⟩
  · have hlb : ((ds1.length : Int) != (ds2.length : Int)) = true := bne_iff_ne.2 (by omega)
    have hf : decide (ds1.map (·.p) = ds2.map (·.p)) = false := decide_eq_false (fun e => hl (by have := congrArg List.length e; simpa using this))
    rw [hf]
    clear hf hrow1 hrow2
    go_enter Tryz.func15, Tryz.ntmps15
    go_wp2_with fail
    go_ret
    exact ⟨rfl, Below.refl _ _⟩
end Go.Proofs.YtimihhcidbeonaaGreat

namespace Go.Proofs.YtimihhcidbeonaaGreat
open Go.RowKit Go.ChangeShapes Go.WideShapes
set_option linter.unusedVariables false
/-- Refused frames in memory. -/
def flatJ : List (Int × Int) → List Value
  | [] => []
  | a :: l => .int .i64 a.1 :: .int .i64 a.2 :: flatJ l
/-- Where it lies: in blocks below B. -/
structure GAt (W : World) (B : Nat) (g : Gp) (SA : Option Addr) (Sc : Nat) (es : List Pd) (PA : Option Addr) (Pc : Nat) (ps : List Pm) (RA : Option Addr) (Rc : Nat) : Prop where
  sig : PredRow W B (.slice SA es.length Sc) es
  sigp : es.map (·.p) = g.sig
  pts : TrRow W B (.slice PA ps.length Pc) ps
  ptsp : ps.map (·.p) = g.pts
  rej : ERow W B (.slice RA g.rej.length Rc) g.rej.length (flatJ g.rej)
section
variable {W W' : World} {B B' : Nat} {g : Gp} {SA : Option Addr} {Sc : Nat} {es : List Pd} {PA : Option Addr} {Pc : Nat} {ps : List Pm} {RA : Option Addr} {Rc : Nat}
theorem GAt.below (h : GAt W B g SA Sc es PA Pc ps RA Rc) (hb : Below B W W') : GAt W' B g SA Sc es PA Pc ps RA Rc := ⟨h.sig.below hb, h.sigp, h.pts.below hb, h.ptsp, h.rej.below hb⟩
theorem GAt.more (h : GAt W B g SA Sc es PA Pc ps RA Rc) (hB : B ≤ B') : GAt W B' g SA Sc es PA Pc ps RA Rc := ⟨h.sig.more hB, h.sigp, h.pts.more hB, h.ptsp, h.rej.more hB⟩
end
theorem getU_len {sig : List Pr} {xs : List Int} (h : (getU sig xs).2 = 0) : 0 < (getU sig xs).1.length ∧ (getU sig xs).1.length ≤ 1024 := by
  unfold getU at h ⊢
  by_cases h1 : checkP sig ≠ 0
  · rw [if_pos h1] at h; exact absurd h h1
  · rw [if_neg h1] at h ⊢
    by_cases h2 : endU sig xs (readU sig xs) ≠ 0
    · rw [if_pos h2] at h; exact absurd h h2
    · rw [if_neg h2] at h ⊢
      have h3 : endU sig xs (readU sig xs) = 0 := by simpa using h2
      unfold endU at h3
      by_cases e1 : (readU sig xs).2.2.2 ≠ 0
      · rw [if_pos e1] at h3; exact absurd h3 e1
      · rw [if_neg e1] at h3
        by_cases e2 : (readU sig xs).2.2.1 < xs.length
        · rw [if_pos e2] at h3; omega
        · rw [if_neg e2] at h3
          unfold wayU at h3
          by_cases e3 : 4096 < xs.length
          · rw [if_pos e3] at h3; omega
          · rw [if_neg e3] at h3
            by_cases e4 : putB sig ((readU sig xs).1.map bareP) = (xs, 0)
            · have hq := checkB_zero (putB_ok (sig := sig) (l := (readU sig xs).1.map bareP) (by rw [e4])).1
              rw [List.length_map] at hq
              exact ⟨hq.1, hq.2.2⟩
            · rw [if_neg e4] at h3; omega
theorem OwnP.row {w : World} {n : Nat} {A : Option Addr} {c : Nat} {es : List Pd} (h : OwnP w n (.slice A es.length c) es) : PredRow w w.heap.size (.slice A es.length c) es := h.fresh.1
end Go.Proofs.YtimihhcidbeonaaGreat

namespace Go.Proofs.YtimihhcidbeonaaGreat
open Go.RowKit Go.ChangeShapes Go.WideShapes
set_option linter.unusedVariables false
def sameG (a b : Gp) : Bool := decide (a.sk = b.sk ∧ a.fr = b.fr ∧ a.rej = b.rej ∧ a.sig = b.sig ∧ a.pts = b.pts)
/-- What was read, as an api.Got. -/
abbrev GW (g : Gp) (SA : Option Addr) (Sc : Nat) (es : List Pd) (PA : Option Addr) (Pc : Nat) (ps : List Pm) (RA : Option Addr) (Rc : Nat) : Value :=
  .agg #[.slice SA es.length Sc, .slice PA ps.length Pc, .int .i64 g.sk, .int .i64 g.fr, .slice RA g.rej.length Rc]
theorem flatJ_length : ∀ l : List (Int × Int), (flatJ l).length = l.length * 2
  | [] => rfl
  | a :: l => by simp only [flatJ, List.length_cons, flatJ_length l]; omega
theorem flatJ_append : ∀ l m : List (Int × Int), flatJ (l ++ m) = flatJ l ++ flatJ m
  | [], m => rfl
  | a :: l, m => by simp only [List.cons_append, flatJ, flatJ_append l m]
theorem oneJ : ∀ (l : List (Int × Int)), ∀ u ∈ flatJ l, u.oneCell' = true
  | [], u, h => by simp [flatJ] at h
  | d :: l, u, h => by
    rw [flatJ] at h
    rcases List.mem_cons.1 h with rfl | h
    · rfl
    · rcases List.mem_cons.1 h with rfl | h
      · rfl
      · exact oneJ l u h
theorem flatJ_at : ∀ (l : List (Int × Int)) (i : Nat) (d : Int × Int), l[i]? = some d → (flatJ l)[i * 2]? = some (.int .i64 d.1) ∧ (flatJ l)[i * 2 + 1]? = some (.int .i64 d.2)
  | [], i, d, h => by simp at h
  | a :: l, 0, d, h => by
    simp only [List.getElem?_cons_zero, Option.some.injEq] at h
    subst h
    exact ⟨rfl, rfl⟩
  | a :: l, i + 1, d, h => by
    rw [List.getElem?_cons_succ] at h
    obtain ⟨h1, h2⟩ := flatJ_at l i d h
    rw [flatJ, show (i + 1) * 2 = i * 2 + 2 by omega]
    exact ⟨h1, h2⟩
theorem rj_eq (w : World) (a b a' b' : Int) : (Op.equal 73 (.agg #[.int .i64 a, .int .i64 b]) (.agg #[.int .i64 a', .int .i64 b'])).run Tryz.prog w = .ok (a == a' && b == b') w := by
  unfold Op.equal
  rw [show Op.maxDepth = 9998 + 1 + 1 from rfl, run_equalIn_struct (P := Tryz.prog) w _ 73 _ _ (by kernel_rfl) (by kernel_rfl)]
  simp [Program.fieldsOf, Tryz.underlying73, Op.eqFields]
  rw [part_num w 3 .i64 .i64 _ 0 a Tryz.underlying3 rfl, Result.andThen_ok, part_num w 3 .i64 .i64 _ 0 a' Tryz.underlying3 rfl, Result.andThen_ok, show (9999 : Nat) = 9998 + 1 from rfl, run_equalIn_int (P := Tryz.prog) w 9998 3 .i64 .i64 a a' Tryz.underlying3, Result.andThen_ok]
  cases h : a == a' with
  | false => simp
  | true =>
    simp
    rw [part_num w 27 .i64 .i64 _ 1 b Tryz.underlying27 rfl, Result.andThen_ok, part_num w 27 .i64 .i64 _ 1 b' Tryz.underlying27 rfl, Result.andThen_ok, show (9999 : Nat) = 9998 + 1 from rfl, run_equalIn_int (P := Tryz.prog) w 9998 27 .i64 .i64 b b' Tryz.underlying27, Result.andThen_ok]
    cases b == b' <;> simp
theorem run_neq_rj (w : World) (x y : Int × Int) :
    (binOp .neq 73 (.agg #[.int .i64 x.1, .int .i64 x.2]) (.agg #[.int .i64 y.1, .int .i64 y.2])).run Tryz.prog w = .ok (.bool (!decide (x = y))) w := by
  have h := rj_eq w x.1 x.2 y.1 y.2
  rw [show (x.1 == y.1 && x.2 == y.2) = decide (x = y) by
    obtain ⟨a, b⟩ := x
    obtain ⟨c, d⟩ := y
    by_cases h1 : a = c <;> by_cases h2 : b = d <;> simp [h1, h2]] at h
  simp only [binOp, Sem.run_bind, h, Result.andThen_ok, Sem.run_pure]
section
variable (g1 : Gp) (SA1 : Option Addr) (Sc1 : Nat) (es1 : List Pd) (PA1 : Option Addr) (Pc1 : Nat) (ps1 : List Pm) (RA1 : Option Addr) (Rc1 : Nat) (g2 : Gp) (SA2 : Option Addr) (Sc2 : Nat) (es2 : List Pd) (PA2 : Option Addr) (Pc2 : Nat) (ps2 : List Pm) (RA2 : Option Addr) (Rc2 : Nat) (w : World)
set_option maxRecDepth 100000 in
set_option maxHeartbeats 2000000 in
theorem rgsame_any (hg1 : GAt w w.heap.size g1 SA1 Sc1 es1 PA1 Pc1 ps1 RA1 Rc1) (hg2 : GAt w w.heap.size g2 SA2 Sc2 es2 PA2 Pc2 ps2 RA2 Rc2) :
    Calls Tryz.prog 32 #[GW g1 SA1 Sc1 es1 PA1 Pc1 ps1 RA1 Rc1, GW g2 SA2 Sc2 es2 PA2 Pc2 ps2 RA2 Rc2] w fun e w' => e = .returned (.bool (sameG g1 g2)) ∧ Below w.heap.size w w' := by
  obtain ⟨N, hN⟩ : ∃ N, w.heap.size = N := ⟨_, rfl⟩
  obtain ⟨u0, hu0⟩ : ∃ u, w.alloc (.cells #[.slice SA1 es1.length Sc1, .slice PA1 ps1.length Pc1, .int .i64 g1.sk, .int .i64 g1.fr, .slice RA1 g1.rej.length Rc1] 64) = u := ⟨_, rfl⟩
  have s0 : u0.heap.size = N + 1 := by rw [← hu0, World.size_alloc, hN]
  have b0 : Below N w u0 := by rw [← hu0]; exact (Below.refl _ _).alloc (by omega) _
  have k0 : Held u0 N 64 #[.slice SA1 es1.length Sc1, .slice PA1 ps1.length Pc1, .int .i64 g1.sk, .int .i64 g1.fr, .slice RA1 g1.rej.length Rc1] := by rw [← hu0, ← hN]; exact heap_alloc_new w _
  obtain ⟨u1, hu1⟩ : ∃ u, u0.alloc (.cells #[.slice SA2 es2.length Sc2, .slice PA2 ps2.length Pc2, .int .i64 g2.sk, .int .i64 g2.fr, .slice RA2 g2.rej.length Rc2] 64) = u := ⟨_, rfl⟩
  have s1 : u1.heap.size = N + 1 + 1 := by rw [← hu1, World.size_alloc, s0]
  have b1 : Below (N + 1) u0 u1 := by rw [← hu1]; exact (Below.refl _ _).alloc (by omega) _
  have h1 : Held u1 (N + 1) 64 #[.slice SA2 es2.length Sc2, .slice PA2 ps2.length Pc2, .int .i64 g2.sk, .int .i64 g2.fr, .slice RA2 g2.rej.length Rc2] := by rw [← hu1, ← s0]; exact heap_alloc_new u0 _
  have h0 := k0.below b1 (by omega)
  have hbb : Below N w u1 := b0.trans (b1.mono (by omega))
  rw [hN] at hg1 hg2 ⊢
  have x0 := h0.cell 0
  have x1 := h0.cell 1
  have x2 := h0.cell 2
  have x3 := h0.cell 3
  have x4 := h0.cell 4
  have y0 := h1.cell 0
  have y1 := h1.cell 1
  have y2 := h1.cell 2
  have y3 := h1.cell 3
  have y4 := h1.cell 4
  simp at x0 x1 x2 x3 x4 y0 y1 y2 y3 y4
  have HG1 := Lib.hid (hg1.below hbb)
  have HG2 := Lib.hid (hg2.below hbb)
  have HB := Lib.hid hbb
  have HH := Lib.hid (And.intro h0 h1)
  obtain ⟨-, hr1, hr2⟩ := hg1.rej.len
  obtain ⟨-, hq1, hq2⟩ := hg2.rej.len
  obtain ⟨-, ha1, ha2⟩ := hg1.pts.1.len
  obtain ⟨-, hb1, hb2⟩ := hg2.pts.1.len
  clear hg1 hg2 hbb b0 b1 k0 h0 h1
  obtain ⟨RR, hRR⟩ : ∃ RR, sameG g1 g2 = RR := ⟨_, rfl⟩
  rw [hRR]
  have HRR := Lib.hid hRR
  clear hRR
  by_cases c1 : g1.sk = g2.sk
  · have d1 : (g1.sk != g2.sk) = false := bne_eq_false_iff_eq.2 c1
    have HC1 := Lib.hid c1
    clear c1
    by_cases c2 : g1.fr = g2.fr
    · have d2 : (g1.fr != g2.fr) = false := bne_eq_false_iff_eq.2 c2
      have HC2 := Lib.hid c2
      clear c2
      by_cases c3 : g1.rej.length = g2.rej.length
      · have d3 : ((g1.rej.length : Int) != (g2.rej.length : Int)) = false := bne_eq_false_iff_eq.2 (by omega)
        have HC3 := Lib.hid c3
        clear c3
        go_enter Tryz.func32, Tryz.ntmps32
        go_wp2_with fail
        go_loopg [5] g1.rej.length (fun gk i wr => ∃ k : Nat, i = .int .i64 k ∧ k ≤ g1.rej.length ∧ Hid (g1.rej.length - k = gk) ∧ Hid (∀ j, j < k → g1.rej.getD j default = g2.rej.getD j default) ∧ Hid (Below u1.heap.size u1 wr))
        case atStart => exact ⟨0, rfl, Nat.zero_le _, Lib.hid rfl, Lib.hid (fun j hj => absurd hj (Nat.not_lt_zero _)), Lib.hid (Below.refl _ _)⟩
        case round =>
          obtain ⟨k, rfl, hk, HGK, HALL, HBR⟩ := hrel
          have h0 := HH.out.1.below HBR.out (by omega)
          have h1 := HH.out.2.below HBR.out (by omega)
          clear x0 x1 x2 x3 x4 y0 y1 y2 y3 y4
          have x0 := h0.cell 0
          have x1 := h0.cell 1
          have x2 := h0.cell 2
          have x3 := h0.cell 3
          have x4 := h0.cell 4
          have y0 := h1.cell 0
          have y1 := h1.cell 1
          have y2 := h1.cell 2
          have y3 := h1.cell 3
          have y4 := h1.cell 4
          simp at x0 x1 x2 x3 x4 y0 y1 y2 y3 y4
          have hz := HBR.out.size
          clear h0 h1
          by_cases hlt : k < g1.rej.length
          · obtain ⟨x, hx⟩ : ∃ x, g1.rej[k]? = some x := ⟨_, List.getElem?_eq_getElem hlt⟩
            obtain ⟨y, hy⟩ : ∃ y, g2.rej[k]? = some y := ⟨_, List.getElem?_eq_getElem (by rw [← HC3.out]; exact hlt)⟩
            obtain ⟨q, r, rfl, hql, hqc⟩ := (HG1.out.rej.below (HBR.out.mono (by omega))).block (by omega)
            obtain ⟨q', r', rfl, hql', hqc'⟩ := (HG2.out.rej.below (HBR.out.mono (by omega))).block (by have := HC3.out; omega)
            obtain ⟨m0, m1⟩ := flatJ_at _ _ _ hx
            obtain ⟨n0, n1⟩ := flatJ_at _ _ _ hy
            have p0 := hqc _ _ m0
            have p1 := hqc _ _ m1
            have t0 := hqc' _ _ n0
            have t1 := hqc' _ _ n1
            rw [← Nat.add_assoc] at p1 t1
            have hne := fun W => run_neq_rj W x y
            have e1 : g1.rej.getD k default = x := by simp [List.getD, hx]
            have e2 : g2.rej.getD k default = y := by simp [List.getD, hy]
            have hlt2 : (k : Int) < (g2.rej.length : Int) := by have := HC3.out; omega
            have hlt3 : k < g2.rej.length := by have := HC3.out; omega
            clear m0 m1 n0 n1 hqc hqc'
            by_cases he : x = y
            · have HI3 := Lib.hid (show ∀ j, j < k + 1 → g1.rej.getD j default = g2.rej.getD j default from fun j hj => by
                by_cases hjk : j = k
                · rw [hjk, e1, e2, he]
                · exact HALL.out j (by omega))
              rw [decide_eq_true he] at hne
              clear he e1 e2 hx hy
              go_wp2_with fail
              go_quiet (fail)
              go_wp2_with fail
              go_roundg (g1.rej.length - (k + 1))
              case measure => have := HGK.out; omega
              case rel => exact ⟨k + 1, by go_num, by omega, Lib.hid rfl, HI3, Lib.hid (HBR.out.trans (drewN_low _ _ _))⟩
            · have HR := Lib.hid (show RR = false by rw [← HRR.out]; exact decide_eq_false (fun h => he (by rw [← e1, ← e2, h.2.2.1])))
              rw [decide_eq_false he] at hne
              clear he e1 e2 hx hy
              go_wp2_with fail
              go_quiet (fail)
              go_wp2_with fail
              go_ret
              exact ⟨by rw [HR.out]; rfl, HB.out.trans ((HBR.out.trans (drewN_low _ _ _)).mono (by omega))⟩
          · have hrej : g1.rej = g2.rej := lst_ext HC3.out (fun j hj => HALL.out j (by omega))
            have HS1 := Lib.hid (rsigsame_any SA1 Sc1 es1 SA2 Sc2 es2 wr ((HG1.out.sig.below (HBR.out.mono (by omega))).more (by omega)) ((HG2.out.sig.below (HBR.out.mono (by omega))).more (by omega)))
            have HS2 := Lib.hid (fun W (h : Below wr.heap.size wr W) => rtsame_any PA1 Pc1 ps1 PA2 Pc2 ps2 W ((HG1.out.pts.below ((HBR.out.mono (by omega)).trans (h.mono (by omega)))).more (by have := h.size; omega)) ((HG2.out.pts.below ((HBR.out.mono (by omega)).trans (h.mono (by omega)))).more (by have := h.size; omega)))
            rw [HG1.out.sigp, HG2.out.sigp] at HS1
            rw [HG1.out.ptsp, HG2.out.ptsp] at HS2
            have HKK := Lib.hid (fun W (h : Below wr.heap.size wr W) => And.intro (HH.out.1.below (HBR.out.trans (h.mono hz)) (by omega)) (HH.out.2.below (HBR.out.trans (h.mono hz)) (by omega)))
            have HRE := Lib.hid hrej
            have hkn : k = g1.rej.length := by omega
            subst hkn
            clear hrej
            by_cases hs : g1.sig = g2.sig
            · rw [decide_eq_true hs] at HS1
              have HSS := Lib.hid hs
              clear hs
              go_wp2_with fail
              refine HS1.out.mono ?_
              rintro e w5 ⟨rfl, hb5⟩
              obtain ⟨h0, h1⟩ := HKK.out w5 hb5
              clear x0 x1 x2 x3 x4 y0 y1 y2 y3 y4
              have x0 := h0.cell 0
              have x1 := h0.cell 1
              have x2 := h0.cell 2
              have x3 := h0.cell 3
              have x4 := h0.cell 4
              have y0 := h1.cell 0
              have y1 := h1.cell 1
              have y2 := h1.cell 2
              have y3 := h1.cell 3
              have y4 := h1.cell 4
              simp at x0 x1 x2 x3 x4 y0 y1 y2 y3 y4
              have hz5 := hb5.size
              have HB5 := Lib.hid (HBR.out.trans (hb5.mono hz))
              have HS3 := Lib.hid (HS2.out w5 hb5)
              clear h0 h1 hb5
              go_wp2_with fail
              refine HS3.out.mono ?_
              rintro e w6 ⟨rfl, hb6⟩
              have HB6 := Lib.hid (HB.out.trans ((HB5.out.trans (hb6.mono (by omega))).mono (by omega)))
              have hR : RR = decide (g1.pts = g2.pts) := by
                rw [← HRR.out]
                unfold sameG
                simp only [HC1.out, HC2.out, HRE.out, HSS.out, true_and]
              have HR := Lib.hid hR
              clear hb6 hR
              go_wp2_with fail
              go_ret
              exact ⟨by rw [HR.out]; rfl, HB6.out⟩
            · rw [decide_eq_false hs] at HS1
              have HR := Lib.hid (show RR = false by rw [← HRR.out]; exact decide_eq_false (fun h => hs h.2.2.2.1))
              clear hs
              go_wp2_with fail
              refine HS1.out.mono ?_
              rintro e w5 ⟨rfl, hb5⟩
              have HB5 := Lib.hid (HB.out.trans ((HBR.out.trans (hb5.mono hz)).mono (by omega)))
              clear hb5
              go_wp2_with fail
              go_ret
              exact ⟨by rw [HR.out]; rfl, HB5.out⟩
      · have d3 : ((g1.rej.length : Int) != (g2.rej.length : Int)) = true := bne_iff_ne.2 (by omega)
        have HR := Lib.hid (show RR = false by rw [← HRR.out]; exact decide_eq_false (fun h => c3 (by rw [h.2.2.1])))
        clear c3
        go_enter Tryz.func32, Tryz.ntmps32
        go_wp2_with fail
        go_ret
        exact ⟨by rw [HR.out]; rfl, HB.out⟩
    · have d2 : (g1.fr != g2.fr) = true := bne_iff_ne.2 c2
      have HR := Lib.hid (show RR = false by rw [← HRR.out]; exact decide_eq_false (fun h => c2 h.2.1))
      clear c2
      go_enter Tryz.func32, Tryz.ntmps32
      go_wp2_with fail
      go_ret
      exact ⟨by rw [HR.out]; rfl, HB.out⟩
  · have d1 : (g1.sk != g2.sk) = true := bne_iff_ne.2 c1
    have HR := Lib.hid (show RR = false by rw [← HRR.out]; exact decide_eq_false (fun h => c1 h.1))
    clear c1
    go_enter Tryz.func32, Tryz.ntmps32
    go_wp2_with fail
    go_ret
    exact ⟨by rw [HR.out]; rfl, HB.out⟩
end
end Go.Proofs.YtimihhcidbeonaaGreat

namespace Go.Proofs.YtimihhcidbeonaaGreat
open Go.RowKit Go.ChangeShapes Go.WideShapes
set_option linter.unusedVariables false
/-- A part in memory, and where its payload lies. -/
structure Jm where
  s : Sj
  A : Option Addr
  c : Nat
def flatS5 : List Jm → List Value
  | [] => []
  | a :: l => .int .i64 a.s.frm :: .int .i64 a.s.n :: .bool a.s.isf :: .int .i64 a.s.kind :: .slice a.A a.s.pay.length a.c :: flatS5 l
theorem flatS5_at : ∀ (l : List Jm) (i : Nat) (d : Jm), l[i]? = some d → (flatS5 l)[i * 5]? = some (.int .i64 d.s.frm) ∧ (flatS5 l)[i * 5 + 1]? = some (.int .i64 d.s.n) ∧ (flatS5 l)[i * 5 + 2]? = some (.bool d.s.isf) ∧ (flatS5 l)[i * 5 + 3]? = some (.int .i64 d.s.kind) ∧ (flatS5 l)[i * 5 + 4]? = some (.slice d.A d.s.pay.length d.c)
  | [], i, d, h => by simp at h
  | a :: l, 0, d, h => by
    simp only [List.getElem?_cons_zero, Option.some.injEq] at h
    subst h
    exact ⟨rfl, rfl, rfl, rfl, rfl⟩
  | a :: l, i + 1, d, h => by
    rw [List.getElem?_cons_succ] at h
    have h1 := flatS5_at l i d h
    rw [flatS5, show (i + 1) * 5 = i * 5 + 5 by omega]
    exact h1
/-- Parts in memory; how great they may be. -/
def JRow (W : World) (B : Nat) (v : Value) (ls : List Jm) : Prop := ERow W B v ls.length (flatS5 ls) ∧ ∀ x ∈ ls, Row W B (.slice x.A x.s.pay.length x.c) x.s.pay ∧ (∀ y ∈ x.s.pay, 0 ≤ y ∧ y < 256) ∧ x.s.pay.length ≤ 1000000 ∧ -1099511627776 ≤ x.s.n ∧ x.s.n ≤ 1099511627776
theorem JRow.at {W : World} {B n c : Nat} {A : Option Addr} {ls : List Jm} (h : JRow W B (.slice A n c) ls) {i : Nat} {d : Jm} (hd : ls[i]? = some d) : ∃ b o, A = some ⟨b, o, none⟩ ∧ b < B ∧
    W.cell? ⟨b, o + i * 5, none⟩ = some (.int .i64 d.s.frm) ∧ W.cell? ⟨b, o + i * 5 + 1, none⟩ = some (.int .i64 d.s.n) ∧ W.cell? ⟨b, o + i * 5 + 2, none⟩ = some (.bool d.s.isf) ∧ W.cell? ⟨b, o + i * 5 + 3, none⟩ = some (.int .i64 d.s.kind) ∧ W.cell? ⟨b, o + i * 5 + 4, none⟩ = some (.slice d.A d.s.pay.length d.c) := by
  have hl := (List.getElem?_eq_some_iff.1 hd).1
  obtain ⟨b, o, e, hb, hc⟩ := h.1.block (by omega)
  obtain ⟨m0, m1, m2, m3, m4⟩ := flatS5_at _ _ _ hd
  refine ⟨b, o, e, hb, hc _ _ m0, ?_, ?_, ?_, ?_⟩
  · rw [Nat.add_assoc]; exact hc _ _ m1
  · rw [Nat.add_assoc]; exact hc _ _ m2
  · rw [Nat.add_assoc]; exact hc _ _ m3
  · rw [Nat.add_assoc]; exact hc _ _ m4
/-- How great what was read may be. -/
structure Bd (P : Nat) (g : Gp) : Prop where
  pts : g.pts.length ≤ 100000000 + 1024 * P
  sk : -1152921504606846976 - 1099511627776 * (P : Int) ≤ g.sk ∧ g.sk ≤ 1152921504606846976 + 1099511627776 * (P : Int)
  fr : -1152921504606846976 ≤ g.fr ∧ g.fr ≤ 1152921504606846976 + (P : Int)
  rej : g.rej.length ≤ 100000000 + P
theorem frameG_pts (g : Gp) (k : Int) (p : List Int) : (frameG g k p).1.pts.length ≤ g.pts.length + 1024 := by
  unfold frameG
  split
  · split
    · exact Nat.le_add_right _ _
    · split <;> exact Nat.le_add_right _ _
  · split
    · exact Nat.le_add_right _ _
    · split
      · exact Nat.le_add_right _ _
      · split
        · exact Nat.le_add_right _ _
        · rename_i h
          split
          · exact Nat.le_add_right _ _
          · have := (getU_len (sig := g.sig) (xs := p) (by simpa using h)).2
            simp only [List.length_append]
            omega
set_option maxRecDepth 100000 in
theorem Bd.step {P : Nat} {g : Gp} {s : Sj} (h : Bd P g) (h1 : -1099511627776 ≤ s.n) (h2 : s.n ≤ 1099511627776) : Bd (P + 1) (takeS g s) := by
  have hp := frameG_pts g s.kind s.pay
  obtain ⟨a, b, c, d⟩ := h
  unfold takeS
  split
  · exact ⟨by simp only; omega, by simp only; omega, by simp only; omega, by simp only; omega⟩
  · split
    · exact ⟨by simp only; omega, by simp only; omega, by simp only; omega, by simp only [List.length_append, List.length_cons, List.length_nil]; omega⟩
    · exact ⟨by simp only; omega, by simp only; omega, by simp only; omega, by simp only; omega⟩
theorem Bd.take {g : Gp} {l : List Sj} (h : Bd 0 g) (hl : ∀ s ∈ l, -1099511627776 ≤ s.n ∧ s.n ≤ 1099511627776) : ∀ k, k ≤ l.length → Bd k (takeL g (l.take k))
  | 0, _ => h
  | k + 1, hk => by
    have hs := List.getElem?_eq_getElem (show k < l.length by omega)
    rw [takeL_succ hs]
    have hm := hl _ (List.getElem_mem (show k < l.length by omega))
    exact (Bd.take h hl k (by omega)).step hm.1 hm.2
theorem Tryz.infoReject : (Tryz.prog.info? 73).map (fun i => (i.zero, i.size, i.bytes)) = some (some (.agg #[.int .i64 0, .int .i64 0]), 2, 16) := by kernel_rfl
end Go.Proofs.YtimihhcidbeonaaGreat

namespace Go.Proofs.YtimihhcidbeonaaGreat
open Go.RowKit Go.ChangeShapes Go.WideShapes
set_option linter.unusedVariables false
section
variable {w w' w1 : World} {r : Option Nat} {n m g sz k : Nat} {u v : Value} {us : List Value} {f e : TypeId}
theorem OwnP.nott {es : List Pd} (h : OwnP w n u es) (h1 : NotT w r 3) (h2 : NotT w r 88) (hg : w.grownBy w' r) : OwnP w' n u es :=
  ⟨own_nott h.1 h2 hg, fun d hd => ⟨own_nott (h.2 d hd).1 h1 hg, (h.2 d hd).2⟩⟩
theorem Held.nott {cs : Array Value} (h : Held w g f cs) (hn : NotT w r f) (hg : w.grownBy w' r) : Held w' g f cs := h.grown hg (fun e => hn g cs (0, 0) e.symm h)
theorem PartN.then {S S2 : Nat → Prop} (h : PartN S w w1) (h2 : PartN S2 w1 w') (hs : ∀ j, S2 j → S j ∨ w.heap.size ≤ j) : PartN S w w' :=
  ⟨h2.os.trans h.os, h2.tape.trans h.tape, h2.output.trans h.output, Nat.le_trans h.size h2.size, fun i hi hn => (h2.block i (Nat.lt_of_lt_of_le hi h.size) (fun x => by
    rcases hs i x with x | x
    · exact hn x
    · omega)).trans (h.block i hi hn)⟩
end
/-- The blocks that a taker's calls turn: its own, that of its points, that of its refused frames. -/
def TS (t : Nat) (PA RA : Option Addr) (j : Nat) : Prop := j = t ∨ ob PA = some j ∨ ob RA = some j
/-- A taker. -/
structure TAt (w : World) (n t : Nat) (g : Gp) (SA : Option Addr) (Sc : Nat) (es : List Pd) (PA : Option Addr) (Pc : Nat) (ps : List Pm) (RA : Option Addr) (Rc : Nat) : Prop where
  held : Held w t 148 #[.slice SA es.length Sc, .slice PA ps.length Pc, .int .i64 g.sk, .int .i64 g.fr, .slice RA g.rej.length Rc]
  low : n ≤ t
  sig : OwnP w n (.slice SA es.length Sc) es
  sigp : es.map (·.p) = g.sig
  pts : OwnT w n (.slice PA ps.length Pc) ps
  ptsp : ps.map (·.p) = g.pts
  rej : w.ownsRow n 73 2 (.slice RA g.rej.length Rc) g.rej.length (flatJ g.rej)
section
variable {w w' w1 : World} {n t : Nat} {g : Gp} {SA : Option Addr} {Sc : Nat} {es : List Pd} {PA : Option Addr} {Pc : Nat} {ps : List Pm} {RA : Option Addr} {Rc : Nat}
theorem TAt.below (h : TAt w n t g SA Sc es PA Pc ps RA Rc) (hb : Below w.heap.size w w') : TAt w' n t g SA Sc es PA Pc ps RA Rc :=
  ⟨h.held.below hb h.held.lt, h.low, h.sig.below hb, h.sigp, h.pts.below hb, h.ptsp, own_below h.rej hb⟩
theorem TAt.cells (h : TAt w n t g SA Sc es PA Pc ps RA Rc) : w.cell? ⟨t, 0, none⟩ = some (.slice SA es.length Sc) ∧ w.cell? ⟨t, 1, none⟩ = some (.slice PA ps.length Pc) ∧ w.cell? ⟨t, 2, none⟩ = some (.int .i64 g.sk) ∧ w.cell? ⟨t, 3, none⟩ = some (.int .i64 g.fr) ∧ w.cell? ⟨t, 4, none⟩ = some (.slice RA g.rej.length Rc) :=
  ⟨h.held.cell 0, h.held.cell 1, h.held.cell 2, h.held.cell 3, h.held.cell 4⟩
theorem TAt.lt (h : TAt w n t g SA Sc es PA Pc ps RA Rc) {j : Nat} (hj : TS t PA RA j) : n ≤ j ∧ j < w.heap.size := by
  rcases hj with rfl | hj | hj
  · exact ⟨h.low, h.held.lt⟩
  · exact World.ownsRow.lt h.pts.1 j (by rw [ob_own]; exact hj)
  · exact World.ownsRow.lt h.rej j (by rw [ob_own]; exact hj)
theorem TAt.size (h : TAt w n t g SA Sc es PA Pc ps RA Rc) : n ≤ w.heap.size := by have := h.low; have := h.held.lt; omega
theorem TAt.n1 (h : TAt w n t g SA Sc es PA Pc ps RA Rc) (e : TypeId) (he : 148 ≠ e) : NotT w (some t) e := NotT.of_held h.held he
theorem TAt.n2 (h : TAt w n t g SA Sc es PA Pc ps RA Rc) (e : TypeId) (he : 51 ≠ e) : NotT w (Value.slice PA ps.length Pc).ownBlock e := NotT.of_own h.pts.1 he
theorem TAt.n3 (h : TAt w n t g SA Sc es PA Pc ps RA Rc) (e : TypeId) (he : 73 ≠ e) : NotT w (Value.slice RA g.rej.length Rc).ownBlock e := NotT.of_own h.rej he
/-- A signature is written into it. -/
theorem TAt.putSig {A2 : Option Addr} {c2 m : Nat} {es2 : List Pd} {L : List Pr} {b : Bool} (h : TAt w n t g SA Sc es PA Pc ps RA Rc) (q : OwnP w m (.slice A2 es2.length c2) es2) (hm : n ≤ m) (hL : es2.map (·.p) = L) :
    TAt (w.setCell ⟨t, 0, none⟩ (.slice A2 es2.length c2)) n t ⟨L, b, g.pts, g.sk, g.fr, g.rej⟩ A2 c2 es2 PA Pc ps RA Rc := by
  have gr := grown_put w t 0 (.slice A2 es2.length c2)
  exact ⟨h.held.put 0 _, h.low, (q.base hm).nott (h.n1 _ (by decide)) (h.n1 _ (by decide)) gr, hL, h.pts.nott (h.n1 _ (by decide)) (h.n1 _ (by decide)) ((h.n1 _ (by decide)).ne h.pts.1) gr, h.ptsp, own_nott h.rej (h.n1 _ (by decide)) gr⟩
/-- How many bytes were skipped. -/
theorem TAt.putSk (h : TAt w n t g SA Sc es PA Pc ps RA Rc) (k : Int) : TAt (w.setCell ⟨t, 2, none⟩ (.int .i64 k)) n t ⟨g.sig, g.isg, g.pts, k, g.fr, g.rej⟩ SA Sc es PA Pc ps RA Rc := by
  have gr := grown_put w t 2 (.int .i64 k)
  exact ⟨h.held.put 2 _, h.low, h.sig.nott (h.n1 _ (by decide)) (h.n1 _ (by decide)) gr, h.sigp, h.pts.nott (h.n1 _ (by decide)) (h.n1 _ (by decide)) ((h.n1 _ (by decide)).ne h.pts.1) gr, h.ptsp, own_nott h.rej (h.n1 _ (by decide)) gr⟩
/-- How many frames were taken. -/
theorem TAt.putFr (h : TAt w n t g SA Sc es PA Pc ps RA Rc) (k : Int) : TAt (w.setCell ⟨t, 3, none⟩ (.int .i64 k)) n t ⟨g.sig, g.isg, g.pts, g.sk, k, g.rej⟩ SA Sc es PA Pc ps RA Rc := by
  have gr := grown_put w t 3 (.int .i64 k)
  exact ⟨h.held.put 3 _, h.low, h.sig.nott (h.n1 _ (by decide)) (h.n1 _ (by decide)) gr, h.sigp, h.pts.nott (h.n1 _ (by decide)) (h.n1 _ (by decide)) ((h.n1 _ (by decide)).ne h.pts.1) gr, h.ptsp, own_nott h.rej (h.n1 _ (by decide)) gr⟩
/-- Points are put behind those that it has. -/
theorem TAt.putPts {A7 : Option Addr} {c7 N : Nat} {A2 : Option Addr} {c2 m : Nat} {qs : List Pm} {L : List Pn} (h : TAt w n t g SA Sc es PA Pc ps RA Rc) (q : OwnT w m (.slice A2 qs.length c2) qs) (hm : n ≤ m) (hL : qs.map (·.p) = L) (hN : ps.length + qs.length = N)
    (ho : w1.ownsRow n 51 2 (.slice A7 N c7) N (flatN (ps ++ qs))) (hg : w.grownBy w1 (Value.slice PA ps.length Pc).ownBlock) (ha : (Value.slice A7 N c7).ownBlock = (Value.slice PA ps.length Pc).ownBlock ∨ (Value.slice A7 N c7).ownBlock = some w.heap.size) :
    Held w1 t 148 #[.slice SA es.length Sc, .slice PA ps.length Pc, .int .i64 g.sk, .int .i64 g.fr, .slice RA g.rej.length Rc] ∧
    Hid (TAt (w1.setCell ⟨t, 1, none⟩ (.slice A7 N c7)) n t ⟨g.sig, g.isg, g.pts ++ L, g.sk, g.fr, g.rej⟩ SA Sc es A7 c7 (ps ++ qs) RA Rc) ∧ Hid (PartN (TS t PA RA) w (w1.setCell ⟨t, 1, none⟩ (.slice A7 N c7))) ∧ Hid (∀ j, TS t A7 RA j → TS t PA RA j ∨ w.heap.size ≤ j) := by
  subst hN hL
  have hh := h.held.nott (h.n2 _ (by decide)) hg
  have gr := grown_put w1 t 1 (.slice A7 (ps.length + qs.length) c7)
  have k1 : ∀ e, 148 ≠ e → NotT w1 (some t) e := fun e he => NotT.of_held hh he
  have hj : OwnT w1 n (.slice A7 (ps.length + qs.length) c7) (ps ++ qs) := h.pts.joined q hm (by rw [List.length_append]; exact ho) hg
  have hs := (h.sig.nott (h.n2 _ (by decide)) (h.n2 _ (by decide)) hg).nott (k1 _ (by decide)) (k1 _ (by decide)) gr
  have hr := own_nott (own_nott h.rej (h.n2 _ (by decide)) hg) (k1 _ (by decide)) gr
  refine ⟨hh, Lib.hid ⟨by rw [List.length_append]; exact hh.put 1 _, h.low, hs, h.sigp, ?_, ?_, hr⟩, Lib.hid ((PartN.of_grown hg (fun j e => .inr (.inl (by rw [← ob_own PA ps.length Pc]; exact e)))).trans (PartN.put (.inl rfl) 1 _)), Lib.hid fun j hj => ?_⟩
  · rw [List.length_append]
    exact hj.nott (k1 _ (by decide)) (k1 _ (by decide)) ((k1 _ (by decide)).ne hj.1) gr
  · rw [List.map_append, h.ptsp]
  · rcases hj with rfl | hj | hj
    · exact .inl (.inl rfl)
    · rw [← ob_own A7 (ps.length + qs.length) c7] at hj
      rcases ha with h7 | h7
      · exact .inl (.inr (.inl (by rw [← ob_own PA ps.length Pc, ← h7]; exact hj)))
      · rw [h7] at hj
        injection hj with hj
        exact .inr (by omega)
    · exact .inl (.inr (.inr hj))
/-- A refused frame is put behind those that it has. -/
theorem TAt.putRej {A7 : Option Addr} {c7 N : Nat} {a e : Int} (h : TAt w n t g SA Sc es PA Pc ps RA Rc) (hN : g.rej.length + 1 = N)
    (ho : w1.ownsRow n 73 2 (.slice A7 N c7) N (flatJ (g.rej ++ [(a, e)]))) (hg : w.grownBy w1 (Value.slice RA g.rej.length Rc).ownBlock) (ha : (Value.slice A7 N c7).ownBlock = (Value.slice RA g.rej.length Rc).ownBlock ∨ (Value.slice A7 N c7).ownBlock = some w.heap.size) :
    Held w1 t 148 #[.slice SA es.length Sc, .slice PA ps.length Pc, .int .i64 g.sk, .int .i64 g.fr, .slice RA g.rej.length Rc] ∧
    Hid (TAt (w1.setCell ⟨t, 4, none⟩ (.slice A7 N c7)) n t ⟨g.sig, g.isg, g.pts, g.sk, g.fr, g.rej ++ [(a, e)]⟩ SA Sc es PA Pc ps A7 c7) ∧ Hid (PartN (TS t PA RA) w (w1.setCell ⟨t, 4, none⟩ (.slice A7 N c7))) ∧ Hid (∀ j, TS t PA A7 j → TS t PA RA j ∨ w.heap.size ≤ j) := by
  subst hN
  have hh := h.held.nott (h.n3 _ (by decide)) hg
  have gr := grown_put w1 t 4 (.slice A7 (g.rej.length + 1) c7)
  have k1 : ∀ e, 148 ≠ e → NotT w1 (some t) e := fun e he => NotT.of_held hh he
  have hs := (h.sig.nott (h.n3 _ (by decide)) (h.n3 _ (by decide)) hg).nott (k1 _ (by decide)) (k1 _ (by decide)) gr
  have hp := h.pts.nott (h.n3 _ (by decide)) (h.n3 _ (by decide)) ((h.n3 _ (by decide)).ne h.pts.1) hg
  have hl : (g.rej ++ [(a, e)]).length = g.rej.length + 1 := by simp
  refine ⟨hh, Lib.hid ⟨by rw [hl]; exact hh.put 4 _, h.low, hs, h.sigp, hp.nott (k1 _ (by decide)) (k1 _ (by decide)) ((k1 _ (by decide)).ne hp.1) gr, h.ptsp, by rw [hl]; exact own_nott ho (k1 _ (by decide)) gr⟩, Lib.hid ((PartN.of_grown hg (fun j e => .inr (.inr (by rw [← ob_own RA g.rej.length Rc]; exact e)))).trans (PartN.put (.inl rfl) 4 _)), Lib.hid fun j hj => ?_⟩
  rcases hj with rfl | hj | hj
  · exact .inl (.inl rfl)
  · exact .inl (.inr (.inl hj))
  · rw [← ob_own A7 (g.rej.length + 1) c7] at hj
    rcases ha with h7 | h7
    · exact .inl (.inr (.inr (by rw [← ob_own RA g.rej.length Rc, ← h7]; exact hj)))
    · rw [h7] at hj
      injection hj with hj
      exact .inr (by omega)
end
/-- A taker behind some calls: what was turned is of S, or laid since. -/
def TkR (S : Nat → Prop) (w : World) (n t : Nat) (g : Gp) (w' : World) : Prop :=
  ∃ SA Sc es PA Pc ps RA Rc, TAt w' n t g SA Sc es PA Pc ps RA Rc ∧ PartN S w w' ∧ ∀ j, TS t PA RA j → S j ∨ w.heap.size ≤ j
theorem TkR.then {S S2 : Nat → Prop} {w w1 w' : World} {n t : Nat} {g : Gp} (h : PartN S w w1) (hs : ∀ j, S2 j → S j ∨ w.heap.size ≤ j) (k : TkR S2 w1 n t g w') : TkR S w n t g w' := by
  obtain ⟨SA, Sc, es, PA, Pc, ps, RA, Rc, h1, h2, h3⟩ := k
  refine ⟨SA, Sc, es, PA, Pc, ps, RA, Rc, h1, h.then h2 hs, fun j hj => ?_⟩
  rcases h3 j hj with h4 | h4
  · exact hs j h4
  · exact .inr (Nat.le_trans h.size h4)
end Go.Proofs.YtimihhcidbeonaaGreat

namespace Go.Proofs.YtimihhcidbeonaaGreat
open Go.RowKit
/-- What takes a signature, and what takes points, of a taker. -/
abbrev fnSig (t : Nat) : Value := .func (.func 131) #[.pointer (some ⟨t, 0, none⟩)] #[]
abbrev fnPts (t : Nat) : Value := .func (.func 132) #[.pointer (some ⟨t, 0, none⟩)] #[]
/-- Block r holds what takes a frame of each kind. -/
def KMap (w : World) (r t : Nat) : Prop := ∃ b0 b1 cl, w.heap[r]? = some (.map #[{ key := .int .i64 1, val := fnSig t, born := b0 }, { key := .int .i64 2, val := fnPts t, born := b1 }] cl)
theorem KMap.below {w w' : World} {r t B : Nat} (h : KMap w r t) (hb : Below B w w') (hr : r < B) : KMap w' r t := by
  obtain ⟨b0, b1, cl, h⟩ := h
  exact ⟨b0, b1, cl, (hb.block r hr).trans h⟩
theorem KMap.lt {w : World} {r t : Nat} (h : KMap w r t) : r < w.heap.size := by
  obtain ⟨_, _, _, h⟩ := h
  exact (Array.getElem?_eq_some_iff.1 h).1
theorem KMap.same {w w' : World} {r t : Nat} (h : KMap w r t) (hb : w'.heap[r]? = w.heap[r]?) : KMap w' r t := by
  obtain ⟨b0, b1, cl, h⟩ := h
  exact ⟨b0, b1, cl, hb.trans h⟩
theorem int_check (w : World) (a : Int) (b : Bool) : (Instr.checkKey b 10000 3 (.int .i64 a)).run Tryz.prog w = .ok () w := by
  rw [show (10000 : Nat) = 9999 + 1 from rfl]
  unfold Instr.checkKey
  rw [Sem.run_bind, run_underlying Tryz.underlying3]
  simp [Result.andThen]
theorem kinds_one {w : World} {r t : Nat} (h : KMap w r t) :
    (Instr.lookup 149 (.map (some r)) (.int .i64 1) true).run Tryz.prog w = .ok (.tuple #[fnSig t, .bool true]) w := by
  obtain ⟨b0, b1, cl, h⟩ := h
  have hg : (getObj r).run Tryz.prog w = .ok (.map #[{ key := .int .i64 1, val := fnSig t, born := b0 }, { key := .int .i64 2, val := fnPts t, born := b1 }] cl) w := by simp [getObj, Sem.run, h]
  unfold Instr.lookup Instr.findKey
  simp [Sem.run_bind, run_underlying Tryz.underlying149, run_underlying Tryz.underlying3, Result.andThen_ok, hg, Sem.run_pure, int_check, Instr.findNow, Instr.sameNow]
theorem kinds_two {w : World} {r t : Nat} (h : KMap w r t) :
    (Instr.lookup 149 (.map (some r)) (.int .i64 2) true).run Tryz.prog w = .ok (.tuple #[fnPts t, .bool true]) w := by
  obtain ⟨b0, b1, cl, h⟩ := h
  have hg : (getObj r).run Tryz.prog w = .ok (.map #[{ key := .int .i64 1, val := fnSig t, born := b0 }, { key := .int .i64 2, val := fnPts t, born := b1 }] cl) w := by simp [getObj, Sem.run, h]
  unfold Instr.lookup Instr.findKey
  simp [Sem.run_bind, run_underlying Tryz.underlying149, run_underlying Tryz.underlying3, Result.andThen_ok, hg, Sem.run_pure, int_check, Instr.findNow, Instr.sameNow]
theorem kinds_none {w : World} {r t : Nat} (h : KMap w r t) {k : Int} (h1 : k ≠ 1) (h2 : k ≠ 2) :
    (Instr.lookup 149 (.map (some r)) (.int .i64 k) true).run Tryz.prog w = .ok (.tuple #[.nilFunc, .bool false]) w := by
  obtain ⟨b0, b1, cl, h⟩ := h
  have hg : (getObj r).run Tryz.prog w = .ok (.map #[{ key := .int .i64 1, val := fnSig t, born := b0 }, { key := .int .i64 2, val := fnPts t, born := b1 }] cl) w := by simp [getObj, Sem.run, h]
  have e1 : (k == 1) = false := beq_eq_false_iff_ne.2 h1
  have e2 : (k == 2) = false := beq_eq_false_iff_ne.2 h2
  unfold Instr.lookup Instr.findKey
  simp [Sem.run_bind, run_underlying Tryz.underlying149, run_underlying Tryz.underlying3, Result.andThen_ok, hg, Sem.run_pure, int_check, Instr.findNow, Instr.sameNow, e1, e2]
theorem kput_first {w : World} {r t : Nat} (h : w.heap[r]? = some (.map #[] 0)) :
    (Instr.mapUpdate 149 (.map (some r)) (.int .i64 1) (fnSig t)).run Tryz.prog w = .ok () (w.putObj r (.map #[{ key := .int .i64 1, val := fnSig t, born := 0 }] 1)) := by
  have hg : (getObj r).run Tryz.prog w = .ok (.map #[] 0) w := by simp [getObj, Sem.run, h]
  have hs : ∀ o, (setObj r o).run Tryz.prog w = .ok () (w.putObj r o) := fun o => by simp [setObj, Sem.run, h, World.putObj]
  unfold Instr.mapUpdate Instr.findKey
  simp [Sem.run_bind, run_underlying Tryz.underlying149, run_underlying Tryz.underlying3, Result.andThen_ok, hg, int_check, Instr.findNow, hs]
theorem kput_second {w : World} {r t : Nat} (h : w.heap[r]? = some (.map #[{ key := .int .i64 1, val := fnSig t, born := 0 }] 1)) :
    (Instr.mapUpdate 149 (.map (some r)) (.int .i64 2) (fnPts t)).run Tryz.prog w = .ok () (w.putObj r (.map #[{ key := .int .i64 1, val := fnSig t, born := 0 }, { key := .int .i64 2, val := fnPts t, born := 1 }] 2)) := by
  have hg : (getObj r).run Tryz.prog w = .ok (.map #[{ key := .int .i64 1, val := fnSig t, born := 0 }] 1) w := by simp [getObj, Sem.run, h]
  have hs : ∀ o, (setObj r o).run Tryz.prog w = .ok () (w.putObj r o) := fun o => by simp [setObj, Sem.run, h, World.putObj]
  unfold Instr.mapUpdate Instr.findKey
  simp [Sem.run_bind, run_underlying Tryz.underlying149, run_underlying Tryz.underlying3, Result.andThen_ok, hg, Sem.run_pure, int_check, Instr.findNow, Instr.sameNow, hs]
theorem putM_self {w : World} {r : Nat} (h : r < w.heap.size) (o : Obj) : (w.putObj r o).heap[r]? = some o := by
  show (w.heap.setIfInBounds r o)[r]? = _
  rw [Array.getElem?_setIfInBounds_self_of_lt h]
set_option maxRecDepth 100000 in
set_option maxHeartbeats 1000000 in
theorem kinds_any (w : World) (t : Nat) : Calls Tryz.prog 80 #[.pointer (some ⟨t, 0, none⟩)] w fun e w' => e = .returned (.map (some w.heap.size)) ∧ KMap w' w.heap.size t ∧ Below w.heap.size w w' := by
  have hmm := @run_makeMap Tryz.prog
  obtain ⟨r, hr⟩ : ∃ r, w.heap.size = r := ⟨_, rfl⟩
  obtain ⟨w1, hw1⟩ : ∃ w1, w.alloc (.map #[] 0) = w1 := ⟨_, rfl⟩
  have h1 : w1.heap[r]? = some (.map #[] 0) := by rw [← hw1, ← hr]; exact heap_alloc_new w _
  have b1 : Below r w w1 := by rw [← hw1, ← hr]; exact (Below.refl _ _).alloc (Nat.le_refl _) _
  have l1 := (Array.getElem?_eq_some_iff.1 h1).1
  have p1 := kput_first h1 (t := t)
  obtain ⟨w2, hw2⟩ : ∃ w2, w1.putObj r (.map #[{ key := .int .i64 1, val := fnSig t, born := 0 }] 1) = w2 := ⟨_, rfl⟩
  have h2 : w2.heap[r]? = some (.map #[{ key := .int .i64 1, val := fnSig t, born := 0 }] 1) := by rw [← hw2]; exact putM_self l1 _
  have b2 : Below r w w2 := by rw [← hw2]; exact below_putObj b1 (Nat.le_refl _) _
  have l2 := (Array.getElem?_eq_some_iff.1 h2).1
  have p2 := kput_second h2
  obtain ⟨w3, hw3⟩ : ∃ w3, w2.putObj r (.map #[{ key := .int .i64 1, val := fnSig t, born := 0 }, { key := .int .i64 2, val := fnPts t, born := 1 }] 2) = w3 := ⟨_, rfl⟩
  have h3 : KMap w3 r t := ⟨0, 1, 2, by rw [← hw3]; exact putM_self l2 _⟩
  have b3 : Below r w w3 := by rw [← hw3]; exact below_putObj b2 (Nat.le_refl _) _
  have H3 := Lib.hid h3
  have HB := Lib.hid b3
  rw [hw2] at p1
  rw [hw3] at p2
  rw [hr]
  clear h1 h2 h3 b1 b2 b3 hw2 hw3 l1 l2
  go_enter Tryz.func80, Tryz.ntmps80
  go_wp2_with fail
  go_ret
  exact ⟨rfl, H3.out, HB.out⟩
end Go.Proofs.YtimihhcidbeonaaGreat
