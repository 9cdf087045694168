/-
  unblock's reader: what it takes of a payload: texts, arguments, times, how many, the dictionary; whether it is stopped.
-/
import Derived.Test.YtfknibjejnmghaaGreatCurTookN
import Derived.Test.YtfknibjejnmghaaGreatCurTookS
import Derived.Test.YtfknibjejnmghaaGreatCur
import Derived.Test.YtfknibjejnmghaaGreatPredRows
import Derived.Test.YtfknibjejnmghaaGreatTraceApp
import Derived.Test.YtfknibjejnmghaaGreatPlainUnblock
import Derived.Deep.LoopGhost
import Derived.Test.YtfknibjejnmghaaGreatTraceOwn
namespace Go.Proofs.YtfknibjejnmghaaGreat
open Go.RowKit
set_option linter.unusedVariables false

theorem Tryz.infoStr15 : (Tryz.prog.info? 9).map (fun i => (i.zero, i.size, i.bytes)) = some (some (.string ⟨#[]⟩), 1, 16) := by kernel_rfl
theorem stop_stU (e q : Int) : stopI e q = stU e q := rfl

section
variable {K g G n : Nat} {xs : List Int} {D : List (List Int)} {p : Nat} {e : Int} {w : World} {vs vt : Value}
/-- The next number, as what is taken of the bytes. -/
theorem unum_any (h : Cur 95 w K g xs p e) (hp : p ≤ xs.length) (hK : K ≤ g) (hb : ∀ x ∈ xs, 0 ≤ x ∧ x < 256) :
    Calls Tryz.prog 40 #[.pointer (some ⟨g, 0, none⟩), .int .u64 18446744073709551615] w (Took u64V w K g xs (nx m64 xs p e)) := number_any 18446744073709551615 h hp hK hb

set_option maxRecDepth 100000 in
set_option maxHeartbeats 2000000 in
theorem utext_any (h : Cur 95 w K g xs p e) (hp : p ≤ xs.length) (hK : K ≤ g) (hb : ∀ x ∈ xs, 0 ≤ x ∧ x < 256) (hh : Held w G 59 #[.pointer (some ⟨g, 0, none⟩), vs, vt]) (hgG : g ≠ G)
    (ht : w.ownsRow n 9 1 vt D.length (strVs D)) (hgn : g < n) (hDl : D.length ≤ 4096) :
    Calls Tryz.prog 93 #[.pointer (some ⟨G, 0, none⟩)] w (Took txtV w K g xs (txtU D xs p e)) := by
  have HNUM := Lib.hid (unum_any h hp hK hb)
  obtain ⟨⟨N, hN, _, hN64⟩, _, hq⟩ := nx_range (e := e) hb (m := m64) (by decide) hp
  unfold txtU
  generalize nx m64 xs p e = t at HNUM hN hq ⊢
  obtain ⟨Ni, q, e2⟩ := t
  simp only at hN hq ⊢
  subst hN
  rw [Int.toNat_natCast]
  obtain ⟨T, ct, rfl⟩ := own_form ht
  have x0 := hh.cell 0
  simp at x0
  have HH := Lib.hid hh
  have HT := Lib.hid ht
  have HGG := Lib.hid hgG
  have HGN := Lib.hid hgn
  obtain ⟨m, hm⟩ : ∃ m, D.length = m := ⟨_, rfl⟩
  have HM := Lib.hid hm
  rw [hm] at hDl ⊢
  clear h hb hp hq hh ht hgG hgn hm
  by_cases hlt : m ≤ N
  · rw [if_pos (by omega)]
    have hli : (m : Int) ≤ (N : Int) := by omega
    have hcv : IntKind.u64.wrap (m : Int) = (m : Int) := IntWalk.u64_in _ (by omega)
    clear hlt
    go_enter Tryz.func93, Tryz.ntmps93
    go_wp2_with fail
    refine HNUM.out.mono ?_
    rintro r w1 ⟨rfl, hc1, hg1⟩
    simp only [u64V]
    have hh1 := HH.out.grown hg1 (fun e => by injection e with e; exact HGG.out e.symm)
    rw [HM.out] at hh1
    have y0 := hh1.cell 0
    have y2 := hh1.cell 2
    simp at y0 y2
    have HST := Lib.hid (stop_any 10 hc1)
    have HG1 := Lib.hid hg1
    clear hc1 hg1 x0 hh1
    go_wp2_with fail
    refine HST.out.mono ?_
    rintro r w2 ⟨rfl, hc2, hg2⟩
    have HC2 := Lib.hid hc2
    have HG2 := Lib.hid (grown_trans HG1.out hg2)
    clear hc2 hg2
    go_wp2_with fail
    go_ret
    exact ⟨rfl, HC2.out, HG2.out⟩
  · rw [if_neg (by omega)]
    have hli : ¬ (m : Int) ≤ (N : Int) := by omega
    have hli2 : (N : Int) < (m : Int) := by omega
    have hlt2 : N < m := by omega
    have hcv : IntKind.u64.wrap (m : Int) = (m : Int) := IntWalk.u64_in _ (by omega)
    obtain ⟨s, hs⟩ : ∃ s, D[N]? = some s := ⟨_, List.getElem?_eq_getElem (by rw [HM.out]; exact hlt2)⟩
    rw [show D.getD N [] = s by simp [List.getD, hs]]
    have HS := Lib.hid (strVs_at D hs)
    clear hlt hs
    go_enter Tryz.func93, Tryz.ntmps93
    go_wp2_with fail
    refine HNUM.out.mono ?_
    rintro r w1 ⟨rfl, hc1, hg1⟩
    simp only [u64V]
    have hh1 := HH.out.grown hg1 (fun e => by injection e with e; exact HGG.out e.symm)
    have ho1 := World.ownsRow.kept HT.out hg1 (.inr (own_low HT.out HGN.out))
    obtain ⟨b, o, hT, _, hcell⟩ := (ERow.of_own ho1).block (by rw [HM.out]; omega)
    have hcs := hcell N _ HS.out
    rw [HM.out] at hh1
    subst hT
    have y0 := hh1.cell 0
    have y2 := hh1.cell 2
    simp at y0 y2
    have HC1 := Lib.hid hc1
    have HG1 := Lib.hid hg1
    clear hc1 hg1 x0 hh1 ho1 hcell
    go_wp2_with fail
    go_ret
    exact ⟨rfl, HC1.out, HG1.out⟩
#print axioms utext_any

set_option maxRecDepth 100000 in
set_option maxHeartbeats 2000000 in
theorem ulater_any (tm : Int) (ht0 : 0 ≤ tm) (ht1 : tm < 18446744073709551616) (h : Cur 95 w K g xs p e) (hp : p ≤ xs.length) (hK : K ≤ g) (hb : ∀ x ∈ xs, 0 ≤ x ∧ x < 256) (hh : Held w G 59 #[.pointer (some ⟨g, 0, none⟩), vs, vt]) (hgG : g ≠ G) :
    Calls Tryz.prog 43 #[.pointer (some ⟨G, 0, none⟩), .int .u64 tm] w (Took u64V w K g xs (laterU xs tm p e)) := by
  have HNUM := Lib.hid (unum_any h hp hK hb)
  obtain ⟨⟨N, hN, _, hN64⟩, _, hq⟩ := nx_range (e := e) hb (m := m64) (by decide) hp
  unfold laterU
  generalize nx m64 xs p e = t at HNUM hN hq ⊢
  obtain ⟨Ni, q, e2⟩ := t
  simp only at hN hq ⊢
  subst hN
  have x0 := hh.cell 0
  simp at x0
  have HH := Lib.hid hh
  have HGG := Lib.hid hgG
  have hw1 : IntKind.u64.wrap (18446744073709551615 - tm) = 18446744073709551615 - tm := IntWalk.u64_in _ (by omega)
  have hw2 : IntKind.u64.wrap (tm + (N : Int)) = (tm + (N : Int)) % 18446744073709551616 := IntKind.wrap_u64 _
  unfold m64
  clear h hb hp hq hh hgG
  by_cases hlt : 18446744073709551615 - tm < (N : Int)
  · rw [if_pos hlt]
    go_enter Tryz.func43, Tryz.ntmps43
    go_wp2_with fail
    refine HNUM.out.mono ?_
    rintro r w1 ⟨rfl, hc1, hg1⟩
    simp only [u64V]
    have hh1 := HH.out.grown hg1 (fun e => by injection e with e; exact HGG.out e.symm)
    have y0 := hh1.cell 0
    simp at y0
    have HST := Lib.hid (stop_any 8 hc1)
    have HG1 := Lib.hid hg1
    clear hc1 hg1 x0 hh1
    go_wp2_with fail
    refine HST.out.mono ?_
    rintro r w2 ⟨rfl, hc2, hg2⟩
    have HC2 := Lib.hid hc2
    have HG2 := Lib.hid (grown_trans HG1.out hg2)
    clear hc2 hg2
    go_wp2_with fail
    go_ret
    exact ⟨rfl, HC2.out, HG2.out⟩
  · rw [if_neg hlt]
    go_enter Tryz.func43, Tryz.ntmps43
    go_wp2_with fail
    refine HNUM.out.mono ?_
    rintro r w1 ⟨rfl, hc1, hg1⟩
    simp only [u64V]
    have hh1 := HH.out.grown hg1 (fun e => by injection e with e; exact HGG.out e.symm)
    have y0 := hh1.cell 0
    simp at y0
    have HC1 := Lib.hid hc1
    have HG1 := Lib.hid hg1
    clear hc1 hg1 x0 hh1
    go_wp2_with fail
    go_ret
    exact ⟨rfl, HC1.out, HG1.out⟩
#print axioms ulater_any

set_option maxRecDepth 100000 in
set_option maxHeartbeats 2000000 in
theorem ucount_any (h : Cur 95 w K g xs p e) (hp : p ≤ xs.length) (hK : K ≤ g) (hb : ∀ x ∈ xs, 0 ≤ x ∧ x < 256) (hh : Held w G 59 #[.pointer (some ⟨g, 0, none⟩), vs, vt]) (hgG : g ≠ G) :
    Calls Tryz.prog 41 #[.pointer (some ⟨G, 0, none⟩)] w (Took u64V w K g xs (countU xs p e)) := by
  have HNUM : Hid (Calls Tryz.prog 40 #[.pointer (some ⟨g, 0, none⟩), .int .u64 1024] w (Took u64V w K g xs (nx 1024 xs p e))) := Lib.hid (number_any 1024 h hp hK hb)
  obtain ⟨⟨N, hN, hN1, hN64⟩, _, hq⟩ := nx_range (e := e) hb (m := 1024) (by decide) hp
  unfold countU
  generalize nx 1024 xs p e = t at HNUM hN hq ⊢
  obtain ⟨Ni, q, e2⟩ := t
  simp only at hN hq ⊢
  subst hN
  have x0 := hh.cell 0
  simp at x0
  have HH := Lib.hid hh
  have HGG := Lib.hid hgG
  clear h hb hp hq hh hgG
  by_cases hz : N = 0
  · subst hz
    rw [if_pos (show ((0 : Nat) : Int) = 0 from rfl)]
    go_enter Tryz.func41, Tryz.ntmps41
    go_wp2_with fail
    refine HNUM.out.mono ?_
    rintro r w1 ⟨rfl, hc1, hg1⟩
    simp only [u64V]
    have hh1 := HH.out.grown hg1 (fun e => by injection e with e; exact HGG.out e.symm)
    have y0 := hh1.cell 0
    simp at y0
    have HST := Lib.hid (stop_any 4 hc1)
    have HG1 := Lib.hid hg1
    clear hc1 hg1 x0 hh1
    go_wp2_with fail
    refine HST.out.mono ?_
    rintro r w2 ⟨rfl, hc2, hg2⟩
    have HC2 := Lib.hid hc2
    have HG2 := Lib.hid (grown_trans HG1.out hg2)
    clear hc2 hg2
    go_wp2_with fail
    go_ret
    exact ⟨rfl, HC2.out, HG2.out⟩
  · rw [if_neg (by omega)]
    have hne : ((N : Int) == 0) = false := beq_eq_false_iff_ne.2 (by omega)
    have hn0 : ¬ (N : Int) = 0 := by omega
    clear hz
    go_enter Tryz.func41, Tryz.ntmps41
    go_wp2_with fail
    refine HNUM.out.mono ?_
    rintro r w1 ⟨rfl, hc1, hg1⟩
    simp only [u64V]
    have HC1 := Lib.hid hc1
    have HG1 := Lib.hid hg1
    clear hc1 hg1 x0
    go_wp2_with fail
    go_ret
    exact ⟨rfl, HC1.out, HG1.out⟩
#print axioms ucount_any

set_option maxRecDepth 100000 in
theorem ustopped_any (h : Cur 95 w K g xs p e) (hh : Held w G 59 #[.pointer (some ⟨g, 0, none⟩), vs, vt]) :
    Calls Tryz.prog 45 #[.pointer (some ⟨G, 0, none⟩)] w fun r w' => r = .returned (.bool (decide (e ≠ 0))) ∧ w = w' := by
  have HE := Lib.hid (err_any h)
  have x0 := hh.cell 0
  simp at x0
  clear h hh
  by_cases he : e = 0
  · subst he
    go_enter Tryz.func45, Tryz.ntmps45
    go_wp2_with fail
    refine HE.out.mono ?_
    rintro r w1 ⟨rfl, rfl⟩
    go_wp2_with fail
    go_ret
    exact ⟨rfl, rfl⟩
  · have hne : (e != 0) = true := bne_iff_ne.2 he
    rw [decide_eq_true he]
    clear he
    go_enter Tryz.func45, Tryz.ntmps45
    go_wp2_with fail
    refine HE.out.mono ?_
    rintro r w1 ⟨rfl, rfl⟩
    go_wp2_with fail
    go_ret
    exact ⟨rfl, rfl⟩
#print axioms ustopped_any

theorem put_past {a b : World} {g : Nat} (h : a.grownBy b (some g)) {R : Nat} (hR : a.heap.size ≤ R) (i : Nat) (u : Value) : a.grownBy (b.setCell ⟨R, i, none⟩ u) (some g) := grown_past h (grown_put b R i u) (fun j e => by injection e with e; omega)

set_option maxRecDepth 100000 in
set_option maxHeartbeats 2000000 in
theorem uarg_any (t : Int) (h : Cur 95 w K g xs p e) (hp : p ≤ xs.length) (hK : K ≤ g) (hb : ∀ x ∈ xs, 0 ≤ x ∧ x < 256) (hh : Held w G 59 #[.pointer (some ⟨g, 0, none⟩), vs, vt]) (hgG : g ≠ G)
    (ht : w.ownsRow n 9 1 vt D.length (strVs D)) (hgn : g < n) (hDl : D.length ≤ 4096) :
    Calls Tryz.prog 73 #[.pointer (some ⟨G, 0, none⟩), .int .i64 t] w (Took Ag.val w K g xs (argU D t xs p e)) := by
  obtain ⟨w0, hw0⟩ : ∃ w0, w.alloc (.cells #[.int .i64 0, .int .i64 0, .string ⟨#[]⟩] 50) = w0 := ⟨_, rfl⟩
  have b0 : Below w.heap.size w w0 := by rw [← hw0]; exact (Below.refl _ _).alloc (Nat.le_refl _) _
  have h0 : Held w0 w.heap.size 50 #[.int .i64 0, .int .i64 0, .string ⟨#[]⟩] := by rw [← hw0]; exact heap_alloc_new w _
  have hc0 := h.below b0 hK
  have hh0 := hh.below b0 hh.lt
  have ht0 := own_below ht b0
  have hgl := h.lt
  have HH0 := Lib.hid h0
  have HG0 := Lib.hid (grown_below b0 (some g))
  have x0 := hh0.cell 0
  simp at x0
  have HGL := Lib.hid hgl
  unfold argU
  by_cases h1 : t = 1
  · subst h1
    rw [if_pos rfl]
    have HS : Hid (Calls Tryz.prog 92 #[.pointer (some ⟨g, 0, none⟩)] w0 (Took i64V w0 K g xs (sx xs p e))) := Lib.hid (signed_any hc0 hp hK hb)
    clear h hp hb hh hgG ht hgn hc0 hh0 ht0 h0 b0 hgl
    generalize sx xs p e = u at HS ⊢
    obtain ⟨N, q, e2⟩ := u
    go_enter Tryz.func73, Tryz.ntmps73
    go_wp2_with fail
    refine HS.out.mono ?_
    rintro r w1 ⟨rfl, hc1, hg1⟩
    simp only [i64V]
    have hb1 := HH0.out.grown hg1 (fun e => by have := HGL.out; injection e with e; omega)
    have f0 := hb1.frozen 0
    have f1 := hb1.frozen 1
    have f2 := hb1.frozen 2
    have c0 := hb1.cell 0
    have c1 := hb1.cell 1
    have c2 := hb1.cell 2
    simp at c0 c1 c2
    have HB1 := Lib.hid hb1
    have HC1 := Lib.hid hc1
    have HG1 := Lib.hid (grown_trans HG0.out hg1)
    clear hc1 hg1 hb1
    have hs : ∀ u0 u1 u2, Held (((w1.setCell ⟨w.heap.size, 0, none⟩ u0).setCell ⟨w.heap.size, 1, none⟩ u1).setCell ⟨w.heap.size, 2, none⟩ u2) w.heap.size 50 #[u0, u1, u2] := fun u0 u1 u2 => by simpa using ((HB1.out.put 0 u0).put 1 u1).put 2 u2
    have HCF := Lib.hid (fun u0 u1 u2 => ((HC1.out.grown (grown_put w1 w.heap.size 0 u0) (.inr HGL.out) hK).grown (grown_put (w1.setCell ⟨w.heap.size, 0, none⟩ u0) w.heap.size 1 u1) (.inr HGL.out) hK).grown (grown_put ((w1.setCell ⟨w.heap.size, 0, none⟩ u0).setCell ⟨w.heap.size, 1, none⟩ u1) w.heap.size 2 u2) (.inr HGL.out) hK)
    have HGF := Lib.hid (fun u0 u1 u2 => put_past (put_past (put_past HG1.out (Nat.le_refl _) 0 u0) (Nat.le_refl _) 1 u1) (Nat.le_refl _) 2 u2)
    have z0 := (hs (.int .i64 1) (.int .i64 N) (.string ⟨#[]⟩)).cell 0
    have z1 := (hs (.int .i64 1) (.int .i64 N) (.string ⟨#[]⟩)).cell 1
    have z2 := (hs (.int .i64 1) (.int .i64 N) (.string ⟨#[]⟩)).cell 2
    simp at z0 z1 z2
    go_wp2_with fail
    exact bodyPost_ret (v := .agg #[.int .i64 1, (.int .i64 N), (.string ⟨#[]⟩)]) (by simp [results, Tryz.results73, go_sem, z0, z1, z2]) rfl ⟨rfl, HCF.out _ _ _, HGF.out _ _ _⟩
  · rw [if_neg h1]
    have hne : (t == 1) = false := beq_eq_false_iff_ne.2 h1
    clear h1
    have HS := Lib.hid (utext_any hc0 hp hK hb hh0 hgG ht0 hgn hDl)
    clear h hp hb hh hgG ht hgn hc0 hh0 ht0 h0 b0 hgl
    generalize txtU D xs p e = u at HS ⊢
    obtain ⟨N, q, e2⟩ := u
    go_enter Tryz.func73, Tryz.ntmps73
    go_wp2_with fail
    refine HS.out.mono ?_
    rintro r w1 ⟨rfl, hc1, hg1⟩
    simp only [txtV]
    have hb1 := HH0.out.grown hg1 (fun e => by have := HGL.out; injection e with e; omega)
    have f0 := hb1.frozen 0
    have f1 := hb1.frozen 1
    have f2 := hb1.frozen 2
    have c0 := hb1.cell 0
    have c1 := hb1.cell 1
    have c2 := hb1.cell 2
    simp at c0 c1 c2
    have HB1 := Lib.hid hb1
    have HC1 := Lib.hid hc1
    have HG1 := Lib.hid (grown_trans HG0.out hg1)
    clear hc1 hg1 hb1
    have hs : ∀ u0 u1 u2, Held (((w1.setCell ⟨w.heap.size, 0, none⟩ u0).setCell ⟨w.heap.size, 1, none⟩ u1).setCell ⟨w.heap.size, 2, none⟩ u2) w.heap.size 50 #[u0, u1, u2] := fun u0 u1 u2 => by simpa using ((HB1.out.put 0 u0).put 1 u1).put 2 u2
    have HCF := Lib.hid (fun u0 u1 u2 => ((HC1.out.grown (grown_put w1 w.heap.size 0 u0) (.inr HGL.out) hK).grown (grown_put (w1.setCell ⟨w.heap.size, 0, none⟩ u0) w.heap.size 1 u1) (.inr HGL.out) hK).grown (grown_put ((w1.setCell ⟨w.heap.size, 0, none⟩ u0).setCell ⟨w.heap.size, 1, none⟩ u1) w.heap.size 2 u2) (.inr HGL.out) hK)
    have HGF := Lib.hid (fun u0 u1 u2 => put_past (put_past (put_past HG1.out (Nat.le_refl _) 0 u0) (Nat.le_refl _) 1 u1) (Nat.le_refl _) 2 u2)
    have z0 := (hs (.int .i64 t) (.int .i64 0) (.string (strOfNums N))).cell 0
    have z1 := (hs (.int .i64 t) (.int .i64 0) (.string (strOfNums N))).cell 1
    have z2 := (hs (.int .i64 t) (.int .i64 0) (.string (strOfNums N))).cell 2
    simp at z0 z1 z2
    go_wp2_with fail
    exact bodyPost_ret (v := .agg #[.int .i64 t, (.int .i64 0), (.string (strOfNums N))]) (by simp [results, Tryz.results73, go_sem, z0, z1, z2]) rfl ⟨rfl, HCF.out _ _ _, HGF.out _ _ _⟩
#print axioms uarg_any
end
end Go.Proofs.YtfknibjejnmghaaGreat

namespace Go.Proofs.YtfknibjejnmghaaGreat
open Go.RowKit
set_option linter.unusedVariables false

section
variable {K g G n : Nat} {xs : List Int} {p : Nat} {e : Int} {w : World} {vs vt : Value}
set_option maxRecDepth 100000 in
set_option maxHeartbeats 2000000 in
theorem udict_any (h : Cur 95 w K g xs p e) (hp : p ≤ xs.length) (hK : K ≤ g) (hb : ∀ x ∈ xs, 0 ≤ x ∧ x < 256) (hh : Held w G 59 #[.pointer (some ⟨g, 0, none⟩), vs, vt]) (hgG : g ≠ G) :
    Calls Tryz.prog 42 #[.pointer (some ⟨G, 0, none⟩)] w fun r w' => (∃ A c, r = .returned (.slice A (dictU xs p e).1.length c) ∧ w'.ownsRow w.heap.size 9 1 (.slice A (dictU xs p e).1.length c) (dictU xs p e).1.length (strVs (dictU xs p e).1)) ∧
      Cur 95 w' K g xs (dictU xs p e).2.1 (dictU xs p e).2.2 ∧ w.grownBy w' (some g) := by
  obtain ⟨i0, hi, hz0, hz1, hz2⟩ := info_parts Tryz.infoStr15
  have HNUM : Hid (Calls Tryz.prog 40 #[.pointer (some ⟨g, 0, none⟩), .int .u64 4096] w (Took u64V w K g xs (nx 4096 xs p e))) := Lib.hid (number_any 4096 h hp hK hb)
  obtain ⟨⟨N, hN, hN1, hN64⟩, _, hq⟩ := nx_range (e := e) hb (m := 4096) (by decide) hp
  unfold dictU txsU
  generalize nx 4096 xs p e = t at HNUM hN hq ⊢
  obtain ⟨Ni, q, e2⟩ := t
  simp only at hN hq ⊢
  subst hN
  rw [Int.toNat_natCast]
  obtain ⟨F, hF⟩ : ∃ F : Nat → List (List Int) × Nat × Int, stepsU (fun _ s => tx xs s.1 s.2) (q, e2) = F := ⟨_, rfl⟩
  have HF0 := Lib.hid (show F 0 = ([], q, e2) by rw [← hF]; rfl)
  have HFS := Lib.hid (fun j => show F (j + 1) = ((F j).1 ++ [(tx xs (F j).2.1 (F j).2.2).1], (tx xs (F j).2.1 (F j).2.2).2) by rw [← hF]; rfl)
  have HFL := Lib.hid (fun j => show (F j).1.length = j by rw [← hF]; exact stepsU_length j)
  have HFP := Lib.hid (fun j => show (F j).2.1 ≤ xs.length by rw [← hF]; exact stepsU_inv (I := fun s : Nat × Int => s.1 ≤ xs.length) hq (fun j s h => (tx_range hb h).2) j)
  rw [hF]
  clear hF
  have x0 := hh.cell 0
  simp at x0
  have HH := Lib.hid hh
  have HGG := Lib.hid hgG
  have HBY := Lib.hid hb
  have HGL := Lib.hid h.lt
  clear h hb hp hq hh hgG
  go_enter Tryz.func42, Tryz.ntmps42
  go_wp2_with fail
  refine HNUM.out.mono ?_
  rintro r w1 ⟨rfl, hc1, hg1⟩
  simp only [u64V]
  have HC1 := Lib.hid (show Cur 95 w1 K g xs (F 0).2.1 (F 0).2.2 by rw [HF0.out]; exact hc1)
  have HG1 := Lib.hid hg1
  clear hc1 hg1 x0
  go_wp2_with fail
  go_loopg [9, 3] N (fun gk i v wr => ∃ (j : Nat) (A : Option Addr) (c : Nat), j ≤ N ∧ i = .int .u64 j ∧ v = .slice A j c ∧ Hid (N - j = gk) ∧ Hid (Cur 95 wr K g xs (F j).2.1 (F j).2.2) ∧ Hid (wr.ownsRow w.heap.size 9 1 (.slice A j c) j (strVs (F j).1)) ∧ Hid (w.grownBy wr (some g)))
  case atStart => exact ⟨0, none, 0, Nat.zero_le _, rfl, rfl, Lib.hid rfl, HC1, Lib.hid (by rw [HF0.out]; exact World.ownsRow_nil _ _ _ _), HG1⟩
  case round =>
    obtain ⟨j, A, c, hj, rfl, rfl, HGK, HC, HOW, HGR⟩ := hrel
    by_cases hlt : j < N
    · have hhr := HH.out.grown HGR.out (fun e => by injection e with e; exact HGG.out e.symm)
      have y0 := hhr.cell 0
      simp at y0
      have HTX : Hid (Calls Tryz.prog 72 #[.pointer (some ⟨g, 0, none⟩), .int .i64 200] wr (Took txtV wr K g xs (tx xs (F j).2.1 (F j).2.2))) := Lib.hid (text_any 200 (by omega) (by omega) HC.out (HFP.out j) hK HBY.out)
      have hnext := HFS.out j
      generalize tx xs (F j).2.1 (F j).2.2 = t at HTX hnext
      obtain ⟨s, q3, e3⟩ := t
      simp only at hnext
      have HNX := Lib.hid hnext
      clear hnext hhr
      go_wp2_with fail
      refine HTX.out.mono ?_
      rintro r w2 ⟨rfl, hc2, hg2⟩
      simp only [txtV]
      have HC2 := Lib.hid hc2
      have HO2 := Lib.hid (World.ownsRow.kept HOW.out hg2 (.inr (own_low HOW.out HGL.out)))
      have HG2 := Lib.hid (grown_trans HGR.out hg2)
      clear hc2 hg2 y0
      go_wp2_with (at_builtin; refine wpList_append_own _ rfl _ _ 57 rfl w.heap.size 9 i0 (.string ⟨#[]⟩) 1 16 Tryz.underlying57 hi hz0 hz1 hz2 rfl (by decide) _ _ _ rfl (HO2.out.alloc _) ⟨w2.heap.size, 0, none⟩ 1 1 [.string (strOfNums s)] rfl rfl (cell_one_new _ _ _) (by simp [Value.oneCell']) (by simp only [maxLen]; omega) (by omega) (by have := HG2.out.size; simp; omega) ?_; intro v3 w3 hown3 hg3 hn3)
      have hlow : ∀ i, (Value.slice A j c).ownBlock = some i → w.heap.size ≤ i := fun i e => (World.ownsRow.lt HO2.out i e).1
      have HC3 := Lib.hid ((HC2.out.below ((Below.refl _ _).alloc (Nat.le_refl _) (.cells #[.string (strOfNums s)] 9)) hK).past hg3 hlow HGL.out hK)
      have HG3 := Lib.hid (grown_past (grown_trans HG2.out (grown_alloc w2 (.cells #[.string (strOfNums s)] 9) (some g))) hg3 hlow)
      have HEV := Lib.hid (show strVs (F j).1 ++ [.string (strOfNums s)] = strVs (F (j + 1)).1 by rw [HNX.out]; simp [strVs, strV])
      obtain ⟨A3, c3, rfl⟩ := own_form hown3
      have HO3 := Lib.hid hown3
      clear hown3 hg3 hn3 hlow
      go_wp2_with fail
      go_roundg (N - (j + 1))
      case measure => have := HGK.out; omega
      case rel => exact ⟨j + 1, A3, c3, by omega, by go_num, rfl, Lib.hid rfl, Lib.hid (by rw [HNX.out]; exact HC3.out), Lib.hid (by rw [← HEV.out]; exact HO3.out), HG3⟩
    · obtain rfl : j = N := by omega
      go_wp2_with fail
      go_ret
      rw [HFL.out]
      exact ⟨⟨A, c, rfl, HOW.out⟩, HC.out, HGR.out⟩
#print axioms udict_any
end
end Go.Proofs.YtfknibjejnmghaaGreat
