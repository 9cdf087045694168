/-
  What the theorem of ReadOf rests on, part 11 of 18.
-/
import Derived.Deep.QuietTactic
import Derived.BigQuiet
import Derived.Deep.LoopGhost
import Derived.Deep.RegionHeld3
import Derived.Deep.AppendLies
import Derived.Deep.RegionLaw
import Derived.Test.YtimihhcidbeonaaGreatReadOfZ10
set_option maxRecDepth 100000
set_option maxHeartbeats 16000000
namespace Go.Proofs.YtimihhcidbeonaaGreat
open Lib (hid)
open Go.RowKit
set_option linter.unusedVariables false
set_option linter.unusedSimpArgs false
section
variable {xs : List Int} {sig : List Pr} {m e : Int} {p : Nat}
theorem nx_err (h : (nx m xs p e).2.2 ≠ 0) : (nx m xs p e).1 = 0 := by
 by_cases he : e = 0
 ·subst he
  unfold nx at h ⊢
  by_cases hg : (getN m (xs.drop p)).2.2 = 0
  ·rw [tk_ok hg] at h
   exact absurd rfl h
  ·rw [tk_err hg]
 ·rw [nx_stop he]
theorem readU_err (h : (dicU xs).2.2 ≠ 0) : (readU sig xs).2.2.2 = (dicU xs).2.2 :=
 stepsU_stop (f := ptU sig (dicU xs).1 xs) (s := ((baseU xs).1, (dicU xs).2)) (er := fun s : Int × Nat × Int => s.2.2) (k := 0) (fun j s hs => ptU_stop hs) h _ (Nat.zero_le _)
theorem getU_err (h0 : checkP sig = 0) (h : (readU sig xs).2.2.2 ≠ 0) : getU sig xs = ([], (readU sig xs).2.2.2) := by
 unfold getU endU
 simp [h0, h]
theorem getU_left (h0 : checkP sig = 0) (h : (readU sig xs).2.2.2 = 0) (h1 : (readU sig xs).2.2.1 < xs.length) : getU sig xs = ([], 4) := by
 unfold getU endU
 simp [h0, h, h1]
theorem getU_long (h0 : checkP sig = 0) (h : (readU sig xs).2.2.2 = 0) (h1 : ¬ (readU sig xs).2.2.1 < xs.length) (h2 : 4096 < xs.length) : getU sig xs = ([], 6) := by
 unfold getU endU wayU
 simp [h0, h, h1, h2]
theorem getU_other (h0 : checkP sig = 0) (h : (readU sig xs).2.2.2 = 0) (h1 : ¬ (readU sig xs).2.2.1 < xs.length) (h2 : ¬ 4096 < xs.length) (h3 : putB sig ((readU sig xs).1.map bareP) ≠ (xs, 0)) : getU sig xs = ([], 4) := by
 unfold getU endU wayU
 simp [h0, h, h1, h2, h3]
theorem getU_good (h0 : checkP sig = 0) (h : (readU sig xs).2.2.2 = 0) (h1 : ¬ (readU sig xs).2.2.1 < xs.length) (h2 : ¬ 4096 < xs.length) (h3 : putB sig ((readU sig xs).1.map bareP) = (xs, 0)) : getU sig xs = ((readU sig xs).1, 0) := by
 unfold getU endU wayU
 simp [h0, h, h1, h2, h3]
theorem last_tm {ps : List Pm} {L : List Pn} {tm : Int} (h : ps.map (·.p) = L) (h0 : 0 < L.length) (hl : ∃ x, L[L.length - 1]? = some x ∧ x.tm = tm) : ∃ d, ps[ps.length - 1]? = some d ∧ d.tm = tm ∧ 0 < ps.length := by
 subst h
 obtain ⟨x, h1, h2⟩ := hl
 rw [List.length_map] at h0 h1
 rw [List.getElem?_map] at h1
 cases hq : ps[ps.length - 1]? with
 | none => rw [hq] at h1; cases h1
 | some d =>
  rw [hq] at h1
  injection h1 with h1
  exact ⟨d, rfl, by rw [← h2, ← h1], h0⟩
end
def RUGot (w : World) (R : List Pn × Int) (r : Ending) (w' : World) : Prop :=
 ∃ A c ps, r = .returned (.tuple #[.slice A ps.length c, .int .i64 R.2]) ∧ TrRow w' w'.heap.size (.slice A ps.length c) ps ∧ (0 < ps.length → OwnT w' w.heap.size (.slice A ps.length c) ps) ∧ ps.map (·.p) = R.1 ∧ Below w.heap.size w w'
theorem rgot_none {w w' : World} {R : List Pn × Int} {k : Int} {r : Ending} {g : Addr} (hR : R = ([], k)) (h : r = .returned (.tuple #[.slice (some g) 0 0, .int .i64 k])) (hb : Below w.heap.size w w') : RUGot w R r w' := by
 subst hR
 exact ⟨some g, 0, [], h, ⟨⟨some g, 0, rfl, Nat.le_refl _, Nat.zero_le _, (fun e => by cases e), fun h => absurd h (by simp)⟩, by simp⟩, (fun h => absurd h (by simp)), rfl, hb⟩
theorem rgot_some {w w' : World} {R : List Pn × Int} {L : List Pn} {r : Ending} {A : Option Addr} {c : Nat} {ps : List Pm} (hR : R = (L, 0)) (h : r = .returned (.tuple #[.slice A ps.length c, .int .i64 0])) (ht : OwnT w' w.heap.size (.slice A ps.length c) ps) (hp : ps.map (·.p) = L) (hb : Below w.heap.size w w') : RUGot w R r w' := by
 subst hR
 exact ⟨A, c, ps, h, ht.row, fun _ => ht, hp, hb⟩
section
variable {w wr w1 w7 wf : World} {N B q : Nat} {xs : List Int} {D : List (List Int)} {TA LA : Option Addr} {TL TC LL LC : Nat} {n e : Int}
theorem Turns.of_below' (h : Below N w w1) (hN : w.heap.size = N) : Turns N w w1 := by
 subst hN
 exact Turns.of_below h (Nat.le_refl _)
structure GxAt (w : World) (N B : Nat) (xs : List Int) (TA : Option Addr) (TL TC : Nat) (LA : Option Addr) (LL LC : Nat) (n : Int) (q : Nat) (e : Int) (wr : World) : Prop where
 box : Held wr B 111 (PC xs q e TA TL TC LA LL LC n)
 trn : Turns N w wr
theorem GxAt.next (h : GxAt w N B xs TA TL TC LA LL LC n q e wr) (hN : w.heap.size = N) (hNB : N ≤ B) (ht : Turns N wr w1) (TA' : Option Addr) (TL' TC' : Nat) (LA' : Option Addr) (LL' LC' : Nat) (n' : Int) (q' : Nat) (e' : Int) :
  GxAt w N B xs TA' TL' TC' LA' LL' LC' n' q' e' ((((((w1.setCell ⟨B, 0, none⟩ (.string (strOfNums xs))).setCell ⟨B, 1, none⟩ (.int .i64 q')).setCell ⟨B, 2, none⟩ (.int .i64 e')).setCell ⟨B, 3, none⟩ (.slice TA' TL' TC')).setCell ⟨B, 4, none⟩ (.slice LA' LL' LC')).setCell ⟨B, 5, none⟩ (.int .u64 n')) ∧
   Held w1 B 111 (PC xs q e TA TL TC LA LL LC n) := by
 have hx := ht.held h.box (by decide) (by decide)
 exact ⟨⟨held_put6 hx _ _ _ _ _ _, (h.trn.trans ht).then (grown_put6 w1 B _ _ _ _ _ _) (by omega) (by omega)⟩, hx⟩
structure LxAt (w : World) (N B : Nat) (xs : List Int) (D : List (List Int)) (TA : Option Addr) (TC : Nat) (LA : Option Addr) (LL LC : Nat) (n : Int) (q : Nat) (r : List Pn × Int × Nat × Int) (wr : World) : Prop where
 gx : GxAt w N B xs TA D.length TC LA LL LC n q r.2.2.2 wr
 qle : q ≤ xs.length
 txt : wr.ownsRow N 9 1 (.slice TA D.length TC) D.length (strVs D)
 ok : r.2.2.2 = 0 → q = r.2.2.1 ∧ ∃ ps : List Pm, LL = ps.length ∧ OwnT wr N (.slice LA ps.length LC) ps ∧ ps.map (·.p) = r.1
theorem lx_start {m : Nat} {cs : Array Value} {k : Int} (hg : GxAt w N B xs TA D.length TC none 0 0 n q 0 wf) (hx : Held w1 B 111 cs) (hgr : w1.grownBy wf (some B)) (hT : w1.ownsRow m 9 1 (.slice TA D.length TC) D.length (strVs D)) (hm : N ≤ m) (hq : q ≤ xs.length) :
  LxAt w N B xs D TA TC none 0 0 n q ([], k, q, 0) wf :=
 ⟨hg, hq, own_base (World.ownsRow.kept hT hgr (.inr (fun e => own_not_held hT hx (by decide) e.symm))) hm, fun _ => ⟨rfl, [], rfl, OwnT.nil _ _, rfl⟩⟩
theorem LxAt.more {r : List Pn × Int × Nat × Int} {R : Pn × Int × Nat × Int} {ps : List Pm} {A' : Option Addr} {c' q' : Nat} {n' e' : Int} (h : LxAt w N B xs D TA TC LA LL LC n q r wr) (hN : w.heap.size = N) (hNB : N ≤ B) (hps : ps.map (·.p) = r.1) (ht : Turns N wr w7) (hq : q' ≤ xs.length) (he : e' = R.2.2.2)
  (hok : e' = 0 → q' = R.2.2.1 ∧ ∃ d1 : Pm, OwnT w7 N (.slice A' (ps.length + 1) c') (ps ++ [d1]) ∧ d1.p = R.1) :
  LxAt w N B xs D TA TC A' (ps.length + 1) c' n' q' (r.1 ++ [R.1], R.2) ((((((w7.setCell ⟨B, 0, none⟩ (.string (strOfNums xs))).setCell ⟨B, 1, none⟩ (.int .i64 q')).setCell ⟨B, 2, none⟩ (.int .i64 e')).setCell ⟨B, 3, none⟩ (.slice TA D.length TC)).setCell ⟨B, 4, none⟩ (.slice A' (ps.length + 1) c')).setCell ⟨B, 5, none⟩ (.int .u64 n')) ∧
   Held w7 B 111 (PC xs q r.2.2.2 TA D.length TC LA LL LC n) := by
 subst he
 obtain ⟨g1, hx⟩ := h.gx.next hN hNB ht TA D.length TC A' (ps.length + 1) c' n' q' R.2.2.2
 have hgr := grown_put6 w7 B (.string (strOfNums xs)) (.int .i64 q') (.int .i64 R.2.2.2) (.slice TA D.length TC) (.slice A' (ps.length + 1) c') (.int .u64 n')
 have hT := ht.own h.txt (by decide) (by decide)
 refine ⟨⟨g1, hq, World.ownsRow.kept hT hgr (.inr (fun e => own_not_held hT hx (by decide) e.symm)), fun hz => ?_⟩, hx⟩
 obtain ⟨h1, d1, h2, h3⟩ := hok hz
 refine ⟨h1, ps ++ [d1], by simp, ?_, by rw [List.map_append, hps, List.map_cons, List.map_nil, h3]⟩
 rw [show (ps ++ [d1]).length = ps.length + 1 by simp]
 exact h2.aside hx (by decide) (by decide) (by decide) hgr
end
theorem rget15_any (A : Option Addr) (c : Nat) (ds : List Pd) (xs : List Int) (hb : ∀ x ∈ xs, 0 ≤ x ∧ x < 256) (hl : xs.length ≤ 1000000) (w : World) (hrow : PredRow w w.heap.size (.slice A ds.length c) ds) :
  Calls Tryz.prog 12 #[.slice A ds.length c, .string (strOfNums xs)] w (RUGot w (getU (ds.map (·.p)) xs)) := by
 obtain ⟨N, hN⟩ : ∃ N, w.heap.size = N := ⟨_, rfl⟩
 have hwa : Below N w (w.alloc (.cells #[] 51)) ∧ (w.alloc (.cells #[] 51)).heap.size = N + 1 := ⟨(Below.refl _ _).alloc (by omega) _, by rw [World.size_alloc, hN]⟩
 have hcka := rcheck_any A c ds _ ((hrow.below (hN ▸ hwa.1)).more (B' := (w.alloc (.cells #[] 51)).heap.size) (by rw [hwa.2, hN]; omega))
 have HWA := hid hwa
 by_cases h0 : checkP (ds.map (·.p)) ≠ 0
 ·have HG := hid (show getU (ds.map (·.p)) xs = ([], checkP (ds.map (·.p))) from if_pos h0)
  have hne : (checkP (ds.map (·.p)) != 0) = true := bne_iff_ne.2 h0
  generalize getU (ds.map (·.p)) xs = R at HG ⊢
  generalize checkP (ds.map (·.p)) = k at hcka hne HG
  have HCK := hid hcka
  clear hcka hrow hb hl h0 hwa
  go_enter Tryz.func12, Tryz.ntmps12
  go_wp2_with fail
  refine HCK.out.mono ?_
  rintro e w1 ⟨rfl, rfl⟩
  go_wp2_with fail
  go_ret2
  exact rgot_none HG.out rfl (by rw [hN]; exact HWA.out.1)
 have h0 : checkP (ds.map (·.p)) = 0 := by simpa using h0
 rw [h0] at hcka
 have HCKA := hid hcka
 obtain ⟨t1, ht1⟩ : ∃ t, nx m64 xs 0 0 = t := ⟨_, rfl⟩
 obtain ⟨K1, q1, e1⟩ := t1
 obtain ⟨⟨k1, hk1, -, hk64⟩, -, hq1⟩ := nx_range (e := 0) hb (m := m64) (by decide) (Nat.zero_le xs.length)
 rw [ht1] at hk1 hq1
 simp only at hk1 hq1
 subst hk1
 have HN1 := hid (show ∀ W, Calls Tryz.prog 50 #[.agg #[.string (strOfNums xs), .int .i64 0, .int .i64 0, .slice none 0 0, .slice none 0 0, .int .u64 0], .int .u64 18446744073709551615] W fun r w' => r = .returned (PV xs q1 e1 none 0 0 none 0 0 k1) ∧ Below W.heap.size W w' from fun W => by
  have h := pnum_any (TA := none) (TL := 0) (TC := 0) (LA := none) (LL := 0) (LC := 0) (n := 0) (m := m64) (p := 0) (e := 0) (w := W) (Nat.zero_le _) hl hb
  rw [ht1] at h
  exact h)
 obtain ⟨t2, ht2⟩ : ∃ t, nx 1024 xs q1 e1 = t := ⟨_, rfl⟩
 obtain ⟨Mi, q2, e2⟩ := t2
 obtain ⟨⟨M, hM, hM1, hM64⟩, -, hq2⟩ := nx_range (e := e1) hb (m := 1024) (by decide) hq1
 have hM0e := nx_err (m := 1024) (xs := xs) (p := q1) (e := e1)
 rw [ht2] at hM hq2 hM0e
 simp only at hM hq2 hM0e
 subst hM
 have hMle : M ≤ 1024 := by omega
 have hM0e : e2 ≠ 0 → M = 0 := fun h => by have := hM0e h; omega
 have HN2 := hid (show ∀ W, Calls Tryz.prog 50 #[PV xs q1 e1 none 0 0 none 0 0 k1, .int .u64 1024] W fun r w' => r = .returned (PV xs q2 e2 none 0 0 none 0 0 M) ∧ Below W.heap.size W w' from fun W => by
  have h := pnum_any (TA := none) (TL := 0) (TC := 0) (LA := none) (LL := 0) (LC := 0) (n := k1) (m := 1024) (p := q1) (e := e1) (w := W) hq1 hl hb
  rw [ht2] at h
  exact h)
 have hbase : baseU xs = (((k1 : Nat) : Int), q1, e1) := ht1
 have hcnt : cntU xs = (((M : Nat) : Int), q2, if ((M : Nat) : Int) = 0 then stU e2 4 else e2) := by
  unfold cntU countU
  rw [hbase]
  simp only [ht2]
 have HTXS := hid (fun (e : Int) (W : World) => ptexts_any (p := q2) (e := e) (LA := none) (LL := 0) (LC := 0) (n := (M : Int)) (w := W) hq2 hl hb)
 have HDEAD := hid (fun (k : Int) (h : (if ((M : Nat) : Int) = 0 then stU e2 4 else e2) = k) (hk : k ≠ 0) => show getU (ds.map (·.p)) xs = ([], k) by
  have hd : (dicU xs).2.2 = k := by
   unfold dicU
   rw [hcnt]
   simp only [h]
   exact dictU_stop hk
  have hr := readU_err (sig := ds.map (·.p)) (xs := xs) (by rw [hd]; exact hk)
  rw [hd] at hr
  rw [getU_err h0 (by rw [hr]; exact hk), hr])
 have hwm : IntKind.i64.wrap (M : Int) = (M : Int) := IntWalk.i64_in _ (by omega)
 have hss : (strOfNums xs).size = xs.length := strOfNums_size xs
 have HLV := hid (And.intro h0 (And.intro hb (And.intro hrow (And.intro hbase hcnt))))
 clear hcka hwa ht1 ht2 hbase hcnt hrow h0 hM64
 by_cases he2 : e2 = 0
 ·subst he2
  by_cases hM0 : M = 0
  ·have hMz : ((M : Int) == 0) = true := by rw [hM0]; rfl
   have HWHY := hid (HDEAD.out 4 (by rw [hM0]; rfl) (by decide))
   have HTE := hid (dictU_stop (xs := xs) (p := q2) (e := 4) (by decide))
   have HTX := hid (fun W => HTXS.out 4 W)
   have HBAD := hid (fun W => pbad_any (xs := xs) (p := q2) (e := 0) (TA := none) (TL := 0) (TC := 0) (LA := none) (LL := 0) (LC := 0) (n := (M : Int)) (w := W) 4)
   rw [stU_zero] at HBAD
   clear hM0 HLV HTXS HDEAD hM0e hb
   generalize getU (ds.map (·.p)) xs = R at HWHY ⊢
   go_enter Tryz.func12, Tryz.ntmps12
   go_wp2_with fail
   generalize w.alloc (.cells #[] 51) = wa at HWA HCKA ⊢
   refine HCKA.out.mono ?_
   rintro r w0 ⟨rfl, rfl⟩
   go_wp2_with fail
   refine (HN1.out _).mono ?_
   rintro r w1 ⟨rfl, hb1⟩
   obtain ⟨B, hB⟩ : ∃ B, w1.heap.size = B := ⟨_, rfl⟩
   have hNB : N ≤ B := by have := hb1.size; have := HWA.out.2; omega
   have hg1 : GxAt w N B xs none 0 0 none 0 0 k1 q1 e1 (w1.alloc (.cells (PC xs q1 e1 none 0 0 none 0 0 k1) 111)) := by
    refine ⟨by rw [← hB]; exact heap_alloc_new w1 _, Turns.of_below' ?_ hN⟩
    exact (HWA.out.1.trans (hb1.mono (by have := HWA.out.2; omega))).alloc (by rw [hB]; exact hNB) _
   have HG1 := hid hg1
   obtain ⟨p0, p1, p2, p3, p4, p5⟩ := cC6 hg1.box
   simp at p0 p1 p2 p3 p4 p5
   clear hg1 hb1 HWA HCKA
   go_wp2_with fail
   generalize w1.alloc (.cells (PC xs q1 e1 none 0 0 none 0 0 k1) 111) = w2 at HG1 p0 p1 p2 p3 p4 p5 ⊢
   clear hB
   refine (HN2.out _).mono ?_
   rintro r w3 ⟨rfl, hb3⟩
   clear p0 p1 p2 p3 p4 p5
   obtain ⟨hg', hx'⟩ := HG1.out.next hN hNB (Turns.of_below hb3 (by have := HG1.out.box.lt; omega)) none 0 0 none 0 0 M q2 0
   have HG := hid hg'
   obtain ⟨⟨f0, f1, f2, f3, f4, f5⟩, z0, z1, z2, z3, z4, z5⟩ := cG6 hx'
   simp at z0 z1 z2 z3 z4 z5
   obtain ⟨p0, p1, p2, p3, p4, p5⟩ := cC6 hg'.box
   simp at p0 p1 p2 p3 p4 p5
   clear hx' hg'
   go_wp2_with fail
   generalize ((((((w3.setCell ⟨B, 0, none⟩ (.string (strOfNums xs))).setCell ⟨B, 1, none⟩ (.int .i64 q2)).setCell ⟨B, 2, none⟩ (.int .i64 0)).setCell ⟨B, 3, none⟩ (.slice none 0 0)).setCell ⟨B, 4, none⟩ (.slice none 0 0)).setCell ⟨B, 5, none⟩ (.int .u64 M)) = w4 at HG p0 p1 p2 p3 p4 p5  ⊢
   clear f0 f1 f2 f3 f4 f5 z0 z1 z2 z3 z4 z5
   clear hb3 HG1
   refine (HBAD.out _).mono ?_
   rintro r w41 ⟨rfl, hb41⟩
   clear p0 p1 p2 p3 p4 p5
   obtain ⟨hg', hx'⟩ := HG.out.next hN hNB (Turns.of_below hb41 (by have := HG.out.box.lt; omega)) none 0 0 none 0 0 M q2 4
   have HG0 := hid hg'
   obtain ⟨⟨f0, f1, f2, f3, f4, f5⟩, z0, z1, z2, z3, z4, z5⟩ := cG6 hx'
   simp at z0 z1 z2 z3 z4 z5
   obtain ⟨p0, p1, p2, p3, p4, p5⟩ := cC6 hg'.box
   simp at p0 p1 p2 p3 p4 p5
   clear hx' hg'
   go_wp2_with fail
   generalize ((((((w41.setCell ⟨B, 0, none⟩ (.string (strOfNums xs))).setCell ⟨B, 1, none⟩ (.int .i64 q2)).setCell ⟨B, 2, none⟩ (.int .i64 4)).setCell ⟨B, 3, none⟩ (.slice none 0 0)).setCell ⟨B, 4, none⟩ (.slice none 0 0)).setCell ⟨B, 5, none⟩ (.int .u64 M)) = w42 at HG0 p0 p1 p2 p3 p4 p5  ⊢
   clear f0 f1 f2 f3 f4 f5 z0 z1 z2 z3 z4 z5
   clear HG hb41
   have HG := HG0
   clear p0 p1 p2 p3 p4 p5
   refine (HTX.out _).mono ?_
   rintro r w5 hgot
   obtain ⟨q', E', TA', TL', TC', n', rfl, hq', hE', -, hb5⟩ := hgot
   rw [HTE.out] at hE'
   subst E'
   obtain ⟨hg', hx'⟩ := HG.out.next hN hNB (Turns.of_below hb5 (by have := HG.out.box.lt; omega)) TA' TL' TC' none 0 0 n' q' 4
   have HG6 := hid hg'
   obtain ⟨⟨f0, f1, f2, f3, f4, f5⟩, z0, z1, z2, z3, z4, z5⟩ := cG6 hx'
   simp at z0 z1 z2 z3 z4 z5
   obtain ⟨p0, p1, p2, p3, p4, p5⟩ := cC6 hg'.box
   simp at p0 p1 p2 p3 p4 p5
   clear hx' hg'
   go_wp2_with fail
   generalize ((((((w5.setCell ⟨B, 0, none⟩ (.string (strOfNums xs))).setCell ⟨B, 1, none⟩ (.int .i64 q')).setCell ⟨B, 2, none⟩ (.int .i64 4)).setCell ⟨B, 3, none⟩ (.slice TA' TL' TC')).setCell ⟨B, 4, none⟩ (.slice none 0 0)).setCell ⟨B, 5, none⟩ (.int .u64 n')) = w6 at HG6 p0 p1 p2 p3 p4 p5  ⊢
   clear f0 f1 f2 f3 f4 f5 z0 z1 z2 z3 z4 z5
   clear p0 p1 p2 p3 p4 p5
   go_loopg [11] 0 (fun gk i wr => i = .int .i64 0 ∧ Hid (GxAt w N B xs TA' TL' TC' none 0 0 n' q' 4 wr))
   case atStart => exact ⟨rfl, HG6⟩
   case round =>
    obtain ⟨rfl, HG7⟩ := hrel
    have hg7 := HG7.out
    obtain ⟨⟨f0, f1, f2, f3, f4, f5⟩, z0, z1, z2, z3, z4, z5⟩ := cG6 hg7.box
    simp at z0 z1 z2 z3 z4 z5
    clear hg7
    by_cases hlt : 0 < M
    ·go_wp2_with fail
     go_quiet (fail)
     go_wp2_with fail
     go_ret2
     exact rgot_none (HWHY.out) rfl (by rw [hN]; exact below_drewN HG7.out.trn.1 _)
    ·go_wp2_with fail
     go_quiet (fail)
     go_wp2_with fail
     go_ret2
     exact rgot_none (HWHY.out) rfl (by rw [hN]; exact below_drewN HG7.out.trn.1 _)
  ·have hMz : ((M : Int) == 0) = false := beq_eq_false_iff_ne.2 (by omega)
   obtain ⟨h0, hb', hrow, hbase, hcnt⟩ := HLV.out
   rw [if_neg (show ¬ ((M : Nat) : Int) = 0 by omega)] at hcnt
   have hss' : ∀ q ∈ ds.map (·.p), ∀ t ∈ q.args, -9223372036854775808 ≤ t ∧ t ≤ 9223372036854775807 := fun q hq => by
    obtain ⟨d, hd, rfl⟩ := List.mem_map.1 hq
    obtain ⟨A', c', hv, h1, h2, h3, h4, h5⟩ := hrow
    exact (h5 d hd).2.2.2
   obtain ⟨td, htd⟩ : ∃ t, dicU xs = t := ⟨_, rfl⟩
   have htd' : dictU xs q2 0 = td := by rw [← htd]; unfold dicU; rw [hcnt]
   obtain ⟨D, q3, E3⟩ := td
   have HRG := hid (dicU_range hb)
   have hDl : D.length ≤ 4096 := by
    have h : (dictU xs q2 0).1.length = (nx 4096 xs q2 0).1.toNat := stepsU_length _
    rw [htd'] at h
    obtain ⟨⟨n, k1, k2, _⟩, _⟩ := nx_range (e := 0) hb (m := 4096) (by decide) hq2
    rw [k1] at h
    simp only at h
    omega
   rw [htd] at HRG
   obtain ⟨hD, hq3⟩ := HRG.out
   simp only at hD hq3
   obtain ⟨F, hF⟩ : ∃ F : Nat → List Pn × Int × Nat × Int, ptsU (ds.map (·.p)) D xs ((k1 : Int), q3, E3) = F := ⟨_, rfl⟩
   have hFM : readU (ds.map (·.p)) xs = F M := by
    unfold readU
    rw [htd, hbase, hcnt, ← hF, Int.toNat_natCast]
   have HF0 := hid (show F 0 = ([], (k1 : Int), q3, E3) by rw [← hF]; rfl)
   have HFS := hid (fun j => show F (j + 1) = ((F j).1 ++ [(ptU (ds.map (·.p)) D xs j (F j).2).1], (ptU (ds.map (·.p)) D xs j (F j).2).2) by rw [← hF]; rfl)
   have HFL := hid (fun j => show (F j).1.length = j by rw [← hF]; exact stepsU_length j)
   have HFR := hid (fun j => show (F j).2.2.1 ≤ xs.length ∧ 0 ≤ (F j).2.1 ∧ (F j).2.1 < 18446744073709551616 by rw [← hF]; exact ptsU_range hb hss' hD hq3 ⟨by simp only; omega, by simp only; omega⟩ j)
   have HFE := hid (fun (k j : Nat) (h : (F k).2.2.2 ≠ 0) (hk : k ≤ j) => show (F j).2.2.2 = (F k).2.2.2 by
    rw [← hF] at h ⊢
    unfold ptsU at h ⊢
    exact stepsU_stop (er := fun s : Int × Nat × Int => s.2.2) (fun j s hs => ptU_stop hs) h j hk)
   have HFT := hid (fun (j : Nat) (hj : j ≠ 0) => show ∃ x, (F j).1[(F j).1.length - 1]? = some x ∧ x.tm = (F j).2.1 by
    obtain ⟨i, rfl⟩ := Nat.exists_eq_succ_of_ne_zero hj
    rw [Nat.succ_eq_add_one, HFS.out]
    exact ⟨(ptU (ds.map (·.p)) D xs i (F i).2).1, by simp, rfl⟩)
   have HXW := hid (fun (h : E3 ≠ 0) => show getU (ds.map (·.p)) xs = ([], E3) by
    have hr := readU_err (sig := ds.map (·.p)) (xs := xs) (by rw [htd]; exact h)
    rw [htd] at hr
    rw [getU_err h0 (by rw [hr]; exact h), hr])
   have HGE := hid (fun (h : (F M).2.2.2 ≠ 0) => show getU (ds.map (·.p)) xs = ([], (F M).2.2.2) by rw [← hFM] at h ⊢; exact getU_err h0 h)
   have HGL := hid (fun (h : (F M).2.2.2 = 0) (h1 : (F M).2.2.1 < xs.length) => show getU (ds.map (·.p)) xs = ([], 4) by rw [← hFM] at h h1; exact getU_left h0 h h1)
   have HGG := hid (fun (h : (F M).2.2.2 = 0) (h1 : ¬ (F M).2.2.1 < xs.length) (h2 : 4096 < xs.length) => show getU (ds.map (·.p)) xs = ([], 6) by rw [← hFM] at h h1; exact getU_long h0 h h1 h2)
   have HGO := hid (fun (h : (F M).2.2.2 = 0) (h1 : ¬ (F M).2.2.1 < xs.length) (h2 : ¬ 4096 < xs.length) (h3 : putB (ds.map (·.p)) ((F M).1.map bareP) ≠ (xs, 0)) => show getU (ds.map (·.p)) xs = ([], 4) by rw [← hFM] at h h1 h3; exact getU_other h0 h h1 h2 h3)
   have HGY := hid (fun (h : (F M).2.2.2 = 0) (h1 : ¬ (F M).2.2.1 < xs.length) (h2 : ¬ 4096 < xs.length) (h3 : putB (ds.map (·.p)) ((F M).1.map bareP) = (xs, 0)) => show getU (ds.map (·.p)) xs = ((F M).1, 0) by rw [← hFM] at h h1 h3 ⊢; exact getU_good h0 h h1 h2 h3)
   have HTX := hid (fun W => HTXS.out 0 W)
   have HTE := hid htd'
   have HKK := hid (And.intro h0 (And.intro hD hb'))
   have HSIG := hid (fun (W : World) (K : Nat) (h : Turns N w W) (hK : N ≤ K) => show PredRow W K (.slice A ds.length c) ds from by subst hN; exact (hrow.below h.1).more hK)
   clear h0 hb' hrow hbase hcnt htd htd' HRG hD hF hFM hss' HLV HTXS HDEAD hM0e hM0 hb
   generalize getU (ds.map (·.p)) xs = R at HXW HGE HGL HGG HGO HGY ⊢
   go_enter Tryz.func12, Tryz.ntmps12
   go_wp2_with fail
   generalize w.alloc (.cells #[] 51) = wa at HWA HCKA ⊢
   refine HCKA.out.mono ?_
   rintro r w0 ⟨rfl, rfl⟩
   go_wp2_with fail
   refine (HN1.out _).mono ?_
   rintro r w1 ⟨rfl, hb1⟩
   obtain ⟨B, hB⟩ : ∃ B, w1.heap.size = B := ⟨_, rfl⟩
   have hNB : N ≤ B := by have := hb1.size; have := HWA.out.2; omega
   have hg1 : GxAt w N B xs none 0 0 none 0 0 k1 q1 e1 (w1.alloc (.cells (PC xs q1 e1 none 0 0 none 0 0 k1) 111)) := by
    refine ⟨by rw [← hB]; exact heap_alloc_new w1 _, Turns.of_below' ?_ hN⟩
    exact (HWA.out.1.trans (hb1.mono (by have := HWA.out.2; omega))).alloc (by rw [hB]; exact hNB) _
   have HG1 := hid hg1
   obtain ⟨p0, p1, p2, p3, p4, p5⟩ := cC6 hg1.box
   simp at p0 p1 p2 p3 p4 p5
   clear hg1 hb1 HWA HCKA
   go_wp2_with fail
   generalize w1.alloc (.cells (PC xs q1 e1 none 0 0 none 0 0 k1) 111) = w2 at HG1 p0 p1 p2 p3 p4 p5 ⊢
   clear hB
   refine (HN2.out _).mono ?_
   rintro r w3 ⟨rfl, hb3⟩
   clear p0 p1 p2 p3 p4 p5
   obtain ⟨hg', hx'⟩ := HG1.out.next hN hNB (Turns.of_below hb3 (by have := HG1.out.box.lt; omega)) none 0 0 none 0 0 M q2 0
   have HG := hid hg'
   obtain ⟨⟨f0, f1, f2, f3, f4, f5⟩, z0, z1, z2, z3, z4, z5⟩ := cG6 hx'
   simp at z0 z1 z2 z3 z4 z5
   obtain ⟨p0, p1, p2, p3, p4, p5⟩ := cC6 hg'.box
   simp at p0 p1 p2 p3 p4 p5
   clear hx' hg'
   go_wp2_with fail
   generalize ((((((w3.setCell ⟨B, 0, none⟩ (.string (strOfNums xs))).setCell ⟨B, 1, none⟩ (.int .i64 q2)).setCell ⟨B, 2, none⟩ (.int .i64 0)).setCell ⟨B, 3, none⟩ (.slice none 0 0)).setCell ⟨B, 4, none⟩ (.slice none 0 0)).setCell ⟨B, 5, none⟩ (.int .u64 M)) = w4 at HG p0 p1 p2 p3 p4 p5  ⊢
   clear f0 f1 f2 f3 f4 f5 z0 z1 z2 z3 z4 z5
   clear hb3 HG1
   clear p0 p1 p2 p3 p4 p5
   refine (HTX.out _).mono ?_
   rintro r w5 hgot
   obtain ⟨q', E', TA, TL, TC, n', rfl, hq', hE', hok', hb5⟩ := hgot
   rw [HTE.out] at hE' hok'
   simp only at hE' hok'
   subst E'
   by_cases hE3 : E3 = 0
   ·obtain ⟨hqq, hTL, hT5⟩ := hok' hE3
    subst hE3
    subst hTL
    subst hqq
    have hsz4 := HG.out.box.lt
    have HT5 := hid hT5
    clear hok' hT5 HXW
    obtain ⟨hg', hx'⟩ := HG.out.next hN hNB (Turns.of_below hb5 (by omega)) TA D.length TC none 0 0 n' q' 0
    have HG6 := hid hg'
    obtain ⟨⟨f0, f1, f2, f3, f4, f5⟩, z0, z1, z2, z3, z4, z5⟩ := cG6 hx'
    simp at z0 z1 z2 z3 z4 z5
    obtain ⟨p0, p1, p2, p3, p4, p5⟩ := cC6 hg'.box
    simp at p0 p1 p2 p3 p4 p5
    have HLX6 := hid (lx_start (k := (k1 : Int)) hg' hx' (grown_put6 w5 B (.string (strOfNums xs)) (.int .i64 q') (.int .i64 0) (.slice TA D.length TC) (.slice none 0 0) (.int .u64 n')) HT5.out (by omega) hq')
    clear hx' hg'
    go_wp2_with fail
    generalize ((((((w5.setCell ⟨B, 0, none⟩ (.string (strOfNums xs))).setCell ⟨B, 1, none⟩ (.int .i64 q')).setCell ⟨B, 2, none⟩ (.int .i64 0)).setCell ⟨B, 3, none⟩ (.slice TA D.length TC)).setCell ⟨B, 4, none⟩ (.slice none 0 0)).setCell ⟨B, 5, none⟩ (.int .u64 n')) = w6 at HG6 p0 p1 p2 p3 p4 p5 HLX6 ⊢
    clear f0 f1 f2 f3 f4 f5 z0 z1 z2 z3 z4 z5
    clear p0 p1 p2 p3 p4 p5 hb5 HG HG6 hsz4 HT5 hq3
    go_loopg [11] M (fun gk i wr => ∃ (j q : Nat) (LA : Option Addr) (LL LC : Nat) (n : Int), j ≤ M ∧ i = .int .i64 j ∧ Hid (M - j = gk) ∧ Hid (LxAt w N B xs D TA TC LA LL LC n q (F j) wr))
    case atStart => exact ⟨0, _, none, 0, 0, _, Nat.zero_le _, rfl, hid rfl, hid (by rw [HF0.out]; exact HLX6.out)⟩
    case round =>
     obtain ⟨j, q, LA, LL, LC, n, hj, rfl, HGK, HLX⟩ := hrel
     have hlx := HLX.out
     clear HLX6
     obtain ⟨⟨f0, f1, f2, f3, f4, f5⟩, z0, z1, z2, z3, z4, z5⟩ := cG6 hlx.gx.box
     simp at z0 z1 z2 z3 z4 z5
     by_cases hgo : j < M ∧ (F j).2.2.2 = 0
     ·obtain ⟨hlt, he⟩ := hgo
      rw [he] at z2
      obtain ⟨hq0, ps, hLL, hL, hps⟩ := hlx.ok he
      subst hLL
      obtain ⟨h0, hD, hb⟩ := HKK.out
      obtain ⟨b, hbj⟩ : ∃ b, ((j : Int) == 0) = b := ⟨_, rfl⟩
      have hbd : b = decide (j = 0) := by rw [← hbj]; by_cases h : j = 0 <;> simp [h]
      have hpl : ps.length = j := by have h := congrArg List.length hps; rw [List.length_map, HFL.out] at h; exact h
      have HCALL := hid (ppoint_any (n := n) (base := (k1 : Int)) A c (i := j) (tm := (F j).2.1) (b := b) (p := q) hlx.qle hl hb hlx.txt hDl hD hL (by omega) (by have := hlx.gx.box.lt; omega) (HSIG.out wr N hlx.gx.trn (Nat.le_refl _)) h0 (HFR.out j).2 hbd (fun h => by subst h; rw [HF0.out]) (fun h => last_tm hps (by rw [HFL.out]; omega) (HFT.out j h)))
      have HMO := hid (fun (w7 : World) (q' : Nat) (e' : Int) (A' : Option Addr) (c' : Nat) (n' : Int) ht hq' hE' hok => LxAt.more (w7 := w7) (q' := q') (e' := e') (A' := A') (c' := c') (n' := n') (R := ptU (ds.map (·.p)) D xs j ((F j).2.1, q, 0)) hlx hN hNB hps ht hq' hE' hok)
      have HNX := hid (show F (j + 1) = ((F j).1 ++ [(ptU (ds.map (·.p)) D xs j ((F j).2.1, q, 0)).1], (ptU (ds.map (·.p)) D xs j ((F j).2.1, q, 0)).2) by
       have e : (F j).2 = ((F j).2.1, q, 0) := by rw [hq0, ← he]
       rw [HFS.out, ← e])
      clear hlx hL hps h0 hD hb hq0 he hpl hbd
      go_wp2_with fail
      refine HCALL.out.mono ?_
      rintro rr w7 hgot
      obtain ⟨q2', E2, A2, c2, n2, rfl, hq2', hE2, hok2, htn⟩ := hgot
      obtain ⟨hmore, hx7⟩ := HMO.out w7 q2' E2 A2 c2 n2 htn hq2' hE2 hok2
      rw [← HNX.out] at hmore
      have HMORE := hid hmore
      clear hmore hok2 htn hE2 HCALL HMO f0 f1 f2 f3 f4 f5 z0 z1 z2 z3 z4 z5
      obtain ⟨⟨f0, f1, f2, f3, f4, f5⟩, z0, z1, z2, z3, z4, z5⟩ := cG6 hx7
      simp at z0 z1 z2 z3 z4 z5
      clear hx7
      go_wp2_with fail
      generalize ((((((w7.setCell ⟨B, 0, none⟩ (.string (strOfNums xs))).setCell ⟨B, 1, none⟩ (.int .i64 q2')).setCell ⟨B, 2, none⟩ (.int .i64 E2)).setCell ⟨B, 3, none⟩ (.slice TA D.length TC)).setCell ⟨B, 4, none⟩ (.slice A2 (ps.length + 1) c2)).setCell ⟨B, 5, none⟩ (.int .u64 n2)) = w8 at HMORE ⊢
      go_roundg (M - (j + 1))
      case measure => have := HGK.out; omega
      case rel => exact ⟨j + 1, q2', A2, ps.length + 1, c2, n2, by omega, by go_num, hid rfl, HMORE⟩
     ·by_cases he : (F j).2.2.2 ≠ 0
      ·have hne : ((F j).2.2.2 == 0) = false := beq_eq_false_iff_ne.2 he
       have hnb : ((F j).2.2.2 != 0) = true := bne_iff_ne.2 he
       have HEE := hid (HFE.out j M he hj)
       have HE0 := hid he
       clear hgo he hlx
       by_cases hlt : j < M
       ·go_wp2_with fail
        go_quiet (fail)
        go_wp2_with fail
        go_ret2
        exact rgot_none (by rw [HGE.out (by rw [HEE.out]; exact HE0.out), HEE.out]) rfl (by rw [hN]; exact below_drewN HLX.out.gx.trn.1 _)
       ·go_wp2_with fail
        go_quiet (fail)
        go_wp2_with fail
        go_ret2
        exact rgot_none (by rw [HGE.out (by rw [HEE.out]; exact HE0.out), HEE.out]) rfl (by rw [hN]; exact below_drewN HLX.out.gx.trn.1 _)
      ·have he : (F j).2.2.2 = 0 := Classical.byContradiction he
       have hjm : j = M := Classical.byContradiction fun h => hgo ⟨by omega, he⟩
       subst hjm
       rw [he] at z2
       obtain ⟨hq0, ps, hLL, hL, hps⟩ := hlx.ok he
       subst hLL
       rw [← hq0] at HGL HGG HGO HGY
       have HGX := hid (show GxAt w N B xs TA D.length TC LA ps.length LC n q 0 wr from by rw [← he]; exact hlx.gx)
       have HWL := hid (HGL.out he)
       have HWG := hid (HGG.out he)
       have HWO := hid (HGO.out he)
       have HWY := hid (HGY.out he)
       have HL := hid hL
       have HPS := hid hps
       clear hgo hlx he hq0 hL hps HGE HGL HGG HGO HGY HFE HFT HFR HF0 HFS HLX
       by_cases hleft : q < xs.length
       ·have HWHY := hid (HWL.out hleft)
        have HBAD := hid (fun W => pbad_any (xs := xs) (p := q) (e := 0) (TA := TA) (TL := D.length) (TC := TC) (LA := LA) (LL := ps.length) (LC := LC) (n := n) (w := W) 4)
        rw [stU_zero] at HBAD
        clear HWL HWG HWO HWY HL HPS
        go_wp2_with fail
        refine (HBAD.out _).mono ?_
        rintro r w7 ⟨rfl, hb7⟩
        clear f0 f1 f2 f3 f4 f5 z0 z1 z2 z3 z4 z5
        obtain ⟨hg', hx'⟩ := HGX.out.next hN hNB (Turns.of_below hb7 (by have := HGX.out.box.lt; omega)) TA D.length TC LA ps.length LC n q 4
        have HG8 := hid hg'
        obtain ⟨⟨f0, f1, f2, f3, f4, f5⟩, z0, z1, z2, z3, z4, z5⟩ := cG6 hx'
        simp at z0 z1 z2 z3 z4 z5
        obtain ⟨p0, p1, p2, p3, p4, p5⟩ := cC6 hg'.box
        simp at p0 p1 p2 p3 p4 p5
        clear hx' hg'
        go_wp2_with fail
        generalize ((((((w7.setCell ⟨B, 0, none⟩ (.string (strOfNums xs))).setCell ⟨B, 1, none⟩ (.int .i64 q)).setCell ⟨B, 2, none⟩ (.int .i64 4)).setCell ⟨B, 3, none⟩ (.slice TA D.length TC)).setCell ⟨B, 4, none⟩ (.slice LA ps.length LC)).setCell ⟨B, 5, none⟩ (.int .u64 n)) = w8 at HG8 p0 p1 p2 p3 p4 p5  ⊢
        clear f0 f1 f2 f3 f4 f5 z0 z1 z2 z3 z4 z5
        go_quiet (fail)
        go_wp2_with fail
        go_ret2
        exact rgot_none (HWHY.out) rfl (by rw [hN]; exact below_drewN HG8.out.trn.1 _)
       ·by_cases hlong : 4096 < xs.length
        ·have hlong2 : (4096 : Int) < (xs.length : Int) := by omega
         have HWHY := hid (HWG.out hleft hlong)
         have HBAD := hid (fun W => pbad_any (xs := xs) (p := q) (e := 0) (TA := TA) (TL := D.length) (TC := TC) (LA := LA) (LL := ps.length) (LC := LC) (n := n) (w := W) 6)
         rw [stU_zero] at HBAD
         clear HWL HWG HWO HWY HL HPS
         go_wp2_with fail
         refine (HBAD.out _).mono ?_
         rintro r w7 ⟨rfl, hb7⟩
         clear f0 f1 f2 f3 f4 f5 z0 z1 z2 z3 z4 z5
         obtain ⟨hg', hx'⟩ := HGX.out.next hN hNB (Turns.of_below hb7 (by have := HGX.out.box.lt; omega)) TA D.length TC LA ps.length LC n q 6
         have HG8 := hid hg'
         obtain ⟨⟨f0, f1, f2, f3, f4, f5⟩, z0, z1, z2, z3, z4, z5⟩ := cG6 hx'
         simp at z0 z1 z2 z3 z4 z5
         obtain ⟨p0, p1, p2, p3, p4, p5⟩ := cC6 hg'.box
         simp at p0 p1 p2 p3 p4 p5
         clear hx' hg'
         go_wp2_with fail
         generalize ((((((w7.setCell ⟨B, 0, none⟩ (.string (strOfNums xs))).setCell ⟨B, 1, none⟩ (.int .i64 q)).setCell ⟨B, 2, none⟩ (.int .i64 6)).setCell ⟨B, 3, none⟩ (.slice TA D.length TC)).setCell ⟨B, 4, none⟩ (.slice LA ps.length LC)).setCell ⟨B, 5, none⟩ (.int .u64 n)) = w8 at HG8 p0 p1 p2 p3 p4 p5  ⊢
         clear f0 f1 f2 f3 f4 f5 z0 z1 z2 z3 z4 z5
         go_quiet (fail)
         go_wp2_with fail
         go_ret2
         exact rgot_none (HWHY.out) rfl (by rw [hN]; exact below_drewN HG8.out.trn.1 _)
        ·have HPUT := hid (fun (W : World) (h : Turns N w W) (hL : OwnT W N (.slice LA ps.length LC) ps) => rput14_any A c ds LA LC ps W (HSIG.out W W.heap.size h (by have := h.2.1; omega)) hL.row)
         have hpl : putB (ds.map (·.p)) ((F j).1.map bareP) = putB (ds.map (·.p)) ps := by rw [← HPS.out]; exact putB_plain _ _
         rw [hpl] at HWO HWY
         have HC := hid (HPUT.out wr HGX.out.trn HL.out)
         have hbok : (putB (ds.map (·.p)) ps).2 = 0 → ∀ x ∈ (putB (ds.map (·.p)) ps).1, 0 ≤ x ∧ x < 256 := fun h => by
          obtain ⟨q1, q2, q3⟩ := putB_ok h
          rw [q3]
          exact payB_bytes (HL.out.row.bok q1)
         have hlong2 : ¬ (4096 : Int) < (xs.length : Int) := by omega
         obtain ⟨h0, hD, hb⟩ := HKK.out
         clear HPUT hpl HWL HWG h0 hD
         generalize putB (ds.map (·.p)) ps = PB at HC hbok HWO HWY
         obtain ⟨Pl, k⟩ := PB
         simp only at HC hbok
         by_cases hk : k = 0
         ·subst hk
          by_cases hP : Pl = xs
          ·subst hP
           have HWHY := hid (HWY.out hleft hlong rfl)
           clear HWO HWY hbok hb hlong
           go_wp2_with fail
           refine HC.out.mono ?_
           rintro r w7 ⟨rfl, hb7⟩
           have hx7 := HGX.out.box.below hb7 HGX.out.box.lt
           have HB7 := hid (HGX.out.trn.1.trans (hb7.mono (by have := HGX.out.box.lt; omega)))
           have HL7 := hid (HL.out.below hb7)
           clear f0 f1 f2 f3 f4 f5 z0 z1 z2 z3 z4 z5 hb7
           obtain ⟨⟨f0, f1, f2, f3, f4, f5⟩, z0, z1, z2, z3, z4, z5⟩ := cG6 hx7
           simp at z0 z1 z2 z3 z4 z5
           clear hx7
           go_wp2_with fail
           go_ret2
           exact rgot_some HWHY.out rfl (by rw [hN]; exact HL7.out) HPS.out (by rw [hN]; exact HB7.out)
          ·have hse := str_ne (hbok rfl) hb hP
           have HWHY := hid (HWO.out hleft hlong (fun h => hP (congrArg Prod.fst h)))
           clear HWO HWY hbok hb hlong hP
           go_wp2_with fail
           refine HC.out.mono ?_
           rintro r w7 ⟨rfl, hb7⟩
           have HB7 := hid (HGX.out.trn.1.trans (hb7.mono (by have := HGX.out.box.lt; omega)))
           clear f0 f1 f2 f3 f4 f5 z0 z1 z2 z3 z4 z5 hb7
           go_wp2_with fail
           go_ret2
           exact rgot_none HWHY.out rfl (by rw [hN]; exact HB7.out)
         ·have hkn : (k != 0) = true := bne_iff_ne.2 hk
          have HWHY := hid (HWO.out hleft hlong (fun h => hk (congrArg Prod.snd h)))
          clear HWO HWY hbok hb hlong hk
          go_wp2_with fail
          refine HC.out.mono ?_
          rintro r w7 ⟨rfl, hb7⟩
          have HB7 := hid (HGX.out.trn.1.trans (hb7.mono (by have := HGX.out.box.lt; omega)))
          clear f0 f1 f2 f3 f4 f5 z0 z1 z2 z3 z4 z5 hb7
          go_wp2_with fail
          go_ret2
          exact rgot_none HWHY.out rfl (by rw [hN]; exact HB7.out)
   ·have hne : (E3 == 0) = false := beq_eq_false_iff_ne.2 hE3
    have hnb : (E3 != 0) = true := bne_iff_ne.2 hE3
    have HWHY := hid (HXW.out hE3)
    clear hok' hE3 HXW HGE HGL HGG HGO HGY HF0 HFS HFL HFR HFE HFT HKK HSIG
    obtain ⟨hg', hx'⟩ := HG.out.next hN hNB (Turns.of_below hb5 (by have := HG.out.box.lt; omega)) TA TL TC none 0 0 n' q' E3
    have HG6 := hid hg'
    obtain ⟨⟨f0, f1, f2, f3, f4, f5⟩, z0, z1, z2, z3, z4, z5⟩ := cG6 hx'
    simp at z0 z1 z2 z3 z4 z5
    obtain ⟨p0, p1, p2, p3, p4, p5⟩ := cC6 hg'.box
    simp at p0 p1 p2 p3 p4 p5
    clear hx' hg'
    go_wp2_with fail
    generalize ((((((w5.setCell ⟨B, 0, none⟩ (.string (strOfNums xs))).setCell ⟨B, 1, none⟩ (.int .i64 q')).setCell ⟨B, 2, none⟩ (.int .i64 E3)).setCell ⟨B, 3, none⟩ (.slice TA TL TC)).setCell ⟨B, 4, none⟩ (.slice none 0 0)).setCell ⟨B, 5, none⟩ (.int .u64 n')) = w6 at HG6 p0 p1 p2 p3 p4 p5  ⊢
    clear f0 f1 f2 f3 f4 f5 z0 z1 z2 z3 z4 z5
    clear p0 p1 p2 p3 p4 p5
    go_loopg [11] 0 (fun gk i wr => i = .int .i64 0 ∧ Hid (GxAt w N B xs TA TL TC none 0 0 n' q' E3 wr))
    case atStart => exact ⟨rfl, HG6⟩
    case round =>
     obtain ⟨rfl, HG7⟩ := hrel
     have hg7 := HG7.out
     obtain ⟨⟨f0, f1, f2, f3, f4, f5⟩, z0, z1, z2, z3, z4, z5⟩ := cG6 hg7.box
     simp at z0 z1 z2 z3 z4 z5
     clear hg7
     by_cases hlt : 0 < M
     ·go_wp2_with fail
      go_quiet (fail)
      go_wp2_with fail
      go_ret2
      exact rgot_none (HWHY.out) rfl (by rw [hN]; exact below_drewN HG7.out.trn.1 _)
     ·go_wp2_with fail
      go_quiet (fail)
      go_wp2_with fail
      go_ret2
      exact rgot_none (HWHY.out) rfl (by rw [hN]; exact below_drewN HG7.out.trn.1 _)
 ·have hMz : M = 0 := hM0e he2
  have hne2 : (e2 == 0) = false := beq_eq_false_iff_ne.2 he2
  have hnb2 : (e2 != 0) = true := bne_iff_ne.2 he2
  have HWHY := hid (HDEAD.out e2 (by rw [hMz]; exact stU_kept he2 4) he2)
  have HTE := hid (dictU_stop (xs := xs) (p := q2) (e := e2) he2)
  have HTX := hid (fun W => HTXS.out e2 W)
  clear hMz HLV hM0e HTXS HDEAD he2 hb
  generalize getU (ds.map (·.p)) xs = R at HWHY ⊢
  go_enter Tryz.func12, Tryz.ntmps12
  go_wp2_with fail
  generalize w.alloc (.cells #[] 51) = wa at HWA HCKA ⊢
  refine HCKA.out.mono ?_
  rintro r w0 ⟨rfl, rfl⟩
  go_wp2_with fail
  refine (HN1.out _).mono ?_
  rintro r w1 ⟨rfl, hb1⟩
  obtain ⟨B, hB⟩ : ∃ B, w1.heap.size = B := ⟨_, rfl⟩
  have hNB : N ≤ B := by have := hb1.size; have := HWA.out.2; omega
  have hg1 : GxAt w N B xs none 0 0 none 0 0 k1 q1 e1 (w1.alloc (.cells (PC xs q1 e1 none 0 0 none 0 0 k1) 111)) := by
   refine ⟨by rw [← hB]; exact heap_alloc_new w1 _, Turns.of_below' ?_ hN⟩
   exact (HWA.out.1.trans (hb1.mono (by have := HWA.out.2; omega))).alloc (by rw [hB]; exact hNB) _
  have HG1 := hid hg1
  obtain ⟨p0, p1, p2, p3, p4, p5⟩ := cC6 hg1.box
  simp at p0 p1 p2 p3 p4 p5
  clear hg1 hb1 HWA HCKA
  go_wp2_with fail
  generalize w1.alloc (.cells (PC xs q1 e1 none 0 0 none 0 0 k1) 111) = w2 at HG1 p0 p1 p2 p3 p4 p5 ⊢
  clear hB
  refine (HN2.out _).mono ?_
  rintro r w3 ⟨rfl, hb3⟩
  clear p0 p1 p2 p3 p4 p5
  obtain ⟨hg', hx'⟩ := HG1.out.next hN hNB (Turns.of_below hb3 (by have := HG1.out.box.lt; omega)) none 0 0 none 0 0 M q2 e2
  have HG := hid hg'
  obtain ⟨⟨f0, f1, f2, f3, f4, f5⟩, z0, z1, z2, z3, z4, z5⟩ := cG6 hx'
  simp at z0 z1 z2 z3 z4 z5
  obtain ⟨p0, p1, p2, p3, p4, p5⟩ := cC6 hg'.box
  simp at p0 p1 p2 p3 p4 p5
  clear hx' hg'
  go_wp2_with fail
  generalize ((((((w3.setCell ⟨B, 0, none⟩ (.string (strOfNums xs))).setCell ⟨B, 1, none⟩ (.int .i64 q2)).setCell ⟨B, 2, none⟩ (.int .i64 e2)).setCell ⟨B, 3, none⟩ (.slice none 0 0)).setCell ⟨B, 4, none⟩ (.slice none 0 0)).setCell ⟨B, 5, none⟩ (.int .u64 M)) = w4 at HG p0 p1 p2 p3 p4 p5  ⊢
  clear f0 f1 f2 f3 f4 f5 z0 z1 z2 z3 z4 z5
  clear hb3 HG1
  clear p0 p1 p2 p3 p4 p5
  refine (HTX.out _).mono ?_
  rintro r w5 hgot
  obtain ⟨q', E', TA', TL', TC', n', rfl, hq', hE', -, hb5⟩ := hgot
  rw [HTE.out] at hE'
  subst E'
  obtain ⟨hg', hx'⟩ := HG.out.next hN hNB (Turns.of_below hb5 (by have := HG.out.box.lt; omega)) TA' TL' TC' none 0 0 n' q' e2
  have HG6 := hid hg'
  obtain ⟨⟨f0, f1, f2, f3, f4, f5⟩, z0, z1, z2, z3, z4, z5⟩ := cG6 hx'
  simp at z0 z1 z2 z3 z4 z5
  obtain ⟨p0, p1, p2, p3, p4, p5⟩ := cC6 hg'.box
  simp at p0 p1 p2 p3 p4 p5
  clear hx' hg'
  go_wp2_with fail
  generalize ((((((w5.setCell ⟨B, 0, none⟩ (.string (strOfNums xs))).setCell ⟨B, 1, none⟩ (.int .i64 q')).setCell ⟨B, 2, none⟩ (.int .i64 e2)).setCell ⟨B, 3, none⟩ (.slice TA' TL' TC')).setCell ⟨B, 4, none⟩ (.slice none 0 0)).setCell ⟨B, 5, none⟩ (.int .u64 n')) = w6 at HG6 p0 p1 p2 p3 p4 p5  ⊢
  clear f0 f1 f2 f3 f4 f5 z0 z1 z2 z3 z4 z5
  clear p0 p1 p2 p3 p4 p5
  go_loopg [11] 0 (fun gk i wr => i = .int .i64 0 ∧ Hid (GxAt w N B xs TA' TL' TC' none 0 0 n' q' e2 wr))
  case atStart => exact ⟨rfl, HG6⟩
  case round =>
   obtain ⟨rfl, HG7⟩ := hrel
   have hg7 := HG7.out
   obtain ⟨⟨f0, f1, f2, f3, f4, f5⟩, z0, z1, z2, z3, z4, z5⟩ := cG6 hg7.box
   simp at z0 z1 z2 z3 z4 z5
   clear hg7
   by_cases hlt : 0 < M
   ·go_wp2_with fail
    go_quiet (fail)
    go_wp2_with fail
    go_ret2
    exact rgot_none (HWHY.out) rfl (by rw [hN]; exact below_drewN HG7.out.trn.1 _)
   ·go_wp2_with fail
    go_quiet (fail)
    go_wp2_with fail
    go_ret2
    exact rgot_none (HWHY.out) rfl (by rw [hN]; exact below_drewN HG7.out.trn.1 _)
theorem byte1_any (A : Option Addr) (c : Nat) (ys : List Int) (w : World) (hrow : Row w w.heap.size (.slice A ys.length c) ys) :
  Calls Tryz.prog 209 #[.slice A ys.length c] w (Found u8V w (getB ys)) := by
 cases ys with
 | nil =>
  clear hrow
  go_enter Tryz.func209, Tryz.ntmps209
  go_wp2_with fail
  go_ret3
  exact ⟨rfl, Below.refl _ _⟩
 | cons y r =>
  obtain ⟨A', c', hv, _, _, _, h4⟩ := hrow
  injection hv with e1 _ e3
  subst e1 e3
  obtain ⟨b, o, rfl, _, hc⟩ := h4 (by simp)
  have hc0 := hc 0 (by simp)
  simp at hc0
  clear hc h4
  have hl : (r.length : Int) + 1 ≠ 0 := by omega
  have hl2 : ((r.length : Int) + 1 == 0) = false := beq_eq_false_iff_ne.2 hl
  have hl3 : (0 : Int) < (r.length : Int) + 1 := by omega
  have hl4 : 0 < r.length + 1 := by omega
  go_enter Tryz.func209, Tryz.ntmps209
  go_wp2_with fail
  go_ret3
  exact ⟨rfl, Below.refl _ _⟩
theorem take_b_any {K g : Nat} {xs : List Int} {p : Nat} {e : Int} {w : World} (h : Cur 174 w K g xs p e) (hp : p ≤ xs.length) (hK : K ≤ g) (_hb : ∀ x ∈ xs, 0 ≤ x ∧ x < 256) :
  Calls Tryz.prog 208 #[.pointer (some ⟨g, 0, none⟩), .func (.func 209) #[] #[]] w (Took u8V w K g xs (tk 0 p e (getB (xs.drop p)))) := by
 obtain ⟨A, c, c0, c1, c2, f1, f2, hr, hl, hc⟩ := h.cells
 have hg := h.lt
 by_cases he : e = 0
 ·subst he
  have hrest := Cur.rest (w := w.drew) (p := p) (hr.keep (fun _ _ => rfl)) (Nat.le_of_lt hg) hp
  have hfits := (getB_fits (xs.drop p)).1
  rw [List.length_drop] at hfits
  have hcall := byte1_any _ _ (xs.drop p) w.drew (by rw [List.length_drop]; exact hrest)
  rw [List.length_drop] at hcall
  clear hrest hr _hb
  generalize getB (xs.drop p) = t at hfits hcall
  obtain ⟨v, s, er⟩ := t
  have HC := hid h; clear h
  have i0 : (0 : Int) ≤ (p : Int) := by omega
  have i1 : (p : Int) ≤ (xs.length : Int) := by omega
  rcases Nat.decEq c p with hcp | hcp
  ·rw [if_neg hcp] at hcall
   have HCALL := hid hcall; clear hcall
   by_cases her : er = 0
   ·subst her
    have hs : s ≤ xs.length - p := hfits rfl
    clear hfits
    rw [tk_ok rfl]
    go_enter Tryz.func208, Tryz.ntmps208
    go_wp2_with fail
    go_region_held3 (fun w' => w'.cell? ⟨g, 0, none⟩ = some (.slice A xs.length c) ∧ w'.cell? ⟨g, 1, none⟩ = some (.int .i64 p)) (first | go_keep | (refine ⟨(hb1.cell (p := ⟨g, 0, none⟩) hg).trans c0, (hb1.cell (p := ⟨g, 1, none⟩) hg).trans c1⟩))
     (first | ((with_reducible refine HCALL.out.mono ?_); rintro r w1 ⟨rfl, hb1⟩))
    have hc1 : Cur 174 w1 K g xs p 0 := (HC.out.keep (w' := w.drew) (fun _ _ _ => rfl) hK).below hb1 hK
    obtain ⟨A1, c', d0, d1, d2, k1, k2, _, _, _⟩ := hc1.cells
    have HC1 := hid hc1; clear hc1
    go_wp2_with fail
    go_ret
    refine ⟨rfl, ?_, grown_trans (grown_drew (grown_below (a := w.drew) hb1 _)) (grown_put _ _ _ _)⟩
    have hat := HC1.out.at_ (p + s)
    rw [Int.natCast_add] at hat
    exact hat
   ·have hne : (er != 0) = true := by simpa using her
    clear hfits
    rw [tk_err her]
    have hst : stopI 0 er = er := rfl
    have HST := hid hst; clear hst
    go_enter Tryz.func208, Tryz.ntmps208
    go_wp2_with fail
    go_region_held3 (fun w' => w'.cell? ⟨g, 0, none⟩ = some (.slice A xs.length c) ∧ w'.cell? ⟨g, 1, none⟩ = some (.int .i64 p)) (first | go_keep | (refine ⟨(hb1.cell (p := ⟨g, 0, none⟩) hg).trans c0, (hb1.cell (p := ⟨g, 1, none⟩) hg).trans c1⟩))
     (first | ((with_reducible refine HCALL.out.mono ?_); rintro r w1 ⟨rfl, hb1⟩))
    have HC1 : Hid (Cur 174 w1 K g xs p 0) := (HC.out.keep (w' := w.drew) (fun _ _ _ => rfl) hK).below hb1 hK
    go_wp2_with fail
    refine (stop_any er HC1.out).mono ?_
    rintro r w2 ⟨rfl, hc2, hg2⟩
    rw [HST.out] at hc2
    have HC2 := hid hc2; clear hc2
    go_wp2_with fail
    go_ret
    exact ⟨rfl, HC2.out, grown_trans (grown_drew (grown_below (a := w.drew) hb1 _)) hg2⟩
  ·have hcp' := hcp.symm
   subst hcp'
   rw [if_pos rfl, Nat.sub_self, Nat.sub_eq_zero_of_le hl] at hcall
   have HCALL := hid hcall; clear hcall hcp
   by_cases her : er = 0
   ·subst her
    have hs : s ≤ xs.length - p := hfits rfl
    clear hfits
    rw [tk_ok rfl]
    go_enter Tryz.func208, Tryz.ntmps208
    go_wp2_with fail
    go_region_held3 (fun w' => w'.cell? ⟨g, 0, none⟩ = some (.slice A xs.length p) ∧ w'.cell? ⟨g, 1, none⟩ = some (.int .i64 p)) (first | go_keep | (refine ⟨(hb1.cell (p := ⟨g, 0, none⟩) hg).trans c0, (hb1.cell (p := ⟨g, 1, none⟩) hg).trans c1⟩))
     (first | ((with_reducible refine HCALL.out.mono ?_); rintro r w1 ⟨rfl, hb1⟩))
    have hc1 : Cur 174 w1 K g xs p 0 := (HC.out.keep (w' := w.drew) (fun _ _ _ => rfl) hK).below hb1 hK
    obtain ⟨A1, c', d0, d1, d2, k1, k2, _, _, _⟩ := hc1.cells
    have HC1 := hid hc1; clear hc1
    go_wp2_with fail
    go_ret
    refine ⟨rfl, ?_, grown_trans (grown_drew (grown_below (a := w.drew) hb1 _)) (grown_put _ _ _ _)⟩
    have hat := HC1.out.at_ (p + s)
    rw [Int.natCast_add] at hat
    exact hat
   ·have hne : (er != 0) = true := by simpa using her
    clear hfits
    rw [tk_err her]
    have hst : stopI 0 er = er := rfl
    have HST := hid hst; clear hst
    go_enter Tryz.func208, Tryz.ntmps208
    go_wp2_with fail
    go_region_held3 (fun w' => w'.cell? ⟨g, 0, none⟩ = some (.slice A xs.length p) ∧ w'.cell? ⟨g, 1, none⟩ = some (.int .i64 p)) (first | go_keep | (refine ⟨(hb1.cell (p := ⟨g, 0, none⟩) hg).trans c0, (hb1.cell (p := ⟨g, 1, none⟩) hg).trans c1⟩))
     (first | ((with_reducible refine HCALL.out.mono ?_); rintro r w1 ⟨rfl, hb1⟩))
    have HC1 : Hid (Cur 174 w1 K g xs p 0) := (HC.out.keep (w' := w.drew) (fun _ _ _ => rfl) hK).below hb1 hK
    go_wp2_with fail
    refine (stop_any er HC1.out).mono ?_
    rintro r w2 ⟨rfl, hc2, hg2⟩
    rw [HST.out] at hc2
    have HC2 := hid hc2; clear hc2
    go_wp2_with fail
    go_ret
    exact ⟨rfl, HC2.out, grown_trans (grown_drew (grown_below (a := w.drew) hb1 _)) hg2⟩
 ·rw [tk_stopped he]
  have hne : (e != 0) = true := by simpa using he
  have HC := hid h; clear h hr
  go_enter Tryz.func208, Tryz.ntmps208
  go_wp2_with fail
  go_ret
  exact ⟨rfl, HC.out, World.grownBy.refl _ _⟩
section
variable {K g : Nat} {xs : List Int} {p : Nat} {e : Int} {w : World}
theorem byte_any (h : Cur 174 w K g xs p e) (hp : p ≤ xs.length) (hK : K ≤ g) (hb : ∀ x ∈ xs, 0 ≤ x ∧ x < 256) :
  Calls Tryz.prog 188 #[.pointer (some ⟨g, 0, none⟩)] w (Took u8V w K g xs (tk 0 p e (getB (xs.drop p)))) := by
 have HT := hid (take_b_any h hp hK hb); clear h hb
 go_enter Tryz.func188, Tryz.ntmps188
 go_wp2_with fail
 refine HT.out.mono ?_
 rintro r w1 ⟨rfl, hc1, hg1⟩
 go_wp2_with fail
 go_ret
 exact ⟨rfl, hc1, hg1⟩
end
section
variable {K g : Nat} {xs : List Int} {p : Nat} {e : Int} {w : World}
theorem left_any (h : Cur 174 w K g xs p e) (hp : p ≤ xs.length) :
  Calls Tryz.prog 100 #[.pointer (some ⟨g, 0, none⟩)] w fun r w' => r = .returned (.int .i64 ((xs.length - p : Nat) : Int)) ∧ ∃ n, w' = w.drewN n := by
 obtain ⟨A, c, c0, c1, c2, f1, f2, hr, hl, hc⟩ := h.cells
 clear h hr
 have hv : (((xs.length - p : Nat) : Nat) : Int) = (xs.length : Int) - (p : Int) := by omega
 rw [hv]
 clear hv
 generalize xs.length = L at *
 have hw : IntKind.i64.wrap ((L : Int) - (p : Int)) = (L : Int) - (p : Int) := IntWalk.i64_in _ (by omega)
 go_enter Tryz.func100, Tryz.ntmps100
 go_wp2_with fail
 go_quiet (fail)
 go_wp2_with fail
 go_ret
 exact ⟨rfl, _, rfl⟩
end
def doneI (n p : Nat) (e : Int) : Bool × Int := if e = 0 then if p < n then (false, 4) else (true, 0) else (false, e)
theorem done_any {K g : Nat} {xs : List Int} {p : Nat} {e : Int} {w : World} (h : Cur 174 w K g xs p e) (hp : p ≤ xs.length) (hK : K ≤ g) :
  Calls Tryz.prog 46 #[.pointer (some ⟨g, 0, none⟩)] w fun r w' => r = .returned (.bool (doneI xs.length p e).1) ∧ Cur 174 w' K g xs p (doneI xs.length p e).2 ∧ w.grownBy w' (some g) := by
 have HC := hid h; clear h
 by_cases hlt : p < xs.length
 ·have hl0 : (0 : Int) < ((xs.length - p : Nat) : Int) := by omega
  have hl1 : 0 < xs.length - p := by omega
  have hd : doneI xs.length p e = (false, stopI e 4) := by
   unfold doneI stopI
   by_cases he : e = 0
   ·rw [if_pos he, if_pos he, if_pos hlt]
   ·rw [if_neg he, if_neg he]
  have hne : (stopI e 4 == 0) = false := by
   unfold stopI
   split
   ·rfl
   ·exact beq_eq_false_iff_ne.2 ‹_›
  obtain ⟨e2, he2⟩ : ∃ e2, stopI e 4 = e2 := ⟨_, rfl⟩
  rw [hd, he2]
  rw [he2] at hne
  have HE := hid he2; clear he2 hd
  go_enter Tryz.func46, Tryz.ntmps46
  go_wp2_with fail
  refine (left_any HC.out hp).mono ?_
  rintro r w1 ⟨rfl, n1, rfl⟩
  have HC1 : Hid (Cur 174 (w.drewN n1) K g xs p e) := HC.out.keep (fun _ _ _ => rfl) hK
  go_wp2_with fail
  refine (stop_any 4 HC1.out).mono ?_
  rintro r w2 ⟨rfl, hc2, hg2⟩
  rw [HE.out] at hc2
  obtain ⟨A, c, c0, c1, c2, f1, f2, hr, _, _⟩ := hc2.cells
  have HC2 := hid hc2; clear hc2 hr
  go_wp2_with fail
  go_ret
  exact ⟨rfl, HC2.out, ⟨hg2.os, hg2.tape, hg2.output, hg2.size, hg2.block⟩⟩
 ·have hz : xs.length - p = 0 := by omega
  have hd : doneI xs.length p e = (e == 0, e) := by
   unfold doneI
   by_cases he : e = 0
   ·rw [if_pos he, if_neg hlt, he]; rfl
   ·rw [if_neg he, beq_eq_false_iff_ne.2 he]
  rw [hd]
  clear hd
  obtain ⟨A, c, c0, c1, c2, f1, f2, hr, _, _⟩ := HC.out.cells
  clear hr
  have hl := left_any HC.out hp
  rw [hz] at hl
  have HL := hid hl; clear hl hz
  go_enter Tryz.func46, Tryz.ntmps46
  go_wp2_with fail
  refine HL.out.mono ?_
  rintro r w1 ⟨rfl, n1, rfl⟩
  go_wp2_with fail
  go_ret
  exact ⟨rfl, HC.out.keep (fun _ _ _ => rfl) hK, grown_drewN (World.grownBy.refl _ _) n1⟩
theorem bargs_any {K g n : Nat} {xs : List Int} {p : Nat} {e : Int} {w : World} (h : Cur 174 w K g xs p e) (hp : p ≤ xs.length) (hK : K ≤ g) (hb : ∀ x ∈ xs, 0 ≤ x ∧ x < 256) (hnw : n ≤ w.heap.size) :
  Calls Tryz.prog 214 #[.agg #[.pointer (some ⟨g, 0, none⟩)]] w fun r w' => ∃ A c, r = .returned (.slice A (argsC xs p e).1.length c) ∧ w'.ownsRow n 3 1 (.slice A (argsC xs p e).1.length c) (argsC xs p e).1.length ((argsC xs p e).1.map (.int .i64)) ∧
   Cur 174 w' K g xs (argsC xs p e).2.1 (argsC xs p e).2.2 ∧ w.grownBy w' (some g) := by
 obtain ⟨i0, hi, hz0, hz1, hz2⟩ := info_parts Tryz.infoIntB
 have h1 := h.below ((Below.refl _ _).alloc (Nat.le_refl _) (.cells #[.pointer (some ⟨g, 0, none⟩)] 282)) hK
 have HNUM := hid (number_any 8 h1 hp hK hb)
 obtain ⟨⟨N, hN, hN8⟩, _, hq⟩ := tkN_range (e := e) hb 8 hp
 have hN : (tk 0 p e (getN 8 (xs.drop p))).1 = (N : Int) := hN
 have hq : (tk 0 p e (getN 8 (xs.drop p))).2.1 ≤ xs.length := hq
 unfold argsC
 generalize tk 0 p e (getN 8 (xs.drop p)) = t at HNUM hN hq ⊢
 obtain ⟨Ni, q, e2⟩ := t
 simp only at hN hq ⊢
 subst hN
 rw [Int.toNat_natCast]
 have HBX0 := hid (show Held (w.alloc (.cells #[.pointer (some ⟨g, 0, none⟩)] 282)) w.heap.size 282 #[.pointer (some ⟨g, 0, none⟩)] from heap_alloc_new w _)
 have HLE := hid (fun j => stB_le (xs := xs) (e := e2) hq j)
 have HL := hid (stB_length (xs := xs) (p := q) (e := e2) N)
 have HBY0 := hid hb
 have HGL := hid h.lt
 clear h h1 hb hp hq
 go_enter Tryz.func214, Tryz.ntmps214
 go_wp2_with fail
 refine HNUM.out.mono ?_
 rintro r w1 ⟨rfl, hc1, hg1⟩
 simp only [u64V]
 have HC1 := hid hc1
 have HBX1 := hid (HBX0.out.grown hg1 (fun e => by have := HGL.out; injection e with e; omega))
 have HG1 := hid (grown_trans (grown_alloc w (.cells #[.pointer (some ⟨g, 0, none⟩)] 282) (some g)) hg1)
 clear hc1 hg1
 go_wp2_with fail
 go_loopg [7, 3] N (fun gk i v wr => ∃ (j : Nat) (A : Option Addr) (c : Nat), j ≤ N ∧ i = .int .u64 j ∧ v = .slice A j c ∧ Hid (N - j = gk) ∧ Hid (Cur 174 wr K g xs (stB xs q e2 j).2.1 (stB xs q e2 j).2.2) ∧ Hid (Held wr w.heap.size 282 #[.pointer (some ⟨g, 0, none⟩)]) ∧ Hid (wr.ownsRow (w.heap.size + 1) 3 1 (.slice A j c) j ((stB xs q e2 j).1.map (.int .i64))) ∧ Hid (w.grownBy wr (some g)))
 case atStart => exact ⟨0, none, 0, Nat.zero_le _, rfl, rfl, hid rfl, HC1, HBX1, hid (World.ownsRow_nil _ _ _ _), HG1⟩
 case round =>
  obtain ⟨j, A, c, hj, rfl, rfl, HGK, HC, HBX, HOW, HGR⟩ := hrel
  by_cases hlt : j < N
  ·have hbox := HBX.out.cell 0
   simp at hbox
   have HBY := hid (byte_any HC.out (HLE.out j).2 hK HBY0.out)
   have hby := tkB_byte HBY0.out (stB xs q e2 j).2.1 (stB xs q e2 j).2.2
   have hnext : stB xs q e2 (j + 1) = ((stB xs q e2 j).1 ++ [(tk 0 (stB xs q e2 j).2.1 (stB xs q e2 j).2.2 (getB (xs.drop (stB xs q e2 j).2.1))).1], (tk 0 (stB xs q e2 j).2.1 (stB xs q e2 j).2.2 (getB (xs.drop (stB xs q e2 j).2.1))).2) := rfl
   generalize tk 0 (stB xs q e2 j).2.1 (stB xs q e2 j).2.2 (getB (xs.drop (stB xs q e2 j).2.1)) = t at HBY hby hnext
   obtain ⟨y, q3, e3⟩ := t
   simp only at hby hnext
   obtain ⟨y0, y1⟩ := hby
   have HNX := hid hnext
   have hws := HBX.out.lt
   clear hnext
   go_wp2_with fail
   refine HBY.out.mono ?_
   rintro r w2 ⟨rfl, hc2, hg2⟩
   simp only [u8V]
   have HC2 := hid hc2
   have HO2 := hid (World.ownsRow.kept HOW.out hg2 (.inr (own_low HOW.out (by have := HGL.out; omega))))
   have HBX2 := hid (HBX.out.grown hg2 (fun e => by have := HGL.out; injection e with e; omega))
   have HG2 := hid (grown_trans HGR.out hg2)
   have hs2 := HBX2.out.lt
   clear hc2 hg2 hbox
   go_wp2_with (at_builtin; refine wpList_append_own _ rfl _ _ 86 rfl (w.heap.size + 1) 3 i0 (.int .i64 0) 1 8 Tryz.underlying86 hi hz0 hz1 hz2 rfl (by decide) _ _ _ rfl (HO2.out.alloc _) ⟨w2.heap.size, 0, none⟩ 1 1 [.int .i64 y] rfl rfl (cell_one_new _ _ _) (by simp [Value.oneCell']) (by simp only [maxLen]; omega) (by omega) (by simp; omega) ?_; intro v3 w3 hown3 hg3 hn3)
   have hlow : ∀ i, (Value.slice A j c).ownBlock = some i → w.heap.size + 1 ≤ i := fun i e => (World.ownsRow.lt HO2.out i e).1
   have HC3 := hid ((HC2.out.below ((Below.refl _ _).alloc (Nat.le_refl _) (.cells #[.int .i64 y] 3)) hK).past hg3 hlow (by have := HGL.out; omega) hK)
   have HBX3 := hid ((HBX2.out.below ((Below.refl _ _).alloc (Nat.le_refl _) (.cells #[.int .i64 y] 3)) hs2).grown hg3 (fun e => by have := hlow _ e.symm; omega))
   have HG3 := hid (grown_past (grown_trans HG2.out (grown_alloc w2 (.cells #[.int .i64 y] 3) (some g))) hg3 (fun i e => by have := hlow i e; omega))
   have HEV := hid (show (stB xs q e2 j).1.map (Value.int .i64) ++ [.int .i64 y] = (stB xs q e2 (j + 1)).1.map (.int .i64) by rw [HNX.out]; simp)
   obtain ⟨A3, c3, rfl⟩ := own_form hown3
   have HO3 := hid hown3
   clear hown3 hg3 hn3 hlow
   go_wp2_with fail
   go_roundg (N - (j + 1))
   case measure => have := HGK.out; omega
   case rel => exact ⟨j + 1, A3, c3, by omega, by go_num, rfl, hid rfl, hid (by rw [HNX.out]; exact HC3.out), HBX3, hid (by rw [← HEV.out]; exact HO3.out), HG3⟩
  ·obtain rfl : j = N := by omega
   go_wp2_with fail
   go_ret
   rw [HL.out]
   exact ⟨A, c, rfl, own_base HOW.out (by omega), HC.out, HGR.out⟩
theorem OwnA.kept {w w' : World} {n m : Nat} {d : Pd} (h : OwnA w n d) (hg : w.grownBy w' (some m)) (hm : m < n) : OwnA w' n d := World.ownsRow.kept h hg (.inr (own_low h hm))
theorem OwnP.kept {w w' : World} {n m : Nat} {v : Value} {es : List Pd} (h : OwnP w n v es) (hg : w.grownBy w' (some m)) (hm : m < n) : OwnP w' n v es :=
 ⟨World.ownsRow.kept h.1 hg (.inr (own_low h.1 hm)), fun d hd => ⟨(h.2 d hd).1.kept hg hm, (h.2 d hd).2⟩⟩
theorem bpreds_any {K g n : Nat} {xs : List Int} {w : World} (h : Cur 174 w K g xs 0 0) (hK : K ≤ g) (hb : ∀ x ∈ xs, 0 ≤ x ∧ x < 256) (hl : xs.length ≤ 100000000000) (hnw : n ≤ w.heap.size) :
  Calls Tryz.prog 201 #[.agg #[.pointer (some ⟨g, 0, none⟩)]] w fun r w' => (∃ A c es, r = .returned (.slice A es.length c) ∧ OwnP w' n (.slice A es.length c) es ∧ es.map (·.p) = (predsC xs).1) ∧
   Cur 174 w' K g xs (predsC xs).2.1 (predsC xs).2.2 ∧ w.grownBy w' (some g) := by
 obtain ⟨i1, hi1, hy0, hy1, hy2⟩ := info_parts Tryz.infoPred
 have h1 := h.below ((Below.refl _ _).alloc (Nat.le_refl _) (.cells #[.pointer (some ⟨g, 0, none⟩)] 282)) hK
 have hnum := number_any 64 h1 (Nat.zero_le _) hK hb
 obtain ⟨⟨N, hN, hN8⟩, _, hq⟩ := tkN_range (e := 0) hb 64 (Nat.zero_le xs.length)
 have hN : (tk 0 0 0 (getN 64 (xs.drop 0))).1 = (N : Int) := hN
 have hq : (tk 0 0 0 (getN 64 (xs.drop 0))).2.1 ≤ xs.length := hq
 rw [List.drop_zero] at hnum hN hq
 have HNUM := hid hnum
 unfold predsC
 generalize tk 0 0 0 (getN 64 xs) = t at HNUM hN hq ⊢
 obtain ⟨Ni, q, e2⟩ := t
 simp only at hN hq ⊢
 subst hN
 rw [Int.toNat_natCast]
 have HBX0 := hid (show Held (w.alloc (.cells #[.pointer (some ⟨g, 0, none⟩)] 282)) w.heap.size 282 #[.pointer (some ⟨g, 0, none⟩)] from heap_alloc_new w _)
 have HLE := hid (fun j => stP_le (xs := xs) (e := e2) hb hq j)
 have HPL := hid (fun (p : Nat) (e : Int) (hp : p ≤ xs.length) => predC_le (e := e) hb hp)
 have HTL := hid (fun (p : Nat) (e : Int) (hp : p ≤ xs.length) => (tkT_le (e := e) hb 32 hp).2)
 have HBY0 := hid hb
 have HGL := hid h.lt
 clear h h1 hnum hb hq
 go_enter Tryz.func201, Tryz.ntmps201
 go_wp2_with fail
 refine HNUM.out.mono ?_
 rintro r w1 ⟨rfl, hc1, hg1⟩
 simp only [u64V]
 have HC1 := hid hc1
 have HBX1 := hid (HBX0.out.grown hg1 (fun e => by have := HGL.out; injection e with e; omega))
 have HG1 := hid (grown_trans (grown_alloc w (.cells #[.pointer (some ⟨g, 0, none⟩)] 282) (some g)) hg1)
 clear hc1 hg1
 go_wp2_with fail
 go_loopg [8, 3] N (fun gk i v wr => ∃ (j : Nat) (A : Option Addr) (c : Nat) (es : List Pd), j ≤ N ∧ i = .int .u64 j ∧ v = .slice A es.length c ∧ Hid (N - j = gk) ∧ Hid (Cur 174 wr K g xs (stP xs q e2 j).2.1 (stP xs q e2 j).2.2) ∧ Hid (Held wr w.heap.size 282 #[.pointer (some ⟨g, 0, none⟩)]) ∧ Hid (OwnP wr (w.heap.size + 1) (.slice A es.length c) es) ∧ Hid (es.map (·.p) = (stP xs q e2 j).1) ∧ Hid (w.grownBy wr (some g)))
 case atStart => exact ⟨0, none, 0, [], Nat.zero_le _, rfl, rfl, hid rfl, HC1, HBX1, hid (OwnP.nil _ _), hid rfl, HG1⟩
 case round =>
  obtain ⟨j, A, c, es, hj, rfl, rfl, HGK, HC, HBX, HOW, HES, HGR⟩ := hrel
  by_cases hlt : j < N
  ·have hbox := HBX.out.cell 0
   simp at hbox
   obtain ⟨hle, hjl⟩ := HLE.out j
   have HEL := hid (show es.length = j by have := congrArg List.length HES.out; rw [hjl, List.length_map] at this; exact this)
   have hnext : stP xs q e2 (j + 1) = ((stP xs q e2 j).1 ++ [(predC xs (stP xs q e2 j).2.1 (stP xs q e2 j).2.2).1], (predC xs (stP xs q e2 j).2.1 (stP xs q e2 j).2.2).2) := rfl
   generalize (stP xs q e2 j).2.1 = p0 at HC hle hnext
   generalize (stP xs q e2 j).2.2 = e0 at HC hnext
   have hpc := HPL.out p0 e0 hle
   have htl := HTL.out p0 e0 hle
   have HTX := hid (text_any 32 (by omega) (by omega) HC.out hle hK HBY0.out)
   have HAR0 := hid (fun (W : World) (hc : Cur 174 W K g xs (tk [] p0 e0 (getT 32 (xs.drop p0))).2.1 (tk [] p0 e0 (getT 32 (xs.drop p0))).2.2) (hn : w.heap.size + 1 ≤ W.heap.size) => bargs_any (n := w.heap.size + 1) hc htl hK HBY0.out hn)
   unfold predC at hnext hpc
   generalize tk [] p0 e0 (getT 32 (xs.drop p0)) = t at HTX HAR0 hnext hpc
   obtain ⟨s, p1, e1⟩ := t
   simp only at HAR0 hnext hpc
   generalize argsC xs p1 e1 = u at HAR0 hnext hpc
   obtain ⟨ts, p2, e3⟩ := u
   simp only at HAR0 hnext hpc
   obtain ⟨_, hsl, htn, hsb, htb⟩ := hpc
   have HNX := hid hnext
   have HFT := hid (fun (A : Option Addr) (c : Nat) => show (⟨⟨s, ts⟩, A, c⟩ : Pd).Fits from ⟨by unfold maxLen; simp only; omega, hsb, fun x hx => by have := htb x hx; omega⟩)
   have hws := HBX.out.lt
   clear hnext hsb htb
   go_wp2_with fail
   refine HTX.out.mono ?_
   rintro r w2 ⟨rfl, hc2, hg2⟩
   simp only [txtV]
   have hbx2 := HBX.out.grown hg2 (fun e => by have := HGL.out; injection e with e; omega)
   have hs2 := hbx2.lt
   have hbox2 := hbx2.cell 0
   simp at hbox2
   have HC2 := hid (HAR0.out w2 hc2 (by omega))
   have HO2 := hid (HOW.out.kept hg2 (by have := HGL.out; omega))
   have HBX2 := hid hbx2
   have HG2 := hid (grown_trans HGR.out hg2)
   clear hc2 hg2 hbox hbx2
   go_wp2_with fail
   refine HC2.out.mono ?_
   rintro r w3 ⟨A2, c2, rfl, hoa, hc3, hg3⟩
   have hbx3 := HBX2.out.grown hg3 (fun e => by have := HGL.out; injection e with e; omega)
   have hs3 := hbx3.lt
   have HC3 := hid hc3
   have HO3 := hid (HO2.out.kept hg3 (by have := HGL.out; omega))
   have HA3 := hid (show OwnA w3 (w.heap.size + 1) ⟨⟨s, ts⟩, A2, c2⟩ from hoa)
   have HBX3 := hid hbx3
   have HG3 := hid (grown_trans HG2.out hg3)
   clear hc3 hg3 hoa hbox2 hbx3
   go_wp2_with (at_builtin; refine wpList_append_pred (by rfl) (.tmp 13) (.tmp 18) 22 (by rfl) i1 _ Tryz.underlying22 hi1 hy0 hy1 hy2 rfl (w.heap.size + 1) (.slice A es.length c) es (by rfl) (HO3.out.below ((Below.refl _ _).alloc (Nat.le_refl _) _)) ⟨w3.heap.size, 0, none⟩ 1 ⟨⟨s, ts⟩, A2, c2⟩ (by rfl) (by go_simp) (by go_simp) (HA3.out.below ((Below.refl _ _).alloc (Nat.le_refl _) _)) (HFT.out A2 c2) (by have := HEL.out; omega) (by simp; omega) ?_; intro v5 w5 hO5 hg5)
   have hlow : ∀ i, (Value.slice A es.length c).ownBlock = some i → w.heap.size + 1 ≤ i := fun i e => (World.ownsRow.lt HO3.out.1 i e).1
   have HC5 := hid ((HC3.out.below ((Below.refl _ _).alloc (Nat.le_refl _) (.cells #[.string (strOfNums s), .slice A2 ts.length c2] 88)) hK).past hg5 hlow (by have := HGL.out; omega) hK)
   have HBX5 := hid ((HBX3.out.below ((Below.refl _ _).alloc (Nat.le_refl _) (.cells #[.string (strOfNums s), .slice A2 ts.length c2] 88)) hs3).grown hg5 (fun e => by have := hlow _ e.symm; omega))
   have HG5 := hid (grown_past (grown_trans HG3.out (grown_alloc w3 (.cells #[.string (strOfNums s), .slice A2 ts.length c2] 88) (some g))) hg5 (fun i e => by have := hlow i e; omega))
   have HEV := hid (show (es ++ [(⟨⟨s, ts⟩, A2, c2⟩ : Pd)]).map (·.p) = (stP xs q e2 (j + 1)).1 by rw [HNX.out, List.map_append, HES.out]; rfl)
   obtain ⟨A5, c5, ev, _, _⟩ := hO5.form
   have HO5 := hid hO5
   subst ev
   clear hO5 hg5 hlow
   generalize es ++ [(⟨⟨s, ts⟩, A2, c2⟩ : Pd)] = es5 at HO5 HEV ⊢
   go_wp2_with fail
   go_roundg (N - (j + 1))
   case measure => have := HGK.out; omega
   case rel => exact ⟨j + 1, A5, c5, es5, by omega, by go_num, rfl, hid rfl, hid (by rw [HNX.out]; exact HC5.out), HBX5, HO5, HEV, HG5⟩
  ·obtain rfl : j = N := by omega
   go_wp2_with fail
   go_ret
   exact ⟨⟨A, c, es, rfl, HOW.out.base (by omega), HES.out⟩, HC.out, HGR.out⟩
def SigGot (n : Nat) (r : List Pr × Int) (e : Ending) (w' : World) : Prop := ∃ A c es, e = .returned (.tuple #[.slice A es.length c, .int .i64 r.2]) ∧ OwnP w' n (.slice A es.length c) es ∧ es.map (·.p) = r.1
theorem sig_bad {n : Nat} {r : List Pr × Int} {k : Int} {e : Ending} {w' : World} (hr : r = ([], k)) (he : e = .returned (.tuple #[.slice none 0 0, .int .i64 k])) : SigGot n r e w' := by
 subst hr
 exact ⟨none, 0, [], he, OwnP.nil _ _, rfl⟩
theorem bsget_any (A : Option Addr) (c : Nat) (xs : List Int) (hl : xs.length ≤ 1000000000) (hb : ∀ x ∈ xs, 0 ≤ x ∧ x < 256) (w : World) (hrow : Row w w.heap.size (.slice A xs.length c) xs) :
  Calls Tryz.prog 178 #[.slice A xs.length c] w fun e w' => SigGot w.heap.size (getSig xs) e w' ∧ Below w.heap.size w w' := by
 rw [← getC_eq hb]
 have HNEW := hid (new_any A c xs (by omega) w hrow)
 have HPR := hid (fun (g n : Nat) (W : World) (h : Cur 174 W w.heap.size g xs 0 0) (hK : w.heap.size ≤ g) (hn : n ≤ W.heap.size) => bpreds_any (n := n) h hK hb (by omega) hn)
 have hple := predsC_le hb
 unfold getC
 generalize predsC xs = t at HPR hple ⊢
 obtain ⟨l, p, er⟩ := t
 simp only at hple HPR ⊢
 have hbad : er ≠ 0 ∨ p < xs.length → (doneI xs.length p er).1 = false ∧ (doneI xs.length p er).2 ≠ 0 ∧ (if endC xs.length p er (checkP l) = 0 then (l, 0) else ([], endC xs.length p er (checkP l))) = (([] : List Pr), (doneI xs.length p er).2) := by
  intro h
  unfold doneI endC
  by_cases h0 : er = 0
  ·have h1 : p < xs.length := h.resolve_left (fun q => q h0)
   simp [h0, h1]
  ·simp [h0]
 have hok : ¬ (er ≠ 0 ∨ p < xs.length) → doneI xs.length p er = (true, 0) ∧ er = 0 ∧ endC xs.length p er (checkP l) = checkP l := by
  intro h
  have h0 : er = 0 := Classical.byContradiction fun q => h (.inl q)
  have h1 : ¬ p < xs.length := fun q => h (.inr q)
  unfold doneI endC
  simp [h0, h1]
 generalize hn : w.heap.size = n at HPR ⊢
 have HN := hid hn
 have HB0 := hid hb
 clear hn hrow hb
 by_cases hway : er ≠ 0 ∨ p < xs.length
 ·obtain ⟨q1, q2, q3⟩ := hbad hway
  rw [q3]
  clear hok hbad hway q3
  have HDN := hid (fun (g : Nat) (W : World) (h : Cur 174 W n g xs p er) (hK : n ≤ g) => done_any h hple hK)
  generalize doneI xs.length p er = dn at HDN q1 q2 ⊢
  obtain ⟨d1, d2⟩ := dn
  simp only at q1 q2 ⊢
  subst q1
  have hne : (d2 != 0) = true := bne_iff_ne.2 q2
  clear q2
  go_enter Tryz.func178, Tryz.ntmps178
  go_wp2_with fail
  refine HNEW.out.mono ?_
  rintro e w1 ⟨g, rfl, hwg, hc1, hb1⟩
  rw [HN.out] at hwg hc1 hb1
  have hn1 := hb1.size
  rw [HN.out] at hn1
  have hgl := hc1.lt
  obtain ⟨w2, hw2⟩ : ∃ w2, w1.alloc (.cells #[.pointer (some ⟨g, 0, none⟩)] 282) = w2 := ⟨_, rfl⟩
  have b2 : Below w1.heap.size w1 w2 := by rw [← hw2]; exact (Below.refl _ _).alloc (Nat.le_refl _) _
  have s2 : w2.heap.size = w1.heap.size + 1 := by rw [← hw2]; simp
  have h2 : Held w2 w1.heap.size 282 #[.pointer (some ⟨g, 0, none⟩)] := by rw [← hw2]; exact heap_alloc_new w1 _
  have HBX2 := hid h2
  have HC2 := hid (HPR.out g (w1.heap.size + 1) w2 (hc1.below b2 hwg) hwg (by omega))
  have HB2 := hid (hb1.trans (b2.mono hn1))
  have hbox2 := h2.cell 0
  simp at hbox2
  clear h2 b2 hc1 hb1
  go_wp2_with fail
  refine HC2.out.mono ?_
  rintro e w3 ⟨⟨A3, c3, es, rfl, ho3, he3⟩, hc3, hg3⟩
  have hbx3 := HBX2.out.grown hg3 (fun e => by injection e with e; omega)
  have hbox3 := hbx3.cell 0
  simp at hbox3
  have HBX3 := hid hbx3
  have HB3 := hid (HB2.out.grown hg3 (by omega) (fun j e => by injection e with e; omega))
  have HD := hid (HDN.out g w3 hc3 hwg)
  clear hbox2 hbx3 hc3 hg3 ho3 he3
  go_wp2_with fail
  refine HD.out.mono ?_
  rintro e w4 ⟨rfl, hc4, hg4⟩
  have hbx4 := HBX3.out.grown hg4 (fun e => by injection e with e; omega)
  have hbox4 := hbx4.cell 0
  simp at hbox4
  have HB4 := hid (HB3.out.grown hg4 (by have := HB3.out.size; rw [HN.out] at this; exact this) (fun j e => by injection e with e; omega))
  have HE := hid (err_any hc4)
  clear hbox3 hbx4 hc4 hg4
  go_wp2_with fail
  refine HE.out.mono ?_
  rintro e w5 ⟨rfl, rfl⟩
  go_wp2_with fail
  go_ret2
  exact ⟨sig_bad rfl rfl, HB4.out⟩
 ·obtain ⟨q1, rfl, q3⟩ := hok hway
  rw [q3]
  clear hok hbad hway q3
  have HDN := hid (fun (g : Nat) (W : World) (h : Cur 174 W n g xs p 0) (hK : n ≤ g) => done_any h hple hK)
  rw [q1] at HDN
  clear q1
  obtain ⟨ck, hck⟩ : ∃ ck, checkP l = ck := ⟨_, rfl⟩
  have HCK := hid (fun (A : Option Addr) (c : Nat) (ds : List Pd) (W : World) (h : PredRow W W.heap.size (.slice A ds.length c) ds) (e : ds.map (·.p) = l) => (show Calls Tryz.prog 43 #[.slice A ds.length c] W fun e w' => e = .returned (.int .i64 ck) ∧ Below W.heap.size W w' by rw [← hck, ← e]; exact scheck_any A c ds W h))
  rw [hck]
  clear hck
  go_enter Tryz.func178, Tryz.ntmps178
  go_wp2_with fail
  refine HNEW.out.mono ?_
  rintro e w1 ⟨g, rfl, hwg, hc1, hb1⟩
  rw [HN.out] at hwg hc1 hb1
  have hn1 := hb1.size
  rw [HN.out] at hn1
  have hgl := hc1.lt
  obtain ⟨w2, hw2⟩ : ∃ w2, w1.alloc (.cells #[.pointer (some ⟨g, 0, none⟩)] 282) = w2 := ⟨_, rfl⟩
  have b2 : Below w1.heap.size w1 w2 := by rw [← hw2]; exact (Below.refl _ _).alloc (Nat.le_refl _) _
  have s2 : w2.heap.size = w1.heap.size + 1 := by rw [← hw2]; simp
  have h2 : Held w2 w1.heap.size 282 #[.pointer (some ⟨g, 0, none⟩)] := by rw [← hw2]; exact heap_alloc_new w1 _
  have HBX2 := hid h2
  have HC2 := hid (HPR.out g (w1.heap.size + 1) w2 (hc1.below b2 hwg) hwg (by omega))
  have HB2 := hid (hb1.trans (b2.mono hn1))
  have hbox2 := h2.cell 0
  simp at hbox2
  clear h2 b2 hc1 hb1
  go_wp2_with fail
  refine HC2.out.mono ?_
  rintro e w3 ⟨⟨A3, c3, es, rfl, ho3, he3⟩, hc3, hg3⟩
  have hbx3 := HBX2.out.grown hg3 (fun e => by injection e with e; omega)
  have hbox3 := hbx3.cell 0
  simp at hbox3
  have HBX3 := hid hbx3
  have HB3 := hid (HB2.out.grown hg3 (by omega) (fun j e => by injection e with e; omega))
  have HD := hid (HDN.out g w3 hc3 hwg)
  have HO3 := hid ho3
  have HES := hid he3
  clear hbox2 hbx3 hc3 hg3 ho3 he3
  go_wp2_with fail
  refine HD.out.mono ?_
  rintro e w4 ⟨rfl, hc4, hg4⟩
  have hbx4 := HBX3.out.grown hg4 (fun e => by injection e with e; omega)
  have hbox4 := hbx4.cell 0
  simp at hbox4
  have hb4 := HB3.out.grown hg4 (by have := HB3.out.size; rw [HN.out] at this; exact this) (fun j e => by injection e with e; omega)
  have ho4 := HO3.out.kept hg4 (by omega)
  have hs4 := hbx4.lt
  have HB4 := hid hb4
  have HC4 := hid hc4
  have HO4 := hid ho4
  have HBX4 := hid hbx4
  have HKEEP := hid (fun (W : World) (h : Below w4.heap.size w4 W) => (show W.cell? ⟨w1.heap.size, 0, none⟩ = some (.pointer (some ⟨g, 0, none⟩)) from by have e := (hbx4.below h (by omega)).cell 0; simpa using e))
  have HCK4 := hid (fun (W : World) (h : Below w4.heap.size w4 W) => HCK.out A3 c3 es W ((ho4.below h).fresh).1 HES.out)
  clear hbox3 hc4 hg4 hb4 ho4 hbx4
  go_wp2_with fail
  go_region_held3 (fun W => W.cell? ⟨w1.heap.size, 0, none⟩ = some (.pointer (some ⟨g, 0, none⟩)))
   (first | exact HKEEP.out _ (Below.refl _ _) | exact HKEEP.out _ (Below.refl _ _).drew | exact HKEEP.out _ b5 | exact hbox6)
   (first
    | (go_at_call 43; (with_reducible refine (HCK4.out _ (by first | exact Below.refl _ _ | exact (Below.refl _ _).drew)).mono ?_); rintro r w5 ⟨rfl, hb5⟩; have b5 : Below w4.heap.size w4 w5 := (Below.refl _ _).drew.trans hb5)
    | (go_at_call 47; (with_reducible refine (stop_any ck (HC4.out.below b5 hwg)).mono ?_); rintro r w6 ⟨rfl, hc6, hg6⟩; have hbx6 := (HBX4.out.below b5 hs4).grown hg6 (fun e => by injection e with e; omega); have hbox6 : w6.cell? ⟨w1.heap.size, 0, none⟩ = some (.pointer (some ⟨g, 0, none⟩)) := by { have e := hbx6.cell 0; simpa using e }))
  rw [stopI_zero] at hc6
  have HE := hid (err_any hc6)
  have HO6 := hid ((HO4.out.below b5).kept hg6 (by omega))
  have HB6 := hid ((HB4.out.trans (b5.mono (by have := HB4.out.size; rw [HN.out] at this; exact this))).grown hg6 (by have := (HB4.out.trans (b5.mono (by have := HB4.out.size; rw [HN.out] at this; exact this))).size; rw [HN.out] at this; exact this) (fun j e => by injection e with e; omega))
  by_cases hz : ck = 0
  ·subst hz
   go_wp2_with fail
   refine HE.out.mono ?_
   rintro e w7 ⟨rfl, rfl⟩
   go_wp2_with fail
   go_ret2
   exact ⟨⟨A3, c3, es, rfl, HO6.out.base (by omega), HES.out⟩, HB6.out⟩
  ·have hne : (ck != 0) = true := bne_iff_ne.2 hz
   have HZ := hid hz
   clear hz
   go_wp2_with fail
   refine HE.out.mono ?_
   rintro e w7 ⟨rfl, rfl⟩
   go_wp2_with fail
   go_ret2
   exact ⟨sig_bad rfl rfl, HB6.out⟩
theorem own_noP (w : World) : (w.alloc (.cells #[] 88)).ownsRow w.heap.size 88 2 (.slice (some ⟨w.heap.size, 0, none⟩) 0 0) 0 [] :=
 ⟨rfl, .inr ⟨w.heap.size, 0, #[], rfl, Nat.le_refl _, heap_alloc_new w _, Nat.le_refl _, Nat.zero_le _, rfl, rfl⟩⟩
theorem sig_none {n : Nat} {r : List Pr × Int} {k : Int} {e : Ending} {w' : World} (hr : r = ([], k)) (h : w'.ownsRow n 88 2 (.slice (some ⟨n, 0, none⟩) 0 0) 0 []) (he : e = .returned (.tuple #[.slice (some ⟨n, 0, none⟩) 0 0, .int .i64 k])) : SigGot n r e w' := by
 subst hr
 exact ⟨_, 0, [], he, ⟨h, by simp⟩, rfl⟩
theorem rsget_any (xs : List Int) (hb : ∀ x ∈ xs, 0 ≤ x ∧ x < 256) (hl : xs.length ≤ 1000000) (w : World) :
  Calls Tryz.prog 133 #[.string (strOfNums xs)] w fun e w' => SigGot w.heap.size (getSig xs) e w' ∧ Below w.heap.size w w' := by
 obtain ⟨i1, hi1, hy0, hy1, hy2⟩ := info_parts Tryz.infoPred
 obtain ⟨i0, hi0, hz0, hz1, hz2⟩ := info_parts Tryz.infoIntB
 have hss : (strOfNums xs).size = xs.length := strOfNums_size xs
 have hg := fun W => rget_any xs hb (by omega) W
 have HNO := hid (own_noP w)
 have HB0 := hid (show Below w.heap.size w (w.alloc (.cells #[] 88)) from (Below.refl _ _).alloc (Nat.le_refl _) _)
 obtain ⟨n, hn⟩ : ∃ n, w.heap.size = n := ⟨_, rfl⟩
 have hsa : (w.alloc (.cells #[] 88)).heap.size = n + 1 := by rw [← hn]; simp
 rw [hn] at HNO HB0 ⊢
 have HN := hid hn
 have HSA := hid hsa
 clear hn hsa
 by_cases h1 : (getI xs).2.2 = 0
 ·obtain ⟨N, s, hgi, b1, b2, b3, b4, b5⟩ := getI_ok xs hb h1
  rw [hgi] at hg
  simp only at hg
  have HG := hid hg
  have HGI := hid hgi
  have HB := hid hb
  have hN0 : (0 : Int) ≤ (N : Int) := by omega
  clear hg hgi b3 b4 h1 hb
  by_cases h2 : 64 < N
  ·have hli : (64 : Int) < (N : Int) := by omega
   have HR := hid (getSig_limit HGI.out h2)
   clear h2
   go_enter Tryz.func133, Tryz.ntmps133
   go_wp2_with fail
   refine (HG.out _).mono ?_
   rintro e w1 ⟨rfl, rfl⟩
   go_wp2_with fail
   rw [HN.out]
   go_ret2
   exact ⟨sig_none HR.out HNO.out rfl, HB0.out⟩
  ·have hli : (N : Int) ≤ 64 := by omega
   have hcv : IntKind.i64.wrap (N : Int) = (N : Int) := by rw [IntKind.wrap_i64]; omega
   go_enter Tryz.func133, Tryz.ntmps133
   go_wp2_with fail
   refine (HG.out _).mono ?_
   rintro e w1 ⟨rfl, rfl⟩
   go_wp2_with fail
   rw [HN.out]
   obtain ⟨w0, hw0⟩ : ∃ w0, w.alloc (.cells #[] 88) = w0 := ⟨_, rfl⟩
   rw [hw0] at HNO HB0 HSA ⊢
   clear hw0
   have hs0 : w0.heap.size = n + 1 := HSA.out
   have HNOW := hid (fun (W : World) (h : Below (n + 1) w0 W) => own_below HNO.out (by rw [hs0]; exact h))
   have HOUT := hid (show OwnP (w0.alloc (.cells #[] 88)) (n + 1) (.slice (some ⟨n + 1, 0, none⟩) 0 0) [] from ⟨by have := own_noP w0; rw [hs0] at this; exact this, by simp⟩)
   have HST := hid (show Below (n + 1) w0 (w0.alloc (.cells #[] 88)) from (Below.refl _ _).alloc (by omega) _)
   have HRS := hid (RdG.start (xs := xs) (n := N) (s := s) b2)
   have h64 : N ≤ 64 := by omega
   clear hs0
   go_loopg [6, 8, 9] N (fun gk pl out i wr => ∃ (k p : Nat) (A : Option Addr) (c : Nat) (es : List Pd), k ≤ N ∧ p ≤ xs.length ∧ i = .int .i64 k ∧ pl = .int .i64 p ∧ out = .slice A es.length c ∧ Hid (N - k = gk) ∧ Hid (RdG xs N s k p (es.map (·.p))) ∧ Hid (OwnP wr (n + 1) (.slice A es.length c) es) ∧ Hid (Below (n + 1) w0 wr))
   case atStart => exact ⟨0, s, _, 0, [], Nat.zero_le _, b2, rfl, rfl, rfl, hid rfl, HRS, HOUT, HST⟩
   case round =>
    obtain ⟨k, p, A, c, es, hk, hp, rfl, rfl, rfl, HGK, HRD, HOW, HBW⟩ := hrel
    obtain ⟨wx, hwx⟩ : ∃ wx, wx = wr := ⟨_, rfl⟩
    subst hwx
    by_cases hlt : k < N
    ·have hys : ∀ x ∈ xs.drop p, 0 ≤ x ∧ x < 256 := drop_bytes HB.out p
     have hyl : (xs.drop p).length = xs.length - p := List.length_drop
     have hgt := fun W => rbget_any (xs.drop p) 32 (by omega) (by omega) W hys (by omega)
     have hcut : (strOfNums xs).extract p xs.length = strOfNums (xs.drop p) := by rw [str_cut, List.take_length]
     have hpi : (p : Int) ≤ (xs.length : Int) := by omega
     have hpi0 : (0 : Int) ≤ (p : Int) := by omega
     have hway := getP_ways (xs.drop p) hys
     have HYL := hid hyl
     clear hys hyl
     obtain ⟨ys, hys⟩ : ∃ ys, xs.drop p = ys := ⟨_, rfl⟩
     have HYS := hid hys
     rw [hys] at hgt hcut hway HYL
     clear hys
     rcases hway with ⟨e1, eP⟩ | ⟨nm, sz, ht, c1, c2, c3, c4, c5, hway⟩
     ·have HR := hid (HRD.out.bad HGI.out h64 hlt (by rw [HYS.out, eP]) e1)
      have hne : ((getT 32 ys).2.2 != 0) = true := bne_iff_ne.2 e1
      clear eP e1
      generalize getT 32 ys = t at hgt HR hne
      obtain ⟨a, b, er⟩ := t
      simp only at hgt HR hne
      have HGT := hid hgt
      clear hgt
      go_wp2_with fail
      refine (HGT.out _).mono ?_
      rintro e w2 ⟨rfl, rfl⟩
      go_wp2_with fail
      go_ret2
      exact ⟨sig_none HR.out (HNOW.out _ HBW.out) rfl, HB0.out.trans (HBW.out.mono (by omega))⟩
     ·rw [ht] at hgt
      simp only at hgt
      have HGT := hid hgt
      have hyl2 : ys.length = xs.length - p := HYL.out
      obtain ⟨P, hP⟩ : ∃ P, p + sz = P := ⟨_, rfl⟩
      have hPl : P ≤ xs.length := by omega
      have hPi : (P : Int) ≤ (xs.length : Int) := by omega
      have hPi0 : (0 : Int) ≤ (P : Int) := by omega
      have hzs : ∀ x ∈ xs.drop P, 0 ≤ x ∧ x < 256 := drop_bytes HB.out P
      have hzl : (xs.drop P).length = xs.length - P := List.length_drop
      have hgn := fun W => rget_any (xs.drop P) hzs (by omega) W
      have hcut2 : (strOfNums xs).extract P xs.length = strOfNums (xs.drop P) := by rw [str_cut, List.take_length]
      have hys2 : ys.drop sz = xs.drop P := by rw [← HYS.out, List.drop_drop, hP]
      rw [hys2] at hway
      obtain ⟨zs, hzs2⟩ : ∃ zs, xs.drop P = zs := ⟨_, rfl⟩
      rw [hzs2] at hgn hcut2 hway hzl
      have p1 : (p : Int) + (sz : Int) = (P : Int) := by omega
      have r1 : IntKind.i64.wrap (P : Int) = (P : Int) := IntWalk.i64_in _ (by omega)
      have HZL := hid hzl
      have HC4 := hid c5
      clear hgt hzs hzs2 hzl hys2 c4 c5 hyl2
      rcases hway with ⟨e1, eP⟩ | ⟨m, z2, hgi2, d1, d2, d3, d4, hway⟩
      ·have HR := hid (HRD.out.bad HGI.out h64 hlt (by rw [HYS.out, eP]) e1)
       have hne : ((getI zs).2.2 != 0) = true := bne_iff_ne.2 e1
       clear eP e1
       generalize getI zs = t at hgn HR hne
       obtain ⟨a, b, er⟩ := t
       simp only at hgn HR hne
       have HGN := hid hgn
       clear hgn hP
       go_wp2_with fail
       refine (HGT.out _).mono ?_
       rintro e w2 ⟨rfl, rfl⟩
       go_wp2_with fail
       refine (HGN.out _).mono ?_
       rintro e w2 ⟨rfl, rfl⟩
       go_wp2_with fail
       go_ret2
       exact ⟨sig_none HR.out (HNOW.out _ HBW.out) rfl, HB0.out.trans (HBW.out.mono (by omega))⟩
      ·rw [hgi2] at hgn
       simp only at hgn
       have HGN := hid hgn
       have hyl3 : ys.length = xs.length - p := HYL.out
       have hm0 : (0 : Int) ≤ (m : Int) := by omega
       by_cases h8 : 8 < m
       ·have eP : getP ys = (default, 0, 6) := by
         rcases hway with ⟨_, e⟩ | ⟨h, _⟩ | ⟨h, _⟩
         ·exact e
         ·omega
         ·omega
        have HR := hid (HRD.out.bad HGI.out h64 hlt (by rw [HYS.out, eP]) (show (6 : Int) ≠ 0 by decide))
        have h8i : (8 : Int) < (m : Int) := by omega
        clear hgn hP hway eP hyl3 d4
        go_wp2_with fail
        refine (HGT.out _).mono ?_
        rintro e w2 ⟨rfl, rfl⟩
        go_wp2_with fail
        refine (HGN.out _).mono ?_
        rintro e w2 ⟨rfl, rfl⟩
        go_wp2_with fail
        go_ret2
        exact ⟨sig_none HR.out (HNOW.out _ HBW.out) rfl, HB0.out.trans (HBW.out.mono (by omega))⟩
       ·obtain ⟨Q, hQ⟩ : ∃ Q, P + z2 = Q := ⟨_, rfl⟩
        have hzl3 : zs.length = xs.length - P := HZL.out
        have hQl : Q ≤ xs.length := by omega
        have hysq : ys.drop (sz + z2) = xs.drop Q := by rw [← HYS.out, List.drop_drop, ← Nat.add_assoc, hP, hQ]
        have h8i : (m : Int) ≤ 8 := by omega
        have HSH := hid (show xs.length < Q + m → getP ys = (default, 0, 2) from by
         intro h
         rcases hway with ⟨h', e⟩ | ⟨_, _, e⟩ | ⟨_, h', e⟩
         ·omega
         ·exact e
         ·omega)
        have HOK := hid (show Q + m ≤ xs.length → getP ys = (⟨nm, (xs.drop Q).take m⟩, sz + z2 + m, 0) from by
         intro h
         rcases hway with ⟨h', e⟩ | ⟨_, h', e⟩ | ⟨_, _, e⟩
         ·omega
         ·omega
         ·rw [← hysq]; exact e)
        have HQP := hid (show p + (sz + z2 + m) = Q + m by omega)
        have q1 : (P : Int) + (z2 : Int) = (Q : Int) := by omega
        have r2 : IntKind.i64.wrap (Q : Int) = (Q : Int) := IntWalk.i64_in _ (by omega)
        have hcv2 : IntKind.i64.wrap (m : Int) = (m : Int) := by rw [IntKind.wrap_i64]; omega
        have HPB := hid (show Held (wx.alloc (.cells #[.string (strOfNums nm), .slice none 0 0] 88)) wx.heap.size 88 #[.string (strOfNums nm), .slice none 0 0] from heap_alloc_new wx _)
        have HBX := hid (show Below wx.heap.size wx (wx.alloc (.cells #[.string (strOfNums nm), .slice none 0 0] 88)) from (Below.refl _ _).alloc (Nat.le_refl _) _)
        have hwx : n + 1 ≤ wx.heap.size := by have := HBW.out.size; have := HSA.out; omega
        clear hgn hP hQ hway hyl3 d4 hysq hzl3
        go_wp2_with fail
        refine (HGT.out _).mono ?_
        rintro e w2 ⟨rfl, rfl⟩
        go_wp2_with fail
        refine (HGN.out _).mono ?_
        rintro e w2 ⟨rfl, rfl⟩
        go_wp2_with fail
        go_loopg [6, 17] m (fun gk2 pl j wr2 => ∃ (t T : Nat) (A2 : Option Addr) (c2 : Nat), t ≤ m ∧ T ≤ xs.length ∧ j = .int .i64 t ∧ pl = .int .i64 T ∧ Hid (Q + t = T) ∧ Hid (m - t = gk2) ∧ Hid (wr2.ownsRow (wx.heap.size + 1) 3 1 (.slice A2 t c2) t (((xs.drop Q).take t).map (.int .i64))) ∧ Hid (Held wr2 wx.heap.size 88 #[.string (strOfNums nm), .slice A2 t c2]) ∧ Hid (Below wx.heap.size wx wr2))
        case atStart => exact ⟨0, Q, none, 0, Nat.zero_le _, hQl, rfl, rfl, hid rfl, hid rfl, hid (World.ownsRow_nil _ _ _ _), HPB, HBX⟩
        case round =>
         obtain ⟨t, T, A2, c2, htm, hT, rfl, rfl, HQT, HGK2, HO2, HH2, HB2⟩ := hrel
         have hTi : (T : Int) ≤ (xs.length : Int) := by omega
         by_cases htl : t < m
         ·by_cases hend : T = xs.length
          ·have HR := hid (HRD.out.bad HGI.out h64 hlt (by rw [HYS.out, HSH.out (by have := HQT.out; omega)]) (show (2 : Int) ≠ 0 by decide))
           have heq : ((T : Int) == (xs.length : Int)) = true := by rw [hend]; exact beq_self_eq_true _
           have HB3 := hid (HBW.out.trans (HB2.out.mono hwx))
           clear hend
           go_wp2_with fail
           go_ret2
           exact ⟨sig_none HR.out (HNOW.out _ HB3.out) rfl, HB0.out.trans (HB3.out.mono (by omega))⟩
          ·have heq : ((T : Int) == (xs.length : Int)) = false := beq_eq_false_iff_ne.2 (by omega)
           have hat := str_at xs HB.out T (by omega) (by omega)
           have hTl : (T : Int) < (xs.length : Int) := by omega
           obtain ⟨z, hz⟩ : ∃ z, xs.getD T 0 = z := ⟨_, rfl⟩
           have HNX := hid (show ((xs.drop Q).take t).map (Value.int .i64) ++ [.int .i64 z] = ((xs.drop Q).take (t + 1)).map (.int .i64) by
            rw [List.take_add_one, List.getElem?_drop, HQT.out, List.getElem?_eq_getElem (show T < xs.length by omega), ← hz, List.getD, List.getElem?_eq_getElem (show T < xs.length by omega)]
            simp)
           have hzb : 0 ≤ xs.getD T 0 ∧ xs.getD T 0 < 256 := HB.out _ (by rw [List.getD, List.getElem?_eq_getElem (show T < xs.length by omega)]; exact List.getElem_mem _)
           rw [hz] at hat hzb
           have hzw : IntKind.i64.wrap z = z := by rw [IntKind.wrap_i64]; omega
           clear hz hzb
           obtain ⟨x0, x1⟩ := cC2 HH2.out
           have xl := HH2.out.lt
           simp at x0 x1
           go_wp2_with fail
           go_region_law (first | (refine step_append_lies _ rfl (.tmp 86) (.tmp 91) 86 rfl (wx.heap.size + 1) 3 i0 (.int .i64 0) 1 8 Tryz.underlying86 hi0 hz0 hz1 hz2 rfl (by decide) _ _ _ rfl (HO2.out.alloc _) ⟨wr.heap.size, 0, none⟩ 1 1 [.int .i64 z] rfl rfl (cell_one_new _ _ _) (by simp [Value.oneCell']) (by decide) (by simp only [maxLen]; omega) (by omega) (by simp; omega) _ rfl ?_; intro g cap w5 hown5 hg5 hlie hlt5; have hh5 := (HH2.out.below (B := wr.heap.size) (((Below.refl _ _).alloc (Nat.le_refl _) _).drew) xl).grown hg5 (Ne.symm (own_low HO2.out (Nat.lt_succ_self _))); have y0 := hh5.cell 0; have y1 := hh5.cell 1; have yf := hh5.frozen 1; have yl := hh5.lt; simp at y0 y1))
           all_goals
            have HOX := hid (own_put1 (i := 1) (u := .slice (some ⟨g, 0, none⟩) (t + 1) cap) hown5 (Nat.lt_succ_self _))
            have HHX := hid (show Held (w5.setCell ⟨wx.heap.size, 1, none⟩ (.slice (some ⟨g, 0, none⟩) (t + 1) cap)) wx.heap.size 88 #[.string (strOfNums nm), .slice (some ⟨g, 0, none⟩) (t + 1) cap] by simpa using hh5.put 1 (.slice (some ⟨g, 0, none⟩) (t + 1) cap))
            have HBX5 := hid (((HB2.out.trans ((((Below.refl wr.heap.size wr).alloc (Nat.le_refl _) _).drew).mono (Nat.le_of_lt xl))).grown hg5 (by simp; omega) (fun i e => by have := (World.ownsRow.lt HO2.out i e).1; omega)).setCell (p := ⟨wx.heap.size, 1, none⟩) (Nat.le_refl _) (.slice (some ⟨g, 0, none⟩) (t + 1) cap))
            clear hown5 hg5 hh5 hlie
            go_wp2_with fail
            go_roundg (m - (t + 1))
            case measure => have := HGK2.out; omega
            case rel => exact ⟨t + 1, T + 1, some ⟨g, 0, none⟩, cap, by omega, by omega, by go_num, by go_num, hid (by have := HQT.out; omega), hid rfl, hid (by rw [← HNX.out]; exact HOX.out), HHX, HBX5⟩
         ·obtain rfl : t = m := by omega
          obtain ⟨ar, har⟩ : ∃ ar, (xs.drop Q).take t = ar := ⟨_, rfl⟩
          have harl : ar.length = t := by rw [← har, List.length_take, List.length_drop]; have := HQT.out; omega
          have hab : ∀ x ∈ ar, 0 ≤ x ∧ x < 256 := fun x hx => HB.out x (List.mem_of_mem_drop (List.mem_of_mem_take (by rw [har]; exact hx)))
          have hpp := HOK.out (by have := HQT.out; omega)
          rw [har] at HO2 hpp
          have hrn := HRD.out.next hlt (by rw [HYS.out]; exact hpp) (by rw [HQP.out]; have := HQT.out; omega)
          rw [HQP.out] at hrn
          clear har hpp HOK HSH
          subst harl
          have HFT := hid (show (⟨⟨nm, ar⟩, A2, c2⟩ : Pd).Fits from ⟨by unfold maxLen; simp only; omega, HC4.out, fun x hx => by have := hab x hx; omega⟩)
          have hes : es.length = k := by have := HRD.out.2.2.2.1; rw [List.length_map] at this; exact this
          have HES := hid hes
          have HRN := hid hrn
          have HO3 := hid (HOW.out.below HB2.out)
          have HA3 := hid (show OwnA wr (n + 1) ⟨⟨nm, ar⟩, A2, c2⟩ from own_base HO2.out (by omega))
          obtain ⟨x0, x1⟩ := cC2 HH2.out
          have xl := HH2.out.lt
          simp at x0 x1
          clear hab hrn hes
          go_wp2_with (at_builtin; refine wpList_append_pred (by rfl) (.tmp 96) (.tmp 98) 22 (by rfl) i1 _ Tryz.underlying22 hi1 hy0 hy1 hy2 rfl (n + 1) (.slice A es.length c) es (by rfl) (HO3.out.below ((Below.refl _ _).alloc (Nat.le_refl _) _)) ⟨wr.heap.size, 0, none⟩ 1 ⟨⟨nm, ar⟩, A2, c2⟩ (by rfl) (by go_simp) (by go_simp) (HA3.out.below ((Below.refl _ _).alloc (Nat.le_refl _) _)) HFT.out (by have := HES.out; omega) (by simp; omega) ?_; intro v5 w5 hO5 hg5)
          have hlow : ∀ i, (Value.slice A es.length c).ownBlock = some i → n + 1 ≤ i := fun i e => (World.ownsRow.lt HO3.out.1 i e).1
          have HB5 := hid (((HBW.out.trans (HB2.out.mono hwx)).alloc (show n + 1 ≤ wr.heap.size by omega) (.cells #[.string (strOfNums nm), .slice A2 ar.length c2] 88)).grown hg5 (by simp; omega) hlow)
          have HEV := hid (show (es ++ [(⟨⟨nm, ar⟩, A2, c2⟩ : Pd)]).map (·.p) = es.map (·.p) ++ [⟨nm, ar⟩] by simp)
          obtain ⟨A5, c5, ev, _, _⟩ := hO5.form
          have HO5 := hid hO5
          subst ev
          clear hO5 hg5 hlow
          generalize es ++ [(⟨⟨nm, ar⟩, A2, c2⟩ : Pd)] = es5 at HO5 HEV ⊢
          go_wp2_with fail
          go_roundg (N - (k + 1))
          case measure => have := HGK.out; omega
          case rel => exact ⟨k + 1, T, A5, c5, es5, by omega, hT, by go_num, rfl, rfl, hid rfl, hid (by rw [HEV.out, ← HQT.out]; exact HRN.out), HO5, HB5⟩
    ·obtain rfl : k = N := by omega
     by_cases hpl : p < xs.length
     ·have hpli : (p : Int) < (xs.length : Int) := by omega
      have HR := hid (HRD.out.form HGI.out h64 hpl)
      go_wp2_with fail
      go_ret2
      exact ⟨sig_none HR.out (HNOW.out _ HBW.out) rfl, HB0.out.trans (HBW.out.mono (by omega))⟩
     ·have hpli : ¬ (p : Int) < (xs.length : Int) := by omega
      have HCK := hid (rcheck_any A c es wx (HOW.out.fresh).1)
      have hck1 := fun h => HRD.out.check HGI.out h64 hpl h
      have hck2 := fun h => HRD.out.ok HGI.out h64 hpl h
      generalize checkP (es.map (·.p)) = ck at HCK hck1 hck2
      by_cases hz : ck = 0
      ·have HR := hid (hck2 hz)
       subst hz
       clear hck1 hck2
       go_wp2_with fail
       refine HCK.out.mono ?_
       rintro e w2 ⟨rfl, rfl⟩
       go_wp2_with fail
       go_ret2
       exact ⟨⟨A, c, es, by rw [HR.out]; rfl, HOW.out.base (by omega), by rw [HR.out]⟩, HB0.out.trans (HBW.out.mono (by omega))⟩
      ·have HR := hid (hck1 hz)
       have hne : (ck != 0) = true := bne_iff_ne.2 hz
       clear hck1 hck2 hz
       go_wp2_with fail
       refine HCK.out.mono ?_
       rintro e w2 ⟨rfl, rfl⟩
       go_wp2_with fail
       go_ret2
       exact ⟨sig_none HR.out (HNOW.out _ HBW.out) rfl, HB0.out.trans (HBW.out.mono (by omega))⟩
 ·have hne : ((getI xs).2.2 != 0) = true := bne_iff_ne.2 h1
  have HR := hid (getSig_num h1)
  generalize getI xs = t at hg hne HR
  obtain ⟨a, b, e0⟩ := t
  simp only at hg hne HR
  have HG := hid hg
  clear hg h1
  go_enter Tryz.func133, Tryz.ntmps133
  go_wp2_with fail
  refine (HG.out _).mono ?_
  rintro e w1 ⟨rfl, rfl⟩
  go_wp2_with fail
  rw [HN.out]
  go_ret2
  exact ⟨sig_none HR.out HNO.out rfl, HB0.out⟩
end Go.Proofs.YtimihhcidbeonaaGreat
