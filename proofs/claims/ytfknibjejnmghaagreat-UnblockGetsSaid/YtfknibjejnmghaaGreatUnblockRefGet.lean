/-
  The document's own reader of points: the points of a payload.
-/
import Derived.Test.YtfknibjejnmghaaGreatUnblockRefs
import Derived.Test.YtfknibjejnmghaaGreatBlockRefAll
import Derived.Test.YtfknibjejnmghaaGreatSigRefs
import Derived.Deep.QuietTactic
import Derived.BigQuiet
namespace Go.Proofs.YtfknibjejnmghaaGreat
open Go.RowKit
set_option linter.unusedVariables false
set_option linter.unusedSimpArgs false

/-! In plain numbers. -/
section
variable {xs : List Int} {sig : List Pr} {m e : Int} {p : Nat}
theorem nx_err (h : (nx m xs p e).2.2 ≠ 0) : (nx m xs p e).1 = 0 := by
  by_cases he : e = 0
  · subst he
    unfold nx at h ⊢
    by_cases hg : (getN m (xs.drop p)).2.2 = 0
    · rw [tk_ok hg] at h
      exact absurd rfl h
    · rw [tk_err hg]
  · rw [nx_stop he]
theorem readU_err (h : (dicU xs).2.2 ≠ 0) : (readU sig xs).2.2.2 = (dicU xs).2.2 :=
  stepsU_stop (f := ptU sig (dicU xs).1 xs) (s := ((baseU xs).1, (dicU xs).2)) (er := fun s : Int × Nat × Int => s.2.2) (k := 0) (fun j s hs => ptU_stop hs) h _ (Nat.zero_le _)
theorem getU_err (h0 : checkP sig = 0) (h : (readU sig xs).2.2.2 ≠ 0) : getU sig xs = ([], (readU sig xs).2.2.2) := by
  unfold getU endU
  simp [h0, h]
theorem getU_left (h0 : checkP sig = 0) (h : (readU sig xs).2.2.2 = 0) (h1 : (readU sig xs).2.2.1 < xs.length) : getU sig xs = ([], 4) := by
  unfold getU endU
  simp [h0, h, h1]
theorem getU_long (h0 : checkP sig = 0) (h : (readU sig xs).2.2.2 = 0) (h1 : ¬ (readU sig xs).2.2.1 < xs.length) (h2 : 4096 < xs.length) : getU sig xs = ([], 6) := by
  unfold getU endU wayU
  simp [h0, h, h1, h2]
theorem getU_other (h0 : checkP sig = 0) (h : (readU sig xs).2.2.2 = 0) (h1 : ¬ (readU sig xs).2.2.1 < xs.length) (h2 : ¬ 4096 < xs.length) (h3 : putB sig ((readU sig xs).1.map bareP) ≠ (xs, 0)) : getU sig xs = ([], 4) := by
  unfold getU endU wayU
  simp [h0, h, h1, h2, h3]
theorem getU_good (h0 : checkP sig = 0) (h : (readU sig xs).2.2.2 = 0) (h1 : ¬ (readU sig xs).2.2.1 < xs.length) (h2 : ¬ 4096 < xs.length) (h3 : putB sig ((readU sig xs).1.map bareP) = (xs, 0)) : getU sig xs = ((readU sig xs).1, 0) := by
  unfold getU endU wayU
  simp [h0, h, h1, h2, h3]
theorem last_tm {ps : List Pm} {L : List Pn} {tm : Int} (h : ps.map (·.p) = L) (h0 : 0 < L.length) (hl : ∃ x, L[L.length - 1]? = some x ∧ x.tm = tm) : ∃ d, ps[ps.length - 1]? = some d ∧ d.tm = tm ∧ 0 < ps.length := by
  subst h
  obtain ⟨x, h1, h2⟩ := hl
  rw [List.length_map] at h0 h1
  rw [List.getElem?_map] at h1
  cases hq : ps[ps.length - 1]? with
  | none => rw [hq] at h1; cases h1
  | some d =>
    rw [hq] at h1
    injection h1 with h1
    exact ⟨d, rfl, by rw [← h2, ← h1], h0⟩
end

/-- The points of a payload, or why there are none. -/
def RUGot (w : World) (R : List Pn × Int) (r : Ending) (w' : World) : Prop :=
  ∃ A c ps, r = .returned (.tuple #[.slice A ps.length c, .int .i64 R.2]) ∧ TrRow w' w'.heap.size (.slice A ps.length c) ps ∧ ps.map (·.p) = R.1 ∧ Below w.heap.size w w'
theorem rgot_none {w w' : World} {R : List Pn × Int} {k : Int} {r : Ending} {g : Addr} (hR : R = ([], k)) (h : r = .returned (.tuple #[.slice (some g) 0 0, .int .i64 k])) (hb : Below w.heap.size w w') : RUGot w R r w' := by
  subst hR
  exact ⟨some g, 0, [], h, ⟨⟨some g, 0, rfl, Nat.le_refl _, Nat.zero_le _, (fun e => by cases e), fun h => absurd h (by simp)⟩, by simp⟩, rfl, hb⟩
theorem rgot_some {w w' : World} {R : List Pn × Int} {L : List Pn} {r : Ending} {A : Option Addr} {c : Nat} {ps : List Pm} (hR : R = (L, 0)) (h : r = .returned (.tuple #[.slice A ps.length c, .int .i64 0])) (ht : TrRow w' w'.heap.size (.slice A ps.length c) ps) (hp : ps.map (·.p) = L) (hb : Below w.heap.size w w') : RUGot w R r w' := by
  subst hR
  exact ⟨A, c, ps, h, ht, hp, hb⟩

section
variable {w wr w1 w7 wf : World} {N B q : Nat} {xs : List Int} {D : List (List Int)} {TA LA : Option Addr} {TL TC LL LC : Nat} {n e : Int}
theorem Turns.of_below' (h : Below N w w1) (hN : w.heap.size = N) : Turns N w w1 := by
  subst hN
  exact Turns.of_below h (Nat.le_refl _)
/-- What is read so far lies in the box. -/
structure GxAt (w : World) (N B : Nat) (xs : List Int) (TA : Option Addr) (TL TC : Nat) (LA : Option Addr) (LL LC : Nat) (n : Int) (q : Nat) (e : Int) (wr : World) : Prop where
  box : Held wr B 66 (PC xs q e TA TL TC LA LL LC n)
  trn : Turns N w wr
theorem GxAt.next (h : GxAt w N B xs TA TL TC LA LL LC n q e wr) (hN : w.heap.size = N) (hNB : N ≤ B) (ht : Turns N wr w1) (TA' : Option Addr) (TL' TC' : Nat) (LA' : Option Addr) (LL' LC' : Nat) (n' : Int) (q' : Nat) (e' : Int) :
    GxAt w N B xs TA' TL' TC' LA' LL' LC' n' q' e' ((((((w1.setCell ⟨B, 0, none⟩ (.string (strOfNums xs))).setCell ⟨B, 1, none⟩ (.int .i64 q')).setCell ⟨B, 2, none⟩ (.int .i64 e')).setCell ⟨B, 3, none⟩ (.slice TA' TL' TC')).setCell ⟨B, 4, none⟩ (.slice LA' LL' LC')).setCell ⟨B, 5, none⟩ (.int .u64 n')) ∧
      Held w1 B 66 (PC xs q e TA TL TC LA LL LC n) := by
  have hx := ht.held h.box (by decide) (by decide)
  exact ⟨⟨held_put6 hx _ _ _ _ _ _, (h.trn.trans ht).then (grown_put6 w1 B _ _ _ _ _ _) (by omega) (by omega)⟩, hx⟩
/-- The points so far. -/
structure LxAt (w : World) (N B : Nat) (xs : List Int) (D : List (List Int)) (TA : Option Addr) (TC : Nat) (LA : Option Addr) (LL LC : Nat) (n : Int) (q : Nat) (r : List Pn × Int × Nat × Int) (wr : World) : Prop where
  gx : GxAt w N B xs TA D.length TC LA LL LC n q r.2.2.2 wr
  qle : q ≤ xs.length
  txt : wr.ownsRow N 9 1 (.slice TA D.length TC) D.length (strVs D)
  ok : r.2.2.2 = 0 → q = r.2.2.1 ∧ ∃ ps : List Pm, LL = ps.length ∧ OwnT wr N (.slice LA ps.length LC) ps ∧ ps.map (·.p) = r.1
theorem lx_start {m : Nat} {cs : Array Value} {k : Int} (hg : GxAt w N B xs TA D.length TC none 0 0 n q 0 wf) (hx : Held w1 B 66 cs) (hgr : w1.grownBy wf (some B)) (hT : w1.ownsRow m 9 1 (.slice TA D.length TC) D.length (strVs D)) (hm : N ≤ m) (hq : q ≤ xs.length) :
    LxAt w N B xs D TA TC none 0 0 n q ([], k, q, 0) wf :=
  ⟨hg, hq, own_base (World.ownsRow.kept hT hgr (.inr (fun e => own_not_held hT hx (by decide) e.symm))) hm, fun _ => ⟨rfl, [], rfl, OwnT.nil _ _, rfl⟩⟩
theorem LxAt.more {r : List Pn × Int × Nat × Int} {R : Pn × Int × Nat × Int} {ps : List Pm} {A' : Option Addr} {c' q' : Nat} {n' e' : Int} (h : LxAt w N B xs D TA TC LA LL LC n q r wr) (hN : w.heap.size = N) (hNB : N ≤ B) (hps : ps.map (·.p) = r.1) (ht : Turns N wr w7) (hq : q' ≤ xs.length) (he : e' = R.2.2.2)
    (hok : e' = 0 → q' = R.2.2.1 ∧ ∃ d1 : Pm, OwnT w7 N (.slice A' (ps.length + 1) c') (ps ++ [d1]) ∧ d1.p = R.1) :
    LxAt w N B xs D TA TC A' (ps.length + 1) c' n' q' (r.1 ++ [R.1], R.2) ((((((w7.setCell ⟨B, 0, none⟩ (.string (strOfNums xs))).setCell ⟨B, 1, none⟩ (.int .i64 q')).setCell ⟨B, 2, none⟩ (.int .i64 e')).setCell ⟨B, 3, none⟩ (.slice TA D.length TC)).setCell ⟨B, 4, none⟩ (.slice A' (ps.length + 1) c')).setCell ⟨B, 5, none⟩ (.int .u64 n')) ∧
      Held w7 B 66 (PC xs q r.2.2.2 TA D.length TC LA LL LC n) := by
  subst he
  obtain ⟨g1, hx⟩ := h.gx.next hN hNB ht TA D.length TC A' (ps.length + 1) c' n' q' R.2.2.2
  have hgr := grown_put6 w7 B (.string (strOfNums xs)) (.int .i64 q') (.int .i64 R.2.2.2) (.slice TA D.length TC) (.slice A' (ps.length + 1) c') (.int .u64 n')
  have hT := ht.own h.txt (by decide) (by decide)
  refine ⟨⟨g1, hq, World.ownsRow.kept hT hgr (.inr (fun e => own_not_held hT hx (by decide) e.symm)), fun hz => ?_⟩, hx⟩
  obtain ⟨h1, d1, h2, h3⟩ := hok hz
  refine ⟨h1, ps ++ [d1], by simp, ?_, by rw [List.map_append, hps, List.map_cons, List.map_nil, h3]⟩
  rw [show (ps ++ [d1]).length = ps.length + 1 by simp]
  exact h2.aside hx (by decide) (by decide) (by decide) hgr
end

set_option maxRecDepth 100000 in
set_option maxHeartbeats 16000000 in
theorem rget15_any (A : Option Addr) (c : Nat) (ds : List Pd) (xs : List Int) (hb : ∀ x ∈ xs, 0 ≤ x ∧ x < 256) (hl : xs.length ≤ 1000000) (w : World) (hrow : PredRow w w.heap.size (.slice A ds.length c) ds) :
    Calls Tryz.prog 7 #[.slice A ds.length c, .string (strOfNums xs)] w (RUGot w (getU (ds.map (·.p)) xs)) := by
  obtain ⟨N, hN⟩ : ∃ N, w.heap.size = N := ⟨_, rfl⟩
  have hwa : Below N w (w.alloc (.cells #[] 48)) ∧ (w.alloc (.cells #[] 48)).heap.size = N + 1 := ⟨(Below.refl _ _).alloc (by omega) _, by rw [World.size_alloc, hN]⟩
  have hcka := rcheck_any A c ds _ ((hrow.below (hN ▸ hwa.1)).more (B' := (w.alloc (.cells #[] 48)).heap.size) (by rw [hwa.2, hN]; omega))
  have HWA := Lib.hid hwa
  by_cases h0 : checkP (ds.map (·.p)) ≠ 0
  · have HG := Lib.hid (show getU (ds.map (·.p)) xs = ([], checkP (ds.map (·.p))) from if_pos h0)
    have hne : (checkP (ds.map (·.p)) != 0) = true := bne_iff_ne.2 h0
    generalize getU (ds.map (·.p)) xs = R at HG ⊢
    generalize checkP (ds.map (·.p)) = k at hcka hne HG
    have HCK := Lib.hid hcka
    clear hcka hrow hb hl h0 hwa
    go_enter Tryz.func7, Tryz.ntmps7
    go_wp2_with fail
    refine HCK.out.mono ?_
    rintro e w1 ⟨rfl, rfl⟩
    go_wp2_with fail
    go_ret2
    exact rgot_none HG.out rfl (by rw [hN]; exact HWA.out.1)
  have h0 : checkP (ds.map (·.p)) = 0 := by simpa using h0
  rw [h0] at hcka
  have HCKA := Lib.hid hcka
  obtain ⟨t1, ht1⟩ : ∃ t, nx m64 xs 0 0 = t := ⟨_, rfl⟩
  obtain ⟨K1, q1, e1⟩ := t1
  obtain ⟨⟨k1, hk1, -, hk64⟩, -, hq1⟩ := nx_range (e := 0) hb (m := m64) (by decide) (Nat.zero_le xs.length)
  rw [ht1] at hk1 hq1
  simp only at hk1 hq1
  subst hk1
  have HN1 := Lib.hid (show ∀ W, Calls Tryz.prog 21 #[.agg #[.string (strOfNums xs), .int .i64 0, .int .i64 0, .slice none 0 0, .slice none 0 0, .int .u64 0], .int .u64 18446744073709551615] W fun r w' => r = .returned (PV xs q1 e1 none 0 0 none 0 0 k1) ∧ Below W.heap.size W w' from fun W => by
    have h := pnum_any (TA := none) (TL := 0) (TC := 0) (LA := none) (LL := 0) (LC := 0) (n := 0) (m := m64) (p := 0) (e := 0) (w := W) (Nat.zero_le _) hl hb
    rw [ht1] at h
    exact h)
  obtain ⟨t2, ht2⟩ : ∃ t, nx 1024 xs q1 e1 = t := ⟨_, rfl⟩
  obtain ⟨Mi, q2, e2⟩ := t2
  obtain ⟨⟨M, hM, hM1, hM64⟩, -, hq2⟩ := nx_range (e := e1) hb (m := 1024) (by decide) hq1
  have hM0e := nx_err (m := 1024) (xs := xs) (p := q1) (e := e1)
  rw [ht2] at hM hq2 hM0e
  simp only at hM hq2 hM0e
  subst hM
  have hMle : M ≤ 1024 := by omega
  have hM0e : e2 ≠ 0 → M = 0 := fun h => by have := hM0e h; omega
  have HN2 := Lib.hid (show ∀ W, Calls Tryz.prog 21 #[PV xs q1 e1 none 0 0 none 0 0 k1, .int .u64 1024] W fun r w' => r = .returned (PV xs q2 e2 none 0 0 none 0 0 M) ∧ Below W.heap.size W w' from fun W => by
    have h := pnum_any (TA := none) (TL := 0) (TC := 0) (LA := none) (LL := 0) (LC := 0) (n := k1) (m := 1024) (p := q1) (e := e1) (w := W) hq1 hl hb
    rw [ht2] at h
    exact h)
  have hbase : baseU xs = (((k1 : Nat) : Int), q1, e1) := ht1
  have hcnt : cntU xs = (((M : Nat) : Int), q2, if ((M : Nat) : Int) = 0 then stU e2 4 else e2) := by
    unfold cntU countU
    rw [hbase]
    simp only [ht2]
  have HTXS := Lib.hid (fun (e : Int) (W : World) => ptexts_any (p := q2) (e := e) (LA := none) (LL := 0) (LC := 0) (n := (M : Int)) (w := W) hq2 hl hb)
  have HDEAD := Lib.hid (fun (k : Int) (h : (if ((M : Nat) : Int) = 0 then stU e2 4 else e2) = k) (hk : k ≠ 0) => show getU (ds.map (·.p)) xs = ([], k) by
    have hd : (dicU xs).2.2 = k := by
      unfold dicU
      rw [hcnt]
      simp only [h]
      exact dictU_stop hk
    have hr := readU_err (sig := ds.map (·.p)) (xs := xs) (by rw [hd]; exact hk)
    rw [hd] at hr
    rw [getU_err h0 (by rw [hr]; exact hk), hr])
  have hwm : IntKind.i64.wrap (M : Int) = (M : Int) := IntWalk.i64_in _ (by omega)
  have hss : (strOfNums xs).size = xs.length := strOfNums_size xs
  have HLV := Lib.hid (And.intro h0 (And.intro hb (And.intro hrow (And.intro hbase hcnt))))
  clear hcka hwa ht1 ht2 hbase hcnt hrow h0 hM64
  by_cases he2 : e2 = 0
  · subst he2
    by_cases hM0 : M = 0
    · have hMz : ((M : Int) == 0) = true := by rw [hM0]; rfl
      have HWHY := Lib.hid (HDEAD.out 4 (by rw [hM0]; rfl) (by decide))
      have HTE := Lib.hid (dictU_stop (xs := xs) (p := q2) (e := 4) (by decide))
      have HTX := Lib.hid (fun W => HTXS.out 4 W)
      have HBAD := Lib.hid (fun W => pbad_any (xs := xs) (p := q2) (e := 0) (TA := none) (TL := 0) (TC := 0) (LA := none) (LL := 0) (LC := 0) (n := (M : Int)) (w := W) 4)
      rw [stU_zero] at HBAD
      clear hM0 HLV HTXS HDEAD hM0e hb
      generalize getU (ds.map (·.p)) xs = R at HWHY ⊢
      go_enter Tryz.func7, Tryz.ntmps7
      go_wp2_with fail
      generalize w.alloc (.cells #[] 48) = wa at HWA HCKA ⊢
      refine HCKA.out.mono ?_
      rintro r w0 ⟨rfl, rfl⟩
      go_wp2_with fail
      refine (HN1.out _).mono ?_
      rintro r w1 ⟨rfl, hb1⟩
      obtain ⟨B, hB⟩ : ∃ B, w1.heap.size = B := ⟨_, rfl⟩
      have hNB : N ≤ B := by have := hb1.size; have := HWA.out.2; omega
      have hg1 : GxAt w N B xs none 0 0 none 0 0 k1 q1 e1 (w1.alloc (.cells (PC xs q1 e1 none 0 0 none 0 0 k1) 66)) := by
        refine ⟨by rw [← hB]; exact heap_alloc_new w1 _, Turns.of_below' ?_ hN⟩
        exact (HWA.out.1.trans (hb1.mono (by have := HWA.out.2; omega))).alloc (by rw [hB]; exact hNB) _
      have HG1 := Lib.hid hg1
      have p0 := hg1.box.cell 0
      have p1 := hg1.box.cell 1
      have p2 := hg1.box.cell 2
      have p3 := hg1.box.cell 3
      have p4 := hg1.box.cell 4
      have p5 := hg1.box.cell 5
      simp at p0 p1 p2 p3 p4 p5
      clear hg1 hb1 HWA HCKA
      go_wp2_with fail
      generalize w1.alloc (.cells (PC xs q1 e1 none 0 0 none 0 0 k1) 66) = w2 at HG1 p0 p1 p2 p3 p4 p5 ⊢
      clear hB
      refine (HN2.out _).mono ?_
      rintro r w3 ⟨rfl, hb3⟩
      clear p0 p1 p2 p3 p4 p5
      obtain ⟨hg', hx'⟩ := HG1.out.next hN hNB (Turns.of_below hb3 (by have := HG1.out.box.lt; omega)) none 0 0 none 0 0 M q2 0
      have HG := Lib.hid hg'
      have f0 := hx'.frozen 0
      have f1 := hx'.frozen 1
      have f2 := hx'.frozen 2
      have f3 := hx'.frozen 3
      have f4 := hx'.frozen 4
      have f5 := hx'.frozen 5
      have z0 := hx'.cell 0
      have z1 := hx'.cell 1
      have z2 := hx'.cell 2
      have z3 := hx'.cell 3
      have z4 := hx'.cell 4
      have z5 := hx'.cell 5
      simp at z0 z1 z2 z3 z4 z5
      have p0 := hg'.box.cell 0
      have p1 := hg'.box.cell 1
      have p2 := hg'.box.cell 2
      have p3 := hg'.box.cell 3
      have p4 := hg'.box.cell 4
      have p5 := hg'.box.cell 5
      simp at p0 p1 p2 p3 p4 p5
      clear hx' hg'
      go_wp2_with fail
      generalize ((((((w3.setCell ⟨B, 0, none⟩ (.string (strOfNums xs))).setCell ⟨B, 1, none⟩ (.int .i64 q2)).setCell ⟨B, 2, none⟩ (.int .i64 0)).setCell ⟨B, 3, none⟩ (.slice none 0 0)).setCell ⟨B, 4, none⟩ (.slice none 0 0)).setCell ⟨B, 5, none⟩ (.int .u64 M)) = w4 at HG p0 p1 p2 p3 p4 p5  ⊢
      clear f0 f1 f2 f3 f4 f5 z0 z1 z2 z3 z4 z5
      clear hb3 HG1
      refine (HBAD.out _).mono ?_
      rintro r w41 ⟨rfl, hb41⟩
      clear p0 p1 p2 p3 p4 p5
      obtain ⟨hg', hx'⟩ := HG.out.next hN hNB (Turns.of_below hb41 (by have := HG.out.box.lt; omega)) none 0 0 none 0 0 M q2 4
      have HG0 := Lib.hid hg'
      have f0 := hx'.frozen 0
      have f1 := hx'.frozen 1
      have f2 := hx'.frozen 2
      have f3 := hx'.frozen 3
      have f4 := hx'.frozen 4
      have f5 := hx'.frozen 5
      have z0 := hx'.cell 0
      have z1 := hx'.cell 1
      have z2 := hx'.cell 2
      have z3 := hx'.cell 3
      have z4 := hx'.cell 4
      have z5 := hx'.cell 5
      simp at z0 z1 z2 z3 z4 z5
      have p0 := hg'.box.cell 0
      have p1 := hg'.box.cell 1
      have p2 := hg'.box.cell 2
      have p3 := hg'.box.cell 3
      have p4 := hg'.box.cell 4
      have p5 := hg'.box.cell 5
      simp at p0 p1 p2 p3 p4 p5
      clear hx' hg'
      go_wp2_with fail
      generalize ((((((w41.setCell ⟨B, 0, none⟩ (.string (strOfNums xs))).setCell ⟨B, 1, none⟩ (.int .i64 q2)).setCell ⟨B, 2, none⟩ (.int .i64 4)).setCell ⟨B, 3, none⟩ (.slice none 0 0)).setCell ⟨B, 4, none⟩ (.slice none 0 0)).setCell ⟨B, 5, none⟩ (.int .u64 M)) = w42 at HG0 p0 p1 p2 p3 p4 p5  ⊢
      clear f0 f1 f2 f3 f4 f5 z0 z1 z2 z3 z4 z5
      clear HG hb41
      have HG := HG0
      clear p0 p1 p2 p3 p4 p5
      refine (HTX.out _).mono ?_
      rintro r w5 hgot
      obtain ⟨q', E', TA', TL', TC', n', rfl, hq', hE', -, hb5⟩ := hgot
      rw [HTE.out] at hE'
      subst E'
      obtain ⟨hg', hx'⟩ := HG.out.next hN hNB (Turns.of_below hb5 (by have := HG.out.box.lt; omega)) TA' TL' TC' none 0 0 n' q' 4
      have HG6 := Lib.hid hg'
      have f0 := hx'.frozen 0
      have f1 := hx'.frozen 1
      have f2 := hx'.frozen 2
      have f3 := hx'.frozen 3
      have f4 := hx'.frozen 4
      have f5 := hx'.frozen 5
      have z0 := hx'.cell 0
      have z1 := hx'.cell 1
      have z2 := hx'.cell 2
      have z3 := hx'.cell 3
      have z4 := hx'.cell 4
      have z5 := hx'.cell 5
      simp at z0 z1 z2 z3 z4 z5
      have p0 := hg'.box.cell 0
      have p1 := hg'.box.cell 1
      have p2 := hg'.box.cell 2
      have p3 := hg'.box.cell 3
      have p4 := hg'.box.cell 4
      have p5 := hg'.box.cell 5
      simp at p0 p1 p2 p3 p4 p5
      clear hx' hg'
      go_wp2_with fail
      generalize ((((((w5.setCell ⟨B, 0, none⟩ (.string (strOfNums xs))).setCell ⟨B, 1, none⟩ (.int .i64 q')).setCell ⟨B, 2, none⟩ (.int .i64 4)).setCell ⟨B, 3, none⟩ (.slice TA' TL' TC')).setCell ⟨B, 4, none⟩ (.slice none 0 0)).setCell ⟨B, 5, none⟩ (.int .u64 n')) = w6 at HG6 p0 p1 p2 p3 p4 p5  ⊢
      clear f0 f1 f2 f3 f4 f5 z0 z1 z2 z3 z4 z5
      clear p0 p1 p2 p3 p4 p5
      go_loopg [11] 0 (fun gk i wr => i = .int .i64 0 ∧ Hid (GxAt w N B xs TA' TL' TC' none 0 0 n' q' 4 wr))
      case atStart => exact ⟨rfl, HG6⟩
      case round =>
        obtain ⟨rfl, HG7⟩ := hrel
        have hg7 := HG7.out
        have f0 := hg7.box.frozen 0
        have f1 := hg7.box.frozen 1
        have f2 := hg7.box.frozen 2
        have f3 := hg7.box.frozen 3
        have f4 := hg7.box.frozen 4
        have f5 := hg7.box.frozen 5
        have z0 := hg7.box.cell 0
        have z1 := hg7.box.cell 1
        have z2 := hg7.box.cell 2
        have z3 := hg7.box.cell 3
        have z4 := hg7.box.cell 4
        have z5 := hg7.box.cell 5
        simp at z0 z1 z2 z3 z4 z5
        clear hg7
        by_cases hlt : 0 < M
        · go_wp2_with fail
          go_quiet (fail)
          go_wp2_with fail
          go_ret2
          exact rgot_none (HWHY.out) rfl (by rw [hN]; exact below_drewN HG7.out.trn.1 _)
        · go_wp2_with fail
          go_quiet (fail)
          go_wp2_with fail
          go_ret2
          exact rgot_none (HWHY.out) rfl (by rw [hN]; exact below_drewN HG7.out.trn.1 _)
    · have hMz : ((M : Int) == 0) = false := beq_eq_false_iff_ne.2 (by omega)
      obtain ⟨h0, hb', hrow, hbase, hcnt⟩ := HLV.out
      rw [if_neg (show ¬ ((M : Nat) : Int) = 0 by omega)] at hcnt
      have hss' : ∀ q ∈ ds.map (·.p), ∀ t ∈ q.args, -9223372036854775808 ≤ t ∧ t ≤ 9223372036854775807 := fun q hq => by
        obtain ⟨d, hd, rfl⟩ := List.mem_map.1 hq
        obtain ⟨A', c', hv, h1, h2, h3, h4, h5⟩ := hrow
        exact (h5 d hd).2.2.2
      obtain ⟨td, htd⟩ : ∃ t, dicU xs = t := ⟨_, rfl⟩
      have htd' : dictU xs q2 0 = td := by rw [← htd]; unfold dicU; rw [hcnt]
      obtain ⟨D, q3, E3⟩ := td
      have HRG := Lib.hid (dicU_range hb)
      have hDl : D.length ≤ 4096 := by
        have h : (dictU xs q2 0).1.length = (nx 4096 xs q2 0).1.toNat := stepsU_length _
        rw [htd'] at h
        obtain ⟨⟨n, k1, k2, _⟩, _⟩ := nx_range (e := 0) hb (m := 4096) (by decide) hq2
        rw [k1] at h
        simp only at h
        omega
      rw [htd] at HRG
      obtain ⟨hD, hq3⟩ := HRG.out
      simp only at hD hq3
      obtain ⟨F, hF⟩ : ∃ F : Nat → List Pn × Int × Nat × Int, ptsU (ds.map (·.p)) D xs ((k1 : Int), q3, E3) = F := ⟨_, rfl⟩
      have hFM : readU (ds.map (·.p)) xs = F M := by
        unfold readU
        rw [htd, hbase, hcnt, ← hF, Int.toNat_natCast]
      have HF0 := Lib.hid (show F 0 = ([], (k1 : Int), q3, E3) by rw [← hF]; rfl)
      have HFS := Lib.hid (fun j => show F (j + 1) = ((F j).1 ++ [(ptU (ds.map (·.p)) D xs j (F j).2).1], (ptU (ds.map (·.p)) D xs j (F j).2).2) by rw [← hF]; rfl)
      have HFL := Lib.hid (fun j => show (F j).1.length = j by rw [← hF]; exact stepsU_length j)
      have HFR := Lib.hid (fun j => show (F j).2.2.1 ≤ xs.length ∧ 0 ≤ (F j).2.1 ∧ (F j).2.1 < 18446744073709551616 by rw [← hF]; exact ptsU_range hb hss' hD hq3 ⟨by simp only; omega, by simp only; omega⟩ j)
      have HFE := Lib.hid (fun (k j : Nat) (h : (F k).2.2.2 ≠ 0) (hk : k ≤ j) => show (F j).2.2.2 = (F k).2.2.2 by
        rw [← hF] at h ⊢
        unfold ptsU at h ⊢
        exact stepsU_stop (er := fun s : Int × Nat × Int => s.2.2) (fun j s hs => ptU_stop hs) h j hk)
      have HFT := Lib.hid (fun (j : Nat) (hj : j ≠ 0) => show ∃ x, (F j).1[(F j).1.length - 1]? = some x ∧ x.tm = (F j).2.1 by
        obtain ⟨i, rfl⟩ := Nat.exists_eq_succ_of_ne_zero hj
        rw [Nat.succ_eq_add_one, HFS.out]
        exact ⟨(ptU (ds.map (·.p)) D xs i (F i).2).1, by simp, rfl⟩)
      have HXW := Lib.hid (fun (h : E3 ≠ 0) => show getU (ds.map (·.p)) xs = ([], E3) by
        have hr := readU_err (sig := ds.map (·.p)) (xs := xs) (by rw [htd]; exact h)
        rw [htd] at hr
        rw [getU_err h0 (by rw [hr]; exact h), hr])
      have HGE := Lib.hid (fun (h : (F M).2.2.2 ≠ 0) => show getU (ds.map (·.p)) xs = ([], (F M).2.2.2) by rw [← hFM] at h ⊢; exact getU_err h0 h)
      have HGL := Lib.hid (fun (h : (F M).2.2.2 = 0) (h1 : (F M).2.2.1 < xs.length) => show getU (ds.map (·.p)) xs = ([], 4) by rw [← hFM] at h h1; exact getU_left h0 h h1)
      have HGG := Lib.hid (fun (h : (F M).2.2.2 = 0) (h1 : ¬ (F M).2.2.1 < xs.length) (h2 : 4096 < xs.length) => show getU (ds.map (·.p)) xs = ([], 6) by rw [← hFM] at h h1; exact getU_long h0 h h1 h2)
      have HGO := Lib.hid (fun (h : (F M).2.2.2 = 0) (h1 : ¬ (F M).2.2.1 < xs.length) (h2 : ¬ 4096 < xs.length) (h3 : putB (ds.map (·.p)) ((F M).1.map bareP) ≠ (xs, 0)) => show getU (ds.map (·.p)) xs = ([], 4) by rw [← hFM] at h h1 h3; exact getU_other h0 h h1 h2 h3)
      have HGY := Lib.hid (fun (h : (F M).2.2.2 = 0) (h1 : ¬ (F M).2.2.1 < xs.length) (h2 : ¬ 4096 < xs.length) (h3 : putB (ds.map (·.p)) ((F M).1.map bareP) = (xs, 0)) => show getU (ds.map (·.p)) xs = ((F M).1, 0) by rw [← hFM] at h h1 h3 ⊢; exact getU_good h0 h h1 h2 h3)
      have HTX := Lib.hid (fun W => HTXS.out 0 W)
      have HTE := Lib.hid htd'
      have HKK := Lib.hid (And.intro h0 (And.intro hD hb'))
      have HSIG := Lib.hid (fun (W : World) (K : Nat) (h : Turns N w W) (hK : N ≤ K) => show PredRow W K (.slice A ds.length c) ds from by subst hN; exact (hrow.below h.1).more hK)
      clear h0 hb' hrow hbase hcnt htd htd' HRG hD hF hFM hss' HLV HTXS HDEAD hM0e hM0 hb
      generalize getU (ds.map (·.p)) xs = R at HXW HGE HGL HGG HGO HGY ⊢
      go_enter Tryz.func7, Tryz.ntmps7
      go_wp2_with fail
      generalize w.alloc (.cells #[] 48) = wa at HWA HCKA ⊢
      refine HCKA.out.mono ?_
      rintro r w0 ⟨rfl, rfl⟩
      go_wp2_with fail
      refine (HN1.out _).mono ?_
      rintro r w1 ⟨rfl, hb1⟩
      obtain ⟨B, hB⟩ : ∃ B, w1.heap.size = B := ⟨_, rfl⟩
      have hNB : N ≤ B := by have := hb1.size; have := HWA.out.2; omega
      have hg1 : GxAt w N B xs none 0 0 none 0 0 k1 q1 e1 (w1.alloc (.cells (PC xs q1 e1 none 0 0 none 0 0 k1) 66)) := by
        refine ⟨by rw [← hB]; exact heap_alloc_new w1 _, Turns.of_below' ?_ hN⟩
        exact (HWA.out.1.trans (hb1.mono (by have := HWA.out.2; omega))).alloc (by rw [hB]; exact hNB) _
      have HG1 := Lib.hid hg1
      have p0 := hg1.box.cell 0
      have p1 := hg1.box.cell 1
      have p2 := hg1.box.cell 2
      have p3 := hg1.box.cell 3
      have p4 := hg1.box.cell 4
      have p5 := hg1.box.cell 5
      simp at p0 p1 p2 p3 p4 p5
      clear hg1 hb1 HWA HCKA
      go_wp2_with fail
      generalize w1.alloc (.cells (PC xs q1 e1 none 0 0 none 0 0 k1) 66) = w2 at HG1 p0 p1 p2 p3 p4 p5 ⊢
      clear hB
      refine (HN2.out _).mono ?_
      rintro r w3 ⟨rfl, hb3⟩
      clear p0 p1 p2 p3 p4 p5
      obtain ⟨hg', hx'⟩ := HG1.out.next hN hNB (Turns.of_below hb3 (by have := HG1.out.box.lt; omega)) none 0 0 none 0 0 M q2 0
      have HG := Lib.hid hg'
      have f0 := hx'.frozen 0
      have f1 := hx'.frozen 1
      have f2 := hx'.frozen 2
      have f3 := hx'.frozen 3
      have f4 := hx'.frozen 4
      have f5 := hx'.frozen 5
      have z0 := hx'.cell 0
      have z1 := hx'.cell 1
      have z2 := hx'.cell 2
      have z3 := hx'.cell 3
      have z4 := hx'.cell 4
      have z5 := hx'.cell 5
      simp at z0 z1 z2 z3 z4 z5
      have p0 := hg'.box.cell 0
      have p1 := hg'.box.cell 1
      have p2 := hg'.box.cell 2
      have p3 := hg'.box.cell 3
      have p4 := hg'.box.cell 4
      have p5 := hg'.box.cell 5
      simp at p0 p1 p2 p3 p4 p5
      clear hx' hg'
      go_wp2_with fail
      generalize ((((((w3.setCell ⟨B, 0, none⟩ (.string (strOfNums xs))).setCell ⟨B, 1, none⟩ (.int .i64 q2)).setCell ⟨B, 2, none⟩ (.int .i64 0)).setCell ⟨B, 3, none⟩ (.slice none 0 0)).setCell ⟨B, 4, none⟩ (.slice none 0 0)).setCell ⟨B, 5, none⟩ (.int .u64 M)) = w4 at HG p0 p1 p2 p3 p4 p5  ⊢
      clear f0 f1 f2 f3 f4 f5 z0 z1 z2 z3 z4 z5
      clear hb3 HG1
      clear p0 p1 p2 p3 p4 p5
      refine (HTX.out _).mono ?_
      rintro r w5 hgot
      obtain ⟨q', E', TA, TL, TC, n', rfl, hq', hE', hok', hb5⟩ := hgot
      rw [HTE.out] at hE' hok'
      simp only at hE' hok'
      subst E'
      by_cases hE3 : E3 = 0
      · obtain ⟨hqq, hTL, hT5⟩ := hok' hE3
        subst hE3
        subst hTL
        subst hqq
        have hsz4 := HG.out.box.lt
        have HT5 := Lib.hid hT5
        clear hok' hT5 HXW
        obtain ⟨hg', hx'⟩ := HG.out.next hN hNB (Turns.of_below hb5 (by omega)) TA D.length TC none 0 0 n' q' 0
        have HG6 := Lib.hid hg'
        have f0 := hx'.frozen 0
        have f1 := hx'.frozen 1
        have f2 := hx'.frozen 2
        have f3 := hx'.frozen 3
        have f4 := hx'.frozen 4
        have f5 := hx'.frozen 5
        have z0 := hx'.cell 0
        have z1 := hx'.cell 1
        have z2 := hx'.cell 2
        have z3 := hx'.cell 3
        have z4 := hx'.cell 4
        have z5 := hx'.cell 5
        simp at z0 z1 z2 z3 z4 z5
        have p0 := hg'.box.cell 0
        have p1 := hg'.box.cell 1
        have p2 := hg'.box.cell 2
        have p3 := hg'.box.cell 3
        have p4 := hg'.box.cell 4
        have p5 := hg'.box.cell 5
        simp at p0 p1 p2 p3 p4 p5
        have HLX6 := Lib.hid (lx_start (k := (k1 : Int)) hg' hx' (grown_put6 w5 B (.string (strOfNums xs)) (.int .i64 q') (.int .i64 0) (.slice TA D.length TC) (.slice none 0 0) (.int .u64 n')) HT5.out (by omega) hq')
        clear hx' hg'
        go_wp2_with fail
        generalize ((((((w5.setCell ⟨B, 0, none⟩ (.string (strOfNums xs))).setCell ⟨B, 1, none⟩ (.int .i64 q')).setCell ⟨B, 2, none⟩ (.int .i64 0)).setCell ⟨B, 3, none⟩ (.slice TA D.length TC)).setCell ⟨B, 4, none⟩ (.slice none 0 0)).setCell ⟨B, 5, none⟩ (.int .u64 n')) = w6 at HG6 p0 p1 p2 p3 p4 p5 HLX6 ⊢
        clear f0 f1 f2 f3 f4 f5 z0 z1 z2 z3 z4 z5
        clear p0 p1 p2 p3 p4 p5 hb5 HG HG6 hsz4 HT5 hq3
        go_loopg [11] M (fun gk i wr => ∃ (j q : Nat) (LA : Option Addr) (LL LC : Nat) (n : Int), j ≤ M ∧ i = .int .i64 j ∧ Hid (M - j = gk) ∧ Hid (LxAt w N B xs D TA TC LA LL LC n q (F j) wr))
        case atStart => exact ⟨0, _, none, 0, 0, _, Nat.zero_le _, rfl, Lib.hid rfl, Lib.hid (by rw [HF0.out]; exact HLX6.out)⟩
        case round =>
          obtain ⟨j, q, LA, LL, LC, n, hj, rfl, HGK, HLX⟩ := hrel
          have hlx := HLX.out
          clear HLX6
          have f0 := hlx.gx.box.frozen 0
          have f1 := hlx.gx.box.frozen 1
          have f2 := hlx.gx.box.frozen 2
          have f3 := hlx.gx.box.frozen 3
          have f4 := hlx.gx.box.frozen 4
          have f5 := hlx.gx.box.frozen 5
          have z0 := hlx.gx.box.cell 0
          have z1 := hlx.gx.box.cell 1
          have z2 := hlx.gx.box.cell 2
          have z3 := hlx.gx.box.cell 3
          have z4 := hlx.gx.box.cell 4
          have z5 := hlx.gx.box.cell 5
          simp at z0 z1 z2 z3 z4 z5
          by_cases hgo : j < M ∧ (F j).2.2.2 = 0
          · obtain ⟨hlt, he⟩ := hgo
            rw [he] at z2
            obtain ⟨hq0, ps, hLL, hL, hps⟩ := hlx.ok he
            subst hLL
            obtain ⟨h0, hD, hb⟩ := HKK.out
            obtain ⟨b, hbj⟩ : ∃ b, ((j : Int) == 0) = b := ⟨_, rfl⟩
            have hbd : b = decide (j = 0) := by rw [← hbj]; by_cases h : j = 0 <;> simp [h]
            have hpl : ps.length = j := by have h := congrArg List.length hps; rw [List.length_map, HFL.out] at h; exact h
            have HCALL := Lib.hid (ppoint_any (n := n) (base := (k1 : Int)) A c (i := j) (tm := (F j).2.1) (b := b) (p := q) hlx.qle hl hb hlx.txt hDl hD hL (by omega) (by have := hlx.gx.box.lt; omega) (HSIG.out wr N hlx.gx.trn (Nat.le_refl _)) h0 (HFR.out j).2 hbd (fun h => by subst h; rw [HF0.out]) (fun h => last_tm hps (by rw [HFL.out]; omega) (HFT.out j h)))
            have HMO := Lib.hid (fun (w7 : World) (q' : Nat) (e' : Int) (A' : Option Addr) (c' : Nat) (n' : Int) ht hq' hE' hok => LxAt.more (w7 := w7) (q' := q') (e' := e') (A' := A') (c' := c') (n' := n') (R := ptU (ds.map (·.p)) D xs j ((F j).2.1, q, 0)) hlx hN hNB hps ht hq' hE' hok)
            have HNX := Lib.hid (show F (j + 1) = ((F j).1 ++ [(ptU (ds.map (·.p)) D xs j ((F j).2.1, q, 0)).1], (ptU (ds.map (·.p)) D xs j ((F j).2.1, q, 0)).2) by
              have e : (F j).2 = ((F j).2.1, q, 0) := by rw [hq0, ← he]
              rw [HFS.out, ← e])
            clear hlx hL hps h0 hD hb hq0 he hpl hbd
            go_wp2_with fail
            refine HCALL.out.mono ?_
            rintro rr w7 hgot
            obtain ⟨q2', E2, A2, c2, n2, rfl, hq2', hE2, hok2, htn⟩ := hgot
            obtain ⟨hmore, hx7⟩ := HMO.out w7 q2' E2 A2 c2 n2 htn hq2' hE2 hok2
            rw [← HNX.out] at hmore
            have HMORE := Lib.hid hmore
            clear hmore hok2 htn hE2 HCALL HMO f0 f1 f2 f3 f4 f5 z0 z1 z2 z3 z4 z5
            have f0 := hx7.frozen 0
            have f1 := hx7.frozen 1
            have f2 := hx7.frozen 2
            have f3 := hx7.frozen 3
            have f4 := hx7.frozen 4
            have f5 := hx7.frozen 5
            have z0 := hx7.cell 0
            have z1 := hx7.cell 1
            have z2 := hx7.cell 2
            have z3 := hx7.cell 3
            have z4 := hx7.cell 4
            have z5 := hx7.cell 5
            simp at z0 z1 z2 z3 z4 z5
            clear hx7
            go_wp2_with fail
            generalize ((((((w7.setCell ⟨B, 0, none⟩ (.string (strOfNums xs))).setCell ⟨B, 1, none⟩ (.int .i64 q2')).setCell ⟨B, 2, none⟩ (.int .i64 E2)).setCell ⟨B, 3, none⟩ (.slice TA D.length TC)).setCell ⟨B, 4, none⟩ (.slice A2 (ps.length + 1) c2)).setCell ⟨B, 5, none⟩ (.int .u64 n2)) = w8 at HMORE ⊢
            go_roundg (M - (j + 1))
            case measure => have := HGK.out; omega
            case rel => exact ⟨j + 1, q2', A2, ps.length + 1, c2, n2, by omega, by go_num, Lib.hid rfl, HMORE⟩
          · by_cases he : (F j).2.2.2 ≠ 0
            · have hne : ((F j).2.2.2 == 0) = false := beq_eq_false_iff_ne.2 he
              have hnb : ((F j).2.2.2 != 0) = true := bne_iff_ne.2 he
              have HEE := Lib.hid (HFE.out j M he hj)
              have HE0 := Lib.hid he
              clear hgo he hlx
              by_cases hlt : j < M
              · go_wp2_with fail
                go_quiet (fail)
                go_wp2_with fail
                go_ret2
                exact rgot_none (by rw [HGE.out (by rw [HEE.out]; exact HE0.out), HEE.out]) rfl (by rw [hN]; exact below_drewN HLX.out.gx.trn.1 _)
              · go_wp2_with fail
                go_quiet (fail)
                go_wp2_with fail
                go_ret2
                exact rgot_none (by rw [HGE.out (by rw [HEE.out]; exact HE0.out), HEE.out]) rfl (by rw [hN]; exact below_drewN HLX.out.gx.trn.1 _)
            · have he : (F j).2.2.2 = 0 := Classical.byContradiction he
              have hjm : j = M := Classical.byContradiction fun h => hgo ⟨by omega, he⟩
              subst hjm
              rw [he] at z2
              obtain ⟨hq0, ps, hLL, hL, hps⟩ := hlx.ok he
              subst hLL
              rw [← hq0] at HGL HGG HGO HGY
              have HGX := Lib.hid (show GxAt w N B xs TA D.length TC LA ps.length LC n q 0 wr from by rw [← he]; exact hlx.gx)
              have HWL := Lib.hid (HGL.out he)
              have HWG := Lib.hid (HGG.out he)
              have HWO := Lib.hid (HGO.out he)
              have HWY := Lib.hid (HGY.out he)
              have HL := Lib.hid hL
              have HPS := Lib.hid hps
              clear hgo hlx he hq0 hL hps HGE HGL HGG HGO HGY HFE HFT HFR HF0 HFS HLX
              by_cases hleft : q < xs.length
              · have HWHY := Lib.hid (HWL.out hleft)
                have HBAD := Lib.hid (fun W => pbad_any (xs := xs) (p := q) (e := 0) (TA := TA) (TL := D.length) (TC := TC) (LA := LA) (LL := ps.length) (LC := LC) (n := n) (w := W) 4)
                rw [stU_zero] at HBAD
                clear HWL HWG HWO HWY HL HPS
                go_wp2_with fail
                refine (HBAD.out _).mono ?_
                rintro r w7 ⟨rfl, hb7⟩
                clear f0 f1 f2 f3 f4 f5 z0 z1 z2 z3 z4 z5
                obtain ⟨hg', hx'⟩ := HGX.out.next hN hNB (Turns.of_below hb7 (by have := HGX.out.box.lt; omega)) TA D.length TC LA ps.length LC n q 4
                have HG8 := Lib.hid hg'
                have f0 := hx'.frozen 0
                have f1 := hx'.frozen 1
                have f2 := hx'.frozen 2
                have f3 := hx'.frozen 3
                have f4 := hx'.frozen 4
                have f5 := hx'.frozen 5
                have z0 := hx'.cell 0
                have z1 := hx'.cell 1
                have z2 := hx'.cell 2
                have z3 := hx'.cell 3
                have z4 := hx'.cell 4
                have z5 := hx'.cell 5
                simp at z0 z1 z2 z3 z4 z5
                have p0 := hg'.box.cell 0
                have p1 := hg'.box.cell 1
                have p2 := hg'.box.cell 2
                have p3 := hg'.box.cell 3
                have p4 := hg'.box.cell 4
                have p5 := hg'.box.cell 5
                simp at p0 p1 p2 p3 p4 p5
                clear hx' hg'
                go_wp2_with fail
                generalize ((((((w7.setCell ⟨B, 0, none⟩ (.string (strOfNums xs))).setCell ⟨B, 1, none⟩ (.int .i64 q)).setCell ⟨B, 2, none⟩ (.int .i64 4)).setCell ⟨B, 3, none⟩ (.slice TA D.length TC)).setCell ⟨B, 4, none⟩ (.slice LA ps.length LC)).setCell ⟨B, 5, none⟩ (.int .u64 n)) = w8 at HG8 p0 p1 p2 p3 p4 p5  ⊢
                clear f0 f1 f2 f3 f4 f5 z0 z1 z2 z3 z4 z5
                go_quiet (fail)
                go_wp2_with fail
                go_ret2
                exact rgot_none (HWHY.out) rfl (by rw [hN]; exact below_drewN HG8.out.trn.1 _)
              · by_cases hlong : 4096 < xs.length
                · have hlong2 : (4096 : Int) < (xs.length : Int) := by omega
                  have HWHY := Lib.hid (HWG.out hleft hlong)
                  have HBAD := Lib.hid (fun W => pbad_any (xs := xs) (p := q) (e := 0) (TA := TA) (TL := D.length) (TC := TC) (LA := LA) (LL := ps.length) (LC := LC) (n := n) (w := W) 6)
                  rw [stU_zero] at HBAD
                  clear HWL HWG HWO HWY HL HPS
                  go_wp2_with fail
                  refine (HBAD.out _).mono ?_
                  rintro r w7 ⟨rfl, hb7⟩
                  clear f0 f1 f2 f3 f4 f5 z0 z1 z2 z3 z4 z5
                  obtain ⟨hg', hx'⟩ := HGX.out.next hN hNB (Turns.of_below hb7 (by have := HGX.out.box.lt; omega)) TA D.length TC LA ps.length LC n q 6
                  have HG8 := Lib.hid hg'
                  have f0 := hx'.frozen 0
                  have f1 := hx'.frozen 1
                  have f2 := hx'.frozen 2
                  have f3 := hx'.frozen 3
                  have f4 := hx'.frozen 4
                  have f5 := hx'.frozen 5
                  have z0 := hx'.cell 0
                  have z1 := hx'.cell 1
                  have z2 := hx'.cell 2
                  have z3 := hx'.cell 3
                  have z4 := hx'.cell 4
                  have z5 := hx'.cell 5
                  simp at z0 z1 z2 z3 z4 z5
                  have p0 := hg'.box.cell 0
                  have p1 := hg'.box.cell 1
                  have p2 := hg'.box.cell 2
                  have p3 := hg'.box.cell 3
                  have p4 := hg'.box.cell 4
                  have p5 := hg'.box.cell 5
                  simp at p0 p1 p2 p3 p4 p5
                  clear hx' hg'
                  go_wp2_with fail
                  generalize ((((((w7.setCell ⟨B, 0, none⟩ (.string (strOfNums xs))).setCell ⟨B, 1, none⟩ (.int .i64 q)).setCell ⟨B, 2, none⟩ (.int .i64 6)).setCell ⟨B, 3, none⟩ (.slice TA D.length TC)).setCell ⟨B, 4, none⟩ (.slice LA ps.length LC)).setCell ⟨B, 5, none⟩ (.int .u64 n)) = w8 at HG8 p0 p1 p2 p3 p4 p5  ⊢
                  clear f0 f1 f2 f3 f4 f5 z0 z1 z2 z3 z4 z5
                  go_quiet (fail)
                  go_wp2_with fail
                  go_ret2
                  exact rgot_none (HWHY.out) rfl (by rw [hN]; exact below_drewN HG8.out.trn.1 _)
                · have HPUT := Lib.hid (fun (W : World) (h : Turns N w W) (hL : OwnT W N (.slice LA ps.length LC) ps) => rput14_any A c ds LA LC ps W (HSIG.out W W.heap.size h (by have := h.2.1; omega)) hL.row)
                  have hpl : putB (ds.map (·.p)) ((F j).1.map bareP) = putB (ds.map (·.p)) ps := by rw [← HPS.out]; exact putB_plain _ _
                  rw [hpl] at HWO HWY
                  have HC := Lib.hid (HPUT.out wr HGX.out.trn HL.out)
                  have hbok : (putB (ds.map (·.p)) ps).2 = 0 → ∀ x ∈ (putB (ds.map (·.p)) ps).1, 0 ≤ x ∧ x < 256 := fun h => by
                    obtain ⟨q1, q2, q3⟩ := putB_ok h
                    rw [q3]
                    exact payB_bytes (HL.out.row.bok q1)
                  have hlong2 : ¬ (4096 : Int) < (xs.length : Int) := by omega
                  obtain ⟨h0, hD, hb⟩ := HKK.out
                  clear HPUT hpl HWL HWG h0 hD
                  generalize putB (ds.map (·.p)) ps = PB at HC hbok HWO HWY
                  obtain ⟨Pl, k⟩ := PB
                  simp only at HC hbok
                  by_cases hk : k = 0
                  · subst hk
                    by_cases hP : Pl = xs
                    · subst hP
                      have HWHY := Lib.hid (HWY.out hleft hlong rfl)
                      clear HWO HWY hbok hb hlong
                      go_wp2_with fail
                      refine HC.out.mono ?_
                      rintro r w7 ⟨rfl, hb7⟩
                      have hx7 := HGX.out.box.below hb7 HGX.out.box.lt
                      have HB7 := Lib.hid (HGX.out.trn.1.trans (hb7.mono (by have := HGX.out.box.lt; omega)))
                      have HL7 := Lib.hid ((HL.out.below hb7).row)
                      clear f0 f1 f2 f3 f4 f5 z0 z1 z2 z3 z4 z5 hb7
                      have f0 := hx7.frozen 0
                      have f1 := hx7.frozen 1
                      have f2 := hx7.frozen 2
                      have f3 := hx7.frozen 3
                      have f4 := hx7.frozen 4
                      have f5 := hx7.frozen 5
                      have z0 := hx7.cell 0
                      have z1 := hx7.cell 1
                      have z2 := hx7.cell 2
                      have z3 := hx7.cell 3
                      have z4 := hx7.cell 4
                      have z5 := hx7.cell 5
                      simp at z0 z1 z2 z3 z4 z5
                      clear hx7
                      go_wp2_with fail
                      go_ret2
                      exact rgot_some HWHY.out rfl HL7.out HPS.out (by rw [hN]; exact HB7.out)
                    · have hse := str_ne (hbok rfl) hb hP
                      have HWHY := Lib.hid (HWO.out hleft hlong (fun h => hP (congrArg Prod.fst h)))
                      clear HWO HWY hbok hb hlong hP
                      go_wp2_with fail
                      refine HC.out.mono ?_
                      rintro r w7 ⟨rfl, hb7⟩
                      have HB7 := Lib.hid (HGX.out.trn.1.trans (hb7.mono (by have := HGX.out.box.lt; omega)))
                      clear f0 f1 f2 f3 f4 f5 z0 z1 z2 z3 z4 z5 hb7
                      go_wp2_with fail
                      go_ret2
                      exact rgot_none HWHY.out rfl (by rw [hN]; exact HB7.out)
                  · have hkn : (k != 0) = true := bne_iff_ne.2 hk
                    have HWHY := Lib.hid (HWO.out hleft hlong (fun h => hk (congrArg Prod.snd h)))
                    clear HWO HWY hbok hb hlong hk
                    go_wp2_with fail
                    refine HC.out.mono ?_
                    rintro r w7 ⟨rfl, hb7⟩
                    have HB7 := Lib.hid (HGX.out.trn.1.trans (hb7.mono (by have := HGX.out.box.lt; omega)))
                    clear f0 f1 f2 f3 f4 f5 z0 z1 z2 z3 z4 z5 hb7
                    go_wp2_with fail
                    go_ret2
                    exact rgot_none HWHY.out rfl (by rw [hN]; exact HB7.out)
      · have hne : (E3 == 0) = false := beq_eq_false_iff_ne.2 hE3
        have hnb : (E3 != 0) = true := bne_iff_ne.2 hE3
        have HWHY := Lib.hid (HXW.out hE3)
        clear hok' hE3 HXW HGE HGL HGG HGO HGY HF0 HFS HFL HFR HFE HFT HKK HSIG
        obtain ⟨hg', hx'⟩ := HG.out.next hN hNB (Turns.of_below hb5 (by have := HG.out.box.lt; omega)) TA TL TC none 0 0 n' q' E3
        have HG6 := Lib.hid hg'
        have f0 := hx'.frozen 0
        have f1 := hx'.frozen 1
        have f2 := hx'.frozen 2
        have f3 := hx'.frozen 3
        have f4 := hx'.frozen 4
        have f5 := hx'.frozen 5
        have z0 := hx'.cell 0
        have z1 := hx'.cell 1
        have z2 := hx'.cell 2
        have z3 := hx'.cell 3
        have z4 := hx'.cell 4
        have z5 := hx'.cell 5
        simp at z0 z1 z2 z3 z4 z5
        have p0 := hg'.box.cell 0
        have p1 := hg'.box.cell 1
        have p2 := hg'.box.cell 2
        have p3 := hg'.box.cell 3
        have p4 := hg'.box.cell 4
        have p5 := hg'.box.cell 5
        simp at p0 p1 p2 p3 p4 p5
        clear hx' hg'
        go_wp2_with fail
        generalize ((((((w5.setCell ⟨B, 0, none⟩ (.string (strOfNums xs))).setCell ⟨B, 1, none⟩ (.int .i64 q')).setCell ⟨B, 2, none⟩ (.int .i64 E3)).setCell ⟨B, 3, none⟩ (.slice TA TL TC)).setCell ⟨B, 4, none⟩ (.slice none 0 0)).setCell ⟨B, 5, none⟩ (.int .u64 n')) = w6 at HG6 p0 p1 p2 p3 p4 p5  ⊢
        clear f0 f1 f2 f3 f4 f5 z0 z1 z2 z3 z4 z5
        clear p0 p1 p2 p3 p4 p5
        go_loopg [11] 0 (fun gk i wr => i = .int .i64 0 ∧ Hid (GxAt w N B xs TA TL TC none 0 0 n' q' E3 wr))
        case atStart => exact ⟨rfl, HG6⟩
        case round =>
          obtain ⟨rfl, HG7⟩ := hrel
          have hg7 := HG7.out
          have f0 := hg7.box.frozen 0
          have f1 := hg7.box.frozen 1
          have f2 := hg7.box.frozen 2
          have f3 := hg7.box.frozen 3
          have f4 := hg7.box.frozen 4
          have f5 := hg7.box.frozen 5
          have z0 := hg7.box.cell 0
          have z1 := hg7.box.cell 1
          have z2 := hg7.box.cell 2
          have z3 := hg7.box.cell 3
          have z4 := hg7.box.cell 4
          have z5 := hg7.box.cell 5
          simp at z0 z1 z2 z3 z4 z5
          clear hg7
          by_cases hlt : 0 < M
          · go_wp2_with fail
            go_quiet (fail)
            go_wp2_with fail
            go_ret2
            exact rgot_none (HWHY.out) rfl (by rw [hN]; exact below_drewN HG7.out.trn.1 _)
          · go_wp2_with fail
            go_quiet (fail)
            go_wp2_with fail
            go_ret2
            exact rgot_none (HWHY.out) rfl (by rw [hN]; exact below_drewN HG7.out.trn.1 _)
  · have hMz : M = 0 := hM0e he2
    have hne2 : (e2 == 0) = false := beq_eq_false_iff_ne.2 he2
    have hnb2 : (e2 != 0) = true := bne_iff_ne.2 he2
    have HWHY := Lib.hid (HDEAD.out e2 (by rw [hMz]; exact stU_kept he2 4) he2)
    have HTE := Lib.hid (dictU_stop (xs := xs) (p := q2) (e := e2) he2)
    have HTX := Lib.hid (fun W => HTXS.out e2 W)
    clear hMz HLV hM0e HTXS HDEAD he2 hb
    generalize getU (ds.map (·.p)) xs = R at HWHY ⊢
    go_enter Tryz.func7, Tryz.ntmps7
    go_wp2_with fail
    generalize w.alloc (.cells #[] 48) = wa at HWA HCKA ⊢
    refine HCKA.out.mono ?_
    rintro r w0 ⟨rfl, rfl⟩
    go_wp2_with fail
    refine (HN1.out _).mono ?_
    rintro r w1 ⟨rfl, hb1⟩
    obtain ⟨B, hB⟩ : ∃ B, w1.heap.size = B := ⟨_, rfl⟩
    have hNB : N ≤ B := by have := hb1.size; have := HWA.out.2; omega
    have hg1 : GxAt w N B xs none 0 0 none 0 0 k1 q1 e1 (w1.alloc (.cells (PC xs q1 e1 none 0 0 none 0 0 k1) 66)) := by
      refine ⟨by rw [← hB]; exact heap_alloc_new w1 _, Turns.of_below' ?_ hN⟩
      exact (HWA.out.1.trans (hb1.mono (by have := HWA.out.2; omega))).alloc (by rw [hB]; exact hNB) _
    have HG1 := Lib.hid hg1
    have p0 := hg1.box.cell 0
    have p1 := hg1.box.cell 1
    have p2 := hg1.box.cell 2
    have p3 := hg1.box.cell 3
    have p4 := hg1.box.cell 4
    have p5 := hg1.box.cell 5
    simp at p0 p1 p2 p3 p4 p5
    clear hg1 hb1 HWA HCKA
    go_wp2_with fail
    generalize w1.alloc (.cells (PC xs q1 e1 none 0 0 none 0 0 k1) 66) = w2 at HG1 p0 p1 p2 p3 p4 p5 ⊢
    clear hB
    refine (HN2.out _).mono ?_
    rintro r w3 ⟨rfl, hb3⟩
    clear p0 p1 p2 p3 p4 p5
    obtain ⟨hg', hx'⟩ := HG1.out.next hN hNB (Turns.of_below hb3 (by have := HG1.out.box.lt; omega)) none 0 0 none 0 0 M q2 e2
    have HG := Lib.hid hg'
    have f0 := hx'.frozen 0
    have f1 := hx'.frozen 1
    have f2 := hx'.frozen 2
    have f3 := hx'.frozen 3
    have f4 := hx'.frozen 4
    have f5 := hx'.frozen 5
    have z0 := hx'.cell 0
    have z1 := hx'.cell 1
    have z2 := hx'.cell 2
    have z3 := hx'.cell 3
    have z4 := hx'.cell 4
    have z5 := hx'.cell 5
    simp at z0 z1 z2 z3 z4 z5
    have p0 := hg'.box.cell 0
    have p1 := hg'.box.cell 1
    have p2 := hg'.box.cell 2
    have p3 := hg'.box.cell 3
    have p4 := hg'.box.cell 4
    have p5 := hg'.box.cell 5
    simp at p0 p1 p2 p3 p4 p5
    clear hx' hg'
    go_wp2_with fail
    generalize ((((((w3.setCell ⟨B, 0, none⟩ (.string (strOfNums xs))).setCell ⟨B, 1, none⟩ (.int .i64 q2)).setCell ⟨B, 2, none⟩ (.int .i64 e2)).setCell ⟨B, 3, none⟩ (.slice none 0 0)).setCell ⟨B, 4, none⟩ (.slice none 0 0)).setCell ⟨B, 5, none⟩ (.int .u64 M)) = w4 at HG p0 p1 p2 p3 p4 p5  ⊢
    clear f0 f1 f2 f3 f4 f5 z0 z1 z2 z3 z4 z5
    clear hb3 HG1
    clear p0 p1 p2 p3 p4 p5
    refine (HTX.out _).mono ?_
    rintro r w5 hgot
    obtain ⟨q', E', TA', TL', TC', n', rfl, hq', hE', -, hb5⟩ := hgot
    rw [HTE.out] at hE'
    subst E'
    obtain ⟨hg', hx'⟩ := HG.out.next hN hNB (Turns.of_below hb5 (by have := HG.out.box.lt; omega)) TA' TL' TC' none 0 0 n' q' e2
    have HG6 := Lib.hid hg'
    have f0 := hx'.frozen 0
    have f1 := hx'.frozen 1
    have f2 := hx'.frozen 2
    have f3 := hx'.frozen 3
    have f4 := hx'.frozen 4
    have f5 := hx'.frozen 5
    have z0 := hx'.cell 0
    have z1 := hx'.cell 1
    have z2 := hx'.cell 2
    have z3 := hx'.cell 3
    have z4 := hx'.cell 4
    have z5 := hx'.cell 5
    simp at z0 z1 z2 z3 z4 z5
    have p0 := hg'.box.cell 0
    have p1 := hg'.box.cell 1
    have p2 := hg'.box.cell 2
    have p3 := hg'.box.cell 3
    have p4 := hg'.box.cell 4
    have p5 := hg'.box.cell 5
    simp at p0 p1 p2 p3 p4 p5
    clear hx' hg'
    go_wp2_with fail
    generalize ((((((w5.setCell ⟨B, 0, none⟩ (.string (strOfNums xs))).setCell ⟨B, 1, none⟩ (.int .i64 q')).setCell ⟨B, 2, none⟩ (.int .i64 e2)).setCell ⟨B, 3, none⟩ (.slice TA' TL' TC')).setCell ⟨B, 4, none⟩ (.slice none 0 0)).setCell ⟨B, 5, none⟩ (.int .u64 n')) = w6 at HG6 p0 p1 p2 p3 p4 p5  ⊢
    clear f0 f1 f2 f3 f4 f5 z0 z1 z2 z3 z4 z5
    clear p0 p1 p2 p3 p4 p5
    go_loopg [11] 0 (fun gk i wr => i = .int .i64 0 ∧ Hid (GxAt w N B xs TA' TL' TC' none 0 0 n' q' e2 wr))
    case atStart => exact ⟨rfl, HG6⟩
    case round =>
      obtain ⟨rfl, HG7⟩ := hrel
      have hg7 := HG7.out
      have f0 := hg7.box.frozen 0
      have f1 := hg7.box.frozen 1
      have f2 := hg7.box.frozen 2
      have f3 := hg7.box.frozen 3
      have f4 := hg7.box.frozen 4
      have f5 := hg7.box.frozen 5
      have z0 := hg7.box.cell 0
      have z1 := hg7.box.cell 1
      have z2 := hg7.box.cell 2
      have z3 := hg7.box.cell 3
      have z4 := hg7.box.cell 4
      have z5 := hg7.box.cell 5
      simp at z0 z1 z2 z3 z4 z5
      clear hg7
      by_cases hlt : 0 < M
      · go_wp2_with fail
        go_quiet (fail)
        go_wp2_with fail
        go_ret2
        exact rgot_none (HWHY.out) rfl (by rw [hN]; exact below_drewN HG7.out.trn.1 _)
      · go_wp2_with fail
        go_quiet (fail)
        go_wp2_with fail
        go_ret2
        exact rgot_none (HWHY.out) rfl (by rw [hN]; exact below_drewN HG7.out.trn.1 _)
#print axioms rget15_any
end Go.Proofs.YtfknibjejnmghaaGreat
