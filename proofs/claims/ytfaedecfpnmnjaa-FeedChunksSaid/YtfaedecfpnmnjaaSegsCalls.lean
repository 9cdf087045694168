/-
  segs.Of, segs.Frames, segs.Skipped: loops over the parts.
-/
import Derived.Test.YtfaedecfpnmnjaaSegsIt
namespace Go.Proofs.Ytfaedecfpnmnjaa
open Go.RowKit Go.Shelf

/-- Between two rounds: a box B holds a slice of the call's own, of what f makes of what has come. -/
def Between (n₀ B Bn : Nat) (bv : Value) (w : World) (f : List Pt → List Pt) (pre : List Pt) (W : World) : Prop :=
  (∃ v, Boxed W B 38 v ∧ Segs W n₀ v (f pre)) ∧ Boxed W Bn 22 bv ∧ Below n₀ w W
/-- In a round: the part lies in a block q. -/
def InRound (n₀ B Bn : Nat) (bv : Value) (w : World) (xs : List Int) (f : List Pt → List Pt) (fr : Pt → Nat → Act) (m : Nat) (pre : List Pt) (x : Pt) (a : Act) (W : World) : Prop :=
  ∃ q v, a = fr x q ∧ Held W q 41 #[.int .i64 x.s.frm, .int .i64 x.s.n, .bool x.s.isf, .int .i64 x.s.kind, .slice x.A x.s.pay.length x.c] ∧ m ≤ q ∧ B < m ∧ (∀ g, v.ownBlock = some g → g < m) ∧
    Boxed W B 38 v ∧ Segs W n₀ v (f pre) ∧ Boxed W Bn 22 bv ∧ Below n₀ w W ∧ PtOk xs x W

section
variable {n₀ B Bn : Nat} {bv : Value} {w : World} {xs : List Int} {f : List Pt → List Pt} {fr : Pt → Nat → Act}
theorem between_own {b : Nat} (hn : n₀ ≤ w.heap.size) (hb : n₀ ≤ b) : OwnFrom b (Between n₀ B Bn bv w f) := by
  rintro pre X Y row ⟨⟨v, h1, h2⟩, h3, h4⟩ hg hr
  have ht : Turned X Y row := ⟨hg, fun r e => (hr r e).2⟩
  exact ⟨⟨v, ht.block h1, h2.turned ht⟩, ht.block h3, ownFrom_below (β := Unit) hn hb () X Y row h4 hg hr⟩
theorem inRound_own {b m : Nat} {pre : List Pt} {x : Pt} {a : Act} (hn : n₀ ≤ w.heap.size) (hb : n₀ ≤ b) : OwnFrom b (fun (_ : Unit) W => InRound n₀ B Bn bv w xs f fr m pre x a W) := by
  rintro _ X Y row ⟨q, v, e, h1, h2, h3, h4, h5, h6, h7, h8, h9⟩ hg hr
  have ht : Turned X Y row := ⟨hg, fun r e => (hr r e).2⟩
  exact ⟨q, v, e, ht.block h1, h2, h3, h4, ht.block h5, h6.turned ht, ht.block h7, ownFrom_below (β := Unit) hn hb () X Y row h8 hg hr, h9.1.turned ht, h9.2⟩
/-- The part is taken. -/
theorem taken_round {b : Nat} {pre : List Pt} {x : Pt} {W0 W : World} (hI : Between n₀ B Bn bv w f pre W0) (hb : Below W0.heap.size W0 W) (hx : PtOk xs x W) (hn : n₀ ≤ w.heap.size) :
    KeepsFrom b W (W.alloc (.cells #[.int .i64 x.s.frm, .int .i64 x.s.n, .bool x.s.isf, .int .i64 x.s.kind, .slice x.A x.s.pay.length x.c] 41)) ∧
    KeepsB n₀ Bn W0.heap.size W (W.alloc (.cells #[.int .i64 x.s.frm, .int .i64 x.s.n, .bool x.s.isf, .int .i64 x.s.kind, .slice x.A x.s.pay.length x.c] 41)) ∧
    InRound n₀ B Bn bv w xs f fr W0.heap.size pre x (fr x W.heap.size) (W.alloc (.cells #[.int .i64 x.s.frm, .int .i64 x.s.n, .bool x.s.isf, .int .i64 x.s.kind, .slice x.A x.s.pay.length x.c] 41)) := by
  obtain ⟨⟨v, h1, h2⟩, h3, h4⟩ := hI
  have hn0 : n₀ ≤ W0.heap.size := Nat.le_trans hn h4.size
  have hnW : n₀ ≤ W.heap.size := Nat.le_trans hn0 hb.size
  generalize hX : W.alloc (.cells #[.int .i64 x.s.frm, .int .i64 x.s.n, .bool x.s.isf, .int .i64 x.s.kind, .slice x.A x.s.pay.length x.c] 41) = X
  have ba : Below W.heap.size W X := by rw [← hX]; exact (Below.refl _ _).alloc (Nat.le_refl _) _
  have bb : Below W0.heap.size W0 X := hb.trans (ba.mono hb.size)
  refine ⟨by rw [← hX]; exact (KeepsOthers.alloc W _).from _, ⟨ba.mono hnW, ba.block _ (Nat.lt_of_lt_of_le h3.lt hb.size), fun k _ hk => ba.block k hk⟩, W.heap.size, v, rfl, by rw [← hX]; exact heap_alloc_new W _, hb.size, h1.lt, fun g e => (h2.1.lt g e).2,
    (bb.block _ h1.lt).trans h1, h2.below bb, (bb.block _ h3.lt).trans h3, h4.trans (bb.mono hn0), hx.1.below ba, hx.2⟩
/-- The part is laid behind what has been collected. -/
theorem laid_round {b m : Nat} {pre : List Pt} {x : Pt} {W w1 : World} {v v' : Value} {tmp : Obj} (h1 : Boxed W B 38 v) (h2 : Segs W n₀ v (f pre)) (h3 : Boxed W Bn 22 bv) (h4 : Below n₀ w W) (hn : n₀ ≤ w.heap.size) (hB : n₀ ≤ B) (hBm : B < m) (hg : ∀ g, v.ownBlock = some g → g < m) (hne : Bn ≠ B)
    (hs : Segs w1 n₀ v' (f (pre ++ [x]))) (hgr : (W.alloc tmp).grownBy w1 v.ownBlock) :
    Boxed w1 B 38 v ∧ KeepsFrom b W (w1.setCell ⟨B, 0, none⟩ v') ∧ KeepsB n₀ Bn m W (w1.setCell ⟨B, 0, none⟩ v') ∧ Between n₀ B Bn bv w f (pre ++ [x]) (w1.setCell ⟨B, 0, none⟩ v') := by
  have hnW : n₀ ≤ W.heap.size := Nat.le_trans hn h4.size
  have hap := h2.apart h1 (by decide)
  have hapn := h2.apart h3 (by decide)
  have hv1 : Boxed w1 B 38 v := (h1.alloc tmp).kept hgr (hap.elim (fun e => by rw [e]; simp) (fun e => Ne.symm e))
  have hn1 : Boxed w1 Bn 22 bv := (h3.alloc tmp).kept hgr (hapn.elim (fun e => by rw [e]; simp) (fun e => Ne.symm e))
  have hn2 : Boxed (w1.setCell ⟨B, 0, none⟩ v') Bn 22 bv := hn1.other hne v'
  have hv2 : Boxed (w1.setCell ⟨B, 0, none⟩ v') B 38 v' := hv1.set v'
  have hs2 : Segs (w1.setCell ⟨B, 0, none⟩ v') n₀ v' (f (pre ++ [x])) := by
    refine hs.kept (grownBy_setCell' w1 B v') (hs.apart hv1 (by decide)) (fun k e i n hc => ?_)
    obtain rfl : B = k := by injection e
    rw [show w1.cell? ⟨B, i, none⟩ = (#[v] : Array Value)[i]? from cell_of_row w1 B i #[v] _ _ hv1] at hc
    obtain ⟨A, c, rfl, _⟩ := h2.form
    match i with
    | 0 => simp at hc
    | i + 1 => simp at hc
  have hbl : Below n₀ W (w1.setCell ⟨B, 0, none⟩ v') := (((Below.refl n₀ W).alloc hnW tmp).grown hgr (by simp; omega) (fun k e => (h2.1.lt k e).1)).setCell (p := ⟨B, 0, none⟩) hB v'
  refine ⟨hv1, ?_, ⟨hbl, ?_, fun k hk hk2 => ?_⟩, ⟨v', hv2, hs2⟩, hn2, h4.trans hbl⟩
  · refine (((KeepsOthers.alloc W tmp).trans (KeepsOthers.of_grownBy hgr fun j o ej hj => ?_)).trans (KeepsOthers.setCell _ _ _)).from _
    rcases (h2.alloc tmp).1.2 with ⟨rfl, _⟩ | ⟨g, cap, cur, rfl, _, hgb, _⟩
    · simp [Value.ownBlock] at ej
    · obtain rfl : g = j := by simpa [Value.ownBlock] using ej
      rw [hgb] at hj
      cases hj
      rfl
  · exact hn2.trans (show W.heap[Bn]? = _ from h3).symm
  · rw [Below.heap_setCell _ ⟨B, 0, none⟩ _ k (by simp only; omega), hgr.block k (by simp; omega) (fun e => by have := hg k e.symm; omega)]
    exact Below.heap_alloc _ _ _ hk2
end
#print axioms laid_round
end Go.Proofs.Ytfaedecfpnmnjaa

namespace Go.Proofs.Ytfaedecfpnmnjaa
open Go.RowKit Go.Shelf

attribute [local go_sem] Oper.semAt_some

theorem Segs.mono {w : World} {n0 n : Nat} {v : Value} {ps : List Pt} (h : Segs w n0 v ps) (hn : n ≤ n0) : Segs w n v ps := by
  obtain ⟨⟨h1, h2⟩, h3, h4⟩ := h
  refine ⟨⟨h1, h2.imp id ?_⟩, h3, h4⟩
  rintro ⟨g, cap, cur, e, hg, r⟩
  exact ⟨g, cap, cur, e, Nat.le_trans hn hg, r⟩

/-- What is collected: the parts, in a slice of the call's own. -/
def Collected (xs : List Int) (w : World) (e : Ending) (w' : World) : Prop :=
  ∃ v ps, e = .returned v ∧ PartsS xs 0 (ps.map (·.s)) ∧ Segs w' w.heap.size v ps ∧ Below w.heap.size w w'

set_option maxRecDepth 100000 in
set_option maxHeartbeats 2000000 in
theorem appendSeq_any (A : Option Addr) (c : Nat) (xs : List Int) (hsm : xs.length ≤ 100000000000) (hbx : ∀ x ∈ xs, 0 ≤ x ∧ x < 256) (Bn : Nat) (w : World) (hBn : Boxed w Bn 22 (.slice A xs.length c)) (hlt : Bn < w.heap.size) (hrow : Row w w.heap.size (.slice A xs.length c) xs) :
    Calls Try.prog 54 #[.slice none 0 0, .func (.func 55) #[] #[.pointer (some ⟨Bn, 0, none⟩)]] w (Collected xs w) := by
  obtain ⟨i0, hi, hz0, hz1, hz2⟩ := info_parts Try.infoSeg
  refine (callsIn_wide (n := 5)).1 ?_
  refine callsIn_of_wp_marks Try.func54 rfl trivial ?_ rfl
  simp only [Try.ntmps54, List.size_toArray, List.length_cons, List.length_nil, Nat.reduceAdd, Nat.reduceSub, Array.replicate_succ, Array.replicate_zero, List.push_toArray, List.append_toArray, List.nil_append, List.cons_append]
  gi_wp2
  have hbw : Below w.heap.size w (w.alloc (.cells #[.slice none 0 0] 38)) := (Below.refl _ _).alloc (Nat.le_refl _) _
  have hB0 := Boxed.new w 38 (.slice none 0 0)
  have hBn1 : Boxed (w.alloc (.cells #[.slice none 0 0] 38)) Bn 22 (.slice A xs.length c) := (hbw.block Bn hlt).trans hBn
  have hs1 : (w.alloc (.cells #[.slice none 0 0] 38)).heap.size = w.heap.size + 1 := World.size_alloc _ _
  refine range_told rfl (by omega) (gf := 55) (lb := #[.pointer (some ⟨Bn, 0, none⟩)]) rfl trivial (enters_of Try.func55 (by kernel_rfl) rfl)
    (parts_hands (5 - 1) (by omega) Bn w.heap.size A c xs (by omega) hbx _ hBn1.cell (by omega) (by omega) (hrow.below hbw)) (fun _ => rfl) (fun h k => h.trans k) (fun m W l o o' hl hm h hc => KeepsB.turn (w := w.alloc (.cells #[.slice none 0 0] 38)) (by omega) (by omega) m W l o o' hl hm h hc)
    (Between w.heap.size w.heap.size Bn (.slice A xs.length c) w id) (between_own (Nat.le_refl _) (by omega)) ⟨⟨_, hB0, Segs.nil _ _⟩, hBn1, hbw⟩
    (InRound w.heap.size w.heap.size Bn (.slice A xs.length c) w xs id (fun x q => { tmps := #[.slice none 0 0, .func (.func 55) #[] #[.pointer (some ⟨Bn, 0, none⟩)], .pointer (some ⟨w.heap.size, 0, none⟩), undef, .slice none 0 0, .pointer (some ⟨q, 0, none⟩), .func (.func 55) #[] #[.pointer (some ⟨Bn, 0, none⟩)], x.val, undef, undef, undef, undef, undef], defers := [] }))
    (fun m pre x a' => inRound_own (Nat.le_refl _) (by omega)) ?take ?body ?done
  case take =>
    rintro l pre x W0 W K hI hb hR _ hK
    obtain ⟨h1, h2, h3⟩ := taken_round (b := (w.alloc (.cells #[.slice none 0 0] 38)).heap.size) (fr := (fun x q => { tmps := #[.slice none 0 0, .func (.func 55) #[] #[.pointer (some ⟨Bn, 0, none⟩)], .pointer (some ⟨w.heap.size, 0, none⟩), undef, .slice none 0 0, .pointer (some ⟨q, 0, none⟩), .func (.func 55) #[] #[.pointer (some ⟨Bn, 0, none⟩)], x.val, undef, undef, undef, undef, undef], defers := [] })) hI hb hR (Nat.le_refl _)
    have HK := Lib.hid (hK _ _ h1 h2 h3)
    clear hK h1 h2 h3 hI hb hR hrow hbx hBn hBn1 hB0 hbw
    gi_wp2
    exact HK.out
  case body =>
    rintro l m pre x a' W ⟨q, v, rfl, hq, hmq, hBm, hg, hv, hseg, hbn, hbe, hx⟩ hlen
    have hbl : Below W.heap.size W (W.alloc (.cells #[.int .i64 x.s.frm, .int .i64 x.s.n, .bool x.s.isf, .int .i64 x.s.kind, .slice x.A x.s.pay.length x.c] 41)) := (Below.refl _ _).alloc (Nat.le_refl _) _
    have happ := fun v' w1 (hs : Segs w1 w.heap.size v' (id (pre ++ [x]))) (hgr : (W.alloc (.cells #[.int .i64 x.s.frm, .int .i64 x.s.n, .bool x.s.isf, .int .i64 x.s.kind, .slice x.A x.s.pay.length x.c] 41)).grownBy w1 v.ownBlock) =>
      laid_round (b := (w.alloc (.cells #[.slice none 0 0] 38)).heap.size) (m := m) hv hseg hbn hbe (Nat.le_refl _) (Nat.le_refl _) hBm hg (Nat.ne_of_lt hlt) hs hgr
    have HAPP := Lib.hid happ
    have HSEG := Lib.hid (hseg.below hbl)
    have HX := Lib.hid (hx.1.below hbl)
    have hcells : ∀ (j : Nat) (u : Value), x.cells[j]? = some u → (W.alloc (.cells #[.int .i64 x.s.frm, .int .i64 x.s.n, .bool x.s.isf, .int .i64 x.s.kind, .slice x.A x.s.pay.length x.c] 41)).cell? ((⟨W.heap.size, 0, none⟩ : Addr).add j) = some u := by
      intro j u hj
      rw [Go.WideShapes.add_plain, Nat.zero_add, cell_of_row _ W.heap.size j _ _ (0, 0) (heap_alloc_new W _)]
      simpa [Pt.cells] using hj
    have HCELLS := Lib.hid hcells
    have hle : w.heap.size ≤ W.heap.size := hbe.size
    have HN := Lib.hid hlen
    have hc0 := hq.cell 0
    have hc1 := hq.cell 1
    have hc2 := hq.cell 2
    have hc3 := hq.cell 3
    have hc4 := hq.cell 4
    simp at hc0 hc1 hc2 hc3 hc4
    have hcB := hv.cell
    clear hq hv hseg hbn hbe hx hlen hcells happ hbl hrow hbx hBn hBn1 hB0 hbw
    gi_wp2_with (gi_at_builtin; refine wpListIn_append_seg rfl _ _ 38 rfl i0 _ Try.underlying38 hi hz0 hz1 (by omega) rfl w.heap.size v pre rfl HSEG.out ⟨W.heap.size, 0, none⟩ 1 x rfl HCELLS.out HX.out (by have := HN.out; omega) (by simp; omega) ?_
                 intro v' w1 hs1' hgr; obtain ⟨hv1, hkf, hkp, hbt⟩ := HAPP.out v' w1 hs1' hgr
                 obtain ⟨A1, c1, ev, _⟩ := hs1'.form
                 rw [show (pre ++ [x]).length = pre.length + 1 by simp] at ev
                 subst ev
                 have hc1' := hv1.cell; have hf1' := hv1.frozen; have HKF := Lib.hid hkf; have HKP := Lib.hid hkp; have HBT := Lib.hid hbt; clear hkf hkp hbt hs1' hgr hv1)
    exact ⟨HKF.out, HKP.out, HBT.out⟩
  case done =>
    rintro D ys W hD hS ⟨⟨v, hv, hseg⟩, hbn, hbe⟩ hK
    have hc := hv.cell
    gi_wp2
    refine ⟨by simp, .inl ⟨_, _, rfl, run_takeDeferred hK, ?_⟩⟩
    exact ⟨_, results_tmp rfl _ _ _, v, ys, rfl, hS, hseg.putObj _ hK rfl, hbe.trans (belowK_b (w := w) (Nat.le_refl _) W D _ _ (by omega) hK rfl rfl)⟩

set_option maxRecDepth 100000 in
theorem collect_any (A : Option Addr) (c : Nat) (xs : List Int) (hsm : xs.length ≤ 100000000000) (hbx : ∀ x ∈ xs, 0 ≤ x ∧ x < 256) (Bn : Nat) (w : World) (hBn : Boxed w Bn 22 (.slice A xs.length c)) (hlt : Bn < w.heap.size) (hrow : Row w w.heap.size (.slice A xs.length c) xs) :
    Calls Try.prog 34 #[.func (.func 55) #[] #[.pointer (some ⟨Bn, 0, none⟩)]] w (Collected xs w) := by
  have HA := Lib.hid (appendSeq_any A c xs hsm hbx Bn w hBn hlt hrow)
  clear hBn hrow hbx
  go_enter Try.func34, Try.ntmps34
  go_wp2_with fail
  refine HA.out.mono ?_
  rintro e w1 ⟨v, ps, rfl, h1, h2, h3⟩
  go_wp2_with fail
  go_ret
  exact ⟨v, ps, rfl, h1, h2, h3⟩

set_option maxRecDepth 100000 in
/-- segs.Of: the parts of bytes, in new memory. -/
theorem of_any (A : Option Addr) (c : Nat) (xs : List Int) (hsm : xs.length ≤ 100000000000) (w : World) (hrow : Row w w.heap.size (.slice A xs.length c) xs) (hbx : ∀ x ∈ xs, 0 ≤ x ∧ x < 256) :
    Calls Try.prog 18 #[.slice A xs.length c] w (Collected xs w) := by
  have hbw : Below w.heap.size w (w.alloc (.cells #[.slice A xs.length c] 22)) := (Below.refl _ _).alloc (Nat.le_refl _) _
  have HC := Lib.hid (collect_any A c xs hsm hbx w.heap.size _ (Boxed.new w 22 (.slice A xs.length c)) (by simp) ((hrow.below hbw).more (by simp)))
  have HB := Lib.hid hbw
  clear hrow hbx hbw
  go_enter Try.func18, Try.ntmps18
  go_wp2_with fail
  refine (parts_any _ _ _ _).mono ?_
  rintro e w1 ⟨rfl, rfl⟩
  go_wp2_with fail
  refine HC.out.mono ?_
  rintro e w1 ⟨v, ps, rfl, h1, h2, h3⟩
  have H1 := Lib.hid h1
  have H2 := Lib.hid h2
  have H3 := Lib.hid h3
  clear h1 h2 h3
  go_wp2_with fail
  go_ret
  refine ⟨v, ps, rfl, H1.out, H2.out.mono (by simp), HB.out.trans (H3.out.mono (by simp))⟩
#print axioms of_any
end Go.Proofs.Ytfaedecfpnmnjaa

namespace Go.Proofs.Ytfaedecfpnmnjaa
open Go.RowKit Go.Shelf

attribute [local go_sem] Oper.semAt_some

/-- Those that are frames. -/
def onlyF (l : List Pt) : List Pt := l.filter (·.s.isf)
theorem onlyF_yes {l : List Pt} {x : Pt} (h : x.s.isf = true) : onlyF (l ++ [x]) = onlyF l ++ [x] := by simp [onlyF, List.filter_append, h]
theorem onlyF_no {l : List Pt} {x : Pt} (h : x.s.isf = false) : onlyF (l ++ [x]) = onlyF l := by simp [onlyF, List.filter_append, h]
theorem onlyF_le (l : List Pt) : (onlyF l).length ≤ l.length := List.length_filter_le _ _
theorem onlyF_map : ∀ l : List Pt, (onlyF l).map (·.s) = framesS (l.map (·.s))
  | [] => rfl
  | p :: l => by
    have ih := onlyF_map l
    unfold onlyF framesS at ih ⊢
    cases h : p.s.isf <;> simp [h, ih]
/-- What Frames answers. -/
def FramesOf (xs : List Int) (w : World) (e : Ending) (w' : World) : Prop :=
  ∃ v ps l, e = .returned v ∧ PartsS xs 0 l ∧ ps.map (·.s) = framesS l ∧ Segs w' w.heap.size v ps ∧ Below w.heap.size w w'

set_option maxRecDepth 100000 in
set_option maxHeartbeats 2000000 in
theorem frames_any (A : Option Addr) (c : Nat) (xs : List Int) (hsm : xs.length ≤ 100000000000) (w : World) (hrow : Row w w.heap.size (.slice A xs.length c) xs) (hbx : ∀ x ∈ xs, 0 ≤ x ∧ x < 256) :
    Calls Try.prog 19 #[.slice A xs.length c] w (FramesOf xs w) := by
  obtain ⟨i0, hi, hz0, hz1, hz2⟩ := info_parts Try.infoSeg
  refine (callsIn_wide (n := 5)).1 ?_
  refine callsIn_of_wp_marks Try.func19 rfl trivial ?_ rfl
  simp only [Try.ntmps19, List.size_toArray, List.length_cons, List.length_nil, Nat.reduceAdd, Nat.reduceSub, Array.replicate_succ, Array.replicate_zero, List.push_toArray, List.append_toArray, List.nil_append, List.cons_append]
  gi_wp2_with (refine ⟨trivial, ?_⟩; gi_at_call 35; refine (callsIn_wide.2 (parts_any _ _ _ _)).mono ?_; rintro e w' ⟨rfl, rfl⟩)
  obtain ⟨w1, hw1⟩ : ∃ w1, (w.alloc (.cells #[.slice none 0 0] 38)).alloc (.cells #[.slice A xs.length c] 22) = w1 := ⟨_, rfl⟩
  have hs0 : (w.alloc (.cells #[.slice none 0 0] 38)).heap.size = w.heap.size + 1 := World.size_alloc _ _
  have hs1 : w1.heap.size = w.heap.size + 2 := by rw [← hw1, World.size_alloc, hs0]
  have hbw : Below w.heap.size w w1 := by rw [← hw1]; exact ((Below.refl _ _).alloc (Nat.le_refl _) _).alloc (by rw [hs0]; omega) _
  have hB0 : Boxed w1 w.heap.size 38 (.slice none 0 0) := by rw [← hw1]; exact (Boxed.new w 38 (.slice none 0 0)).alloc _
  have hBn1 : Boxed w1 (w.heap.size + 1) 22 (.slice A xs.length c) := by rw [← hw1, ← hs0]; exact Boxed.new _ _ _
  try rw [hs0]
  rw [hw1]
  clear hw1 hs0
  refine range_told rfl (by omega) (gf := 55) (lb := #[.pointer (some ⟨w.heap.size + 1, 0, none⟩)]) rfl trivial (enters_of Try.func55 (by kernel_rfl) rfl)
    (parts_hands (5 - 1) (by omega) (w.heap.size + 1) w.heap.size A c xs (by omega) hbx _ hBn1.cell (by omega) (by omega) (hrow.below hbw)) (fun _ => rfl) (fun h k => h.trans k) (fun m W l o o' hl hm h hc => KeepsB.turn (w := w1) (by omega) (by omega) m W l o o' hl hm h hc)
    (Between w.heap.size w.heap.size (w.heap.size + 1) (.slice A xs.length c) w onlyF) (between_own (Nat.le_refl _) (by omega)) ⟨⟨_, hB0, Segs.nil _ _⟩, hBn1, hbw⟩
    (InRound w.heap.size w.heap.size (w.heap.size + 1) (.slice A xs.length c) w xs onlyF (fun x q => { tmps := #[.slice A xs.length c, undef, .slice none 0 0, .pointer (some ⟨w.heap.size, 0, none⟩), .pointer (some ⟨q, 0, none⟩), .slice A xs.length c, .func (.func 55) #[] #[.pointer (some ⟨w.heap.size + 1, 0, none⟩)], x.val, undef, undef, undef, undef, undef, undef, undef], defers := [] }))
    (fun m pre x a' => inRound_own (Nat.le_refl _) (by omega)) ?take ?body ?done
  case take =>
    rintro l pre x W0 W K hI hb hR _ hK
    obtain ⟨h1, h2, h3⟩ := taken_round (b := w1.heap.size) (fr := (fun x q => { tmps := #[.slice A xs.length c, undef, .slice none 0 0, .pointer (some ⟨w.heap.size, 0, none⟩), .pointer (some ⟨q, 0, none⟩), .slice A xs.length c, .func (.func 55) #[] #[.pointer (some ⟨w.heap.size + 1, 0, none⟩)], x.val, undef, undef, undef, undef, undef, undef, undef], defers := [] })) hI hb hR (Nat.le_refl _)
    have HK := Lib.hid (hK _ _ h1 h2 h3)
    clear hK h1 h2 h3 hI hb hR hrow hbx hBn1 hB0 hbw hs1
    gi_wp2
    exact HK.out
  case body =>
    rintro l m pre x a' W ⟨q, v, rfl, hq, hmq, hBm, hg, hv, hseg, hbn, hbe, hx⟩ hlen
    have hbl : Below W.heap.size W (W.alloc (.cells #[.int .i64 x.s.frm, .int .i64 x.s.n, .bool x.s.isf, .int .i64 x.s.kind, .slice x.A x.s.pay.length x.c] 41)) := (Below.refl _ _).alloc (Nat.le_refl _) _
    have hcells : ∀ (j : Nat) (u : Value), x.cells[j]? = some u → (W.alloc (.cells #[.int .i64 x.s.frm, .int .i64 x.s.n, .bool x.s.isf, .int .i64 x.s.kind, .slice x.A x.s.pay.length x.c] 41)).cell? ((⟨W.heap.size, 0, none⟩ : Addr).add j) = some u := by
      intro j u hj
      rw [Go.WideShapes.add_plain, Nat.zero_add, cell_of_row _ W.heap.size j _ _ (0, 0) (heap_alloc_new W _)]
      simpa [Pt.cells] using hj
    have HCELLS := Lib.hid hcells
    have hle : w.heap.size ≤ W.heap.size := hbe.size
    have HN := Lib.hid hlen
    have hfl := onlyF_le pre
    have hc0 := hq.cell 0
    have hc1 := hq.cell 1
    have hc2 := hq.cell 2
    have hc3 := hq.cell 3
    have hc4 := hq.cell 4
    simp at hc0 hc1 hc2 hc3 hc4
    have hcB := hv.cell
    rcases Bool.eq_false_or_eq_true x.s.isf with hf | hf
    · have happ := fun v' w2 (hs : Segs w2 w.heap.size v' (onlyF (pre ++ [x]))) (hgr : (W.alloc (.cells #[.int .i64 x.s.frm, .int .i64 x.s.n, .bool x.s.isf, .int .i64 x.s.kind, .slice x.A x.s.pay.length x.c] 41)).grownBy w2 v.ownBlock) =>
        laid_round (b := w1.heap.size) (m := m) hv hseg hbn hbe (Nat.le_refl _) (Nat.le_refl _) hBm hg (by omega) hs hgr
      rw [onlyF_yes hf] at happ
      have HAPP := Lib.hid happ
      have HSEG := Lib.hid (hseg.below hbl)
      have HX := Lib.hid (hx.1.below hbl)
      rw [hf] at hc2 HCELLS HSEG HAPP HX
      clear hq hv hseg hbn hbe hx hlen hcells happ hbl hrow hbx hBn1 hB0 hbw hs1
      gi_wp2_with (gi_at_builtin; refine wpListIn_append_seg rfl _ _ 38 rfl i0 _ Try.underlying38 hi hz0 hz1 (by omega) rfl w.heap.size v (onlyF pre) rfl HSEG.out ⟨W.heap.size, 0, none⟩ 1 x rfl HCELLS.out HX.out (by have := HN.out; omega) (by simp; omega) ?_
                   intro v' w2 hs1' hgr; obtain ⟨hv1, hkf, hkp, hbt⟩ := HAPP.out v' w2 hs1' hgr
                   obtain ⟨A1, c1, ev, _⟩ := hs1'.form
                   rw [show (onlyF pre ++ [x]).length = (onlyF pre).length + 1 by simp] at ev
                   subst ev
                   have hc1' := hv1.cell; have hf1' := hv1.frozen; have HKF := Lib.hid hkf; have HKP := Lib.hid hkp; have HBT := Lib.hid hbt; clear hkf hkp hbt hs1' hgr hv1)
      exact ⟨HKF.out, HKP.out, HBT.out⟩
    · have HB := Lib.hid (show Between w.heap.size w.heap.size (w.heap.size + 1) (.slice A xs.length c) w onlyF (pre ++ [x]) W from ⟨⟨v, hv, by rw [onlyF_no hf]; exact hseg⟩, hbn, hbe⟩)
      rw [hf] at hc2
      clear hq hv hseg hbn hbe hx hlen hcells hbl hrow hbx hBn1 hB0 hbw hs1
      gi_wp2
      exact ⟨(KeepsOthers.refl W).from _, KeepsB.refl _ _ _ _, HB.out⟩
  case done =>
    rintro D ys W hD hS ⟨⟨v, hv, hseg⟩, hbn, hbe⟩ hK
    have hc := hv.cell
    gi_wp2
    refine ⟨by simp, .inl ⟨_, _, rfl, run_takeDeferred hK, ?_⟩⟩
    exact ⟨_, results_tmp rfl _ _ _, v, onlyF ys, _, rfl, hS, onlyF_map ys, hseg.putObj _ hK rfl, hbe.trans (belowK_b (w := w) (Nat.le_refl _) W D _ _ (by omega) hK rfl rfl)⟩
#print axioms frames_any
end Go.Proofs.Ytfaedecfpnmnjaa

namespace Go.Proofs.Ytfaedecfpnmnjaa
open Go.RowKit Go.Shelf

attribute [local go_sem] Oper.semAt_some

theorem skipN_le : ∀ (l : List Sg) (L : Nat), (∀ s ∈ l, s.n ≤ L) → skipN l ≤ l.length * L
  | [], _, _ => Nat.zero_le _
  | s :: l, L, h => by
    have h1 := skipN_le l L (fun s hs => h s (by simp [hs]))
    have h2 := h s (by simp)
    rw [skipN, List.length_cons, Nat.succ_mul]
    split <;> omega
/-- Between two rounds: a box B holds how many bytes have been skipped. -/
def BetweenN (n₀ B Bn : Nat) (bv : Value) (w : World) (L : Nat) (pre : List Pt) (W : World) : Prop :=
  Boxed W B 3 (.int .i64 (skipN (pre.map (·.s)))) ∧ Boxed W Bn 22 bv ∧ Below n₀ w W ∧ ∀ p ∈ pre, p.s.n ≤ L
/-- In a round: the part lies in a block q. -/
def InRoundN (n₀ B Bn : Nat) (bv : Value) (w : World) (L : Nat) (fr : Pt → Nat → Act) (m : Nat) (pre : List Pt) (x : Pt) (a : Act) (W : World) : Prop :=
  ∃ q, a = fr x q ∧ Held W q 41 #[.int .i64 x.s.frm, .int .i64 x.s.n, .bool x.s.isf, .int .i64 x.s.kind, .slice x.A x.s.pay.length x.c] ∧ m ≤ q ∧ B < m ∧
    BetweenN n₀ B Bn bv w L pre W ∧ x.s.n ≤ L
theorem turned_int {W W' : World} {row : Option Nat} {n₀ B Bn : Nat} {bv : Value} {w : World} {L : Nat} {pre : List Pt} {b : Nat} (hn : n₀ ≤ w.heap.size) (hb : n₀ ≤ b) (h : BetweenN n₀ B Bn bv w L pre W) (hg : W.grownBy W' row) (hr : ∀ r, row = some r → b ≤ r ∧ ∃ o : Obj, W.heap[r]? = some o ∧ o.isCells = false) : BetweenN n₀ B Bn bv w L pre W' := by
  obtain ⟨h1, h2, h3, h4⟩ := h
  have ht : Turned W W' row := ⟨hg, fun r e => (hr r e).2⟩
  exact ⟨ht.block h1, ht.block h2, ownFrom_below (β := Unit) hn hb () W W' row h3 hg hr, h4⟩

set_option maxRecDepth 100000 in
set_option maxHeartbeats 2000000 in
theorem skippedN_any (A : Option Addr) (c : Nat) (xs : List Int) (hsm : xs.length ≤ 1000000) (w : World) (hrow : Row w w.heap.size (.slice A xs.length c) xs) (hbx : ∀ x ∈ xs, 0 ≤ x ∧ x < 256) :
    Calls Try.prog 21 #[.slice A xs.length c] w fun e w' => ∃ l, e = .returned (.int .i64 (skipN l)) ∧ PartsS xs 0 l ∧ Below w.heap.size w w' := by
  refine (callsIn_wide (n := 5)).1 ?_
  refine callsIn_of_wp_marks Try.func21 rfl trivial ?_ rfl
  simp only [Try.ntmps21, List.size_toArray, List.length_cons, List.length_nil, Nat.reduceAdd, Nat.reduceSub, Array.replicate_succ, Array.replicate_zero, List.push_toArray, List.append_toArray, List.nil_append, List.cons_append]
  gi_wp2_with (refine ⟨trivial, ?_⟩; gi_at_call 35; refine (callsIn_wide.2 (parts_any _ _ _ _)).mono ?_; rintro e w' ⟨rfl, rfl⟩)
  obtain ⟨w1, hw1⟩ : ∃ w1, (w.alloc (.cells #[.int .i64 0] 3)).alloc (.cells #[.slice A xs.length c] 22) = w1 := ⟨_, rfl⟩
  have hs0 : (w.alloc (.cells #[.int .i64 0] 3)).heap.size = w.heap.size + 1 := World.size_alloc _ _
  have hs1 : w1.heap.size = w.heap.size + 2 := by rw [← hw1, World.size_alloc, hs0]
  have hbw : Below w.heap.size w w1 := by rw [← hw1]; exact ((Below.refl _ _).alloc (Nat.le_refl _) _).alloc (by rw [hs0]; omega) _
  have hB0 : Boxed w1 w.heap.size 3 (.int .i64 0) := by rw [← hw1]; exact (Boxed.new w 3 (.int .i64 0)).alloc _
  have hBn1 : Boxed w1 (w.heap.size + 1) 22 (.slice A xs.length c) := by rw [← hw1, ← hs0]; exact Boxed.new _ _ _
  try rw [hs0]
  rw [hw1]
  clear hw1 hs0
  refine range_told rfl (by omega) (gf := 55) (lb := #[.pointer (some ⟨w.heap.size + 1, 0, none⟩)]) rfl trivial (enters_of Try.func55 (by kernel_rfl) rfl)
    (parts_hands (5 - 1) (by omega) (w.heap.size + 1) w.heap.size A c xs (by omega) hbx _ hBn1.cell (by omega) (by omega) (hrow.below hbw)) (fun _ => rfl) (fun h k => h.trans k) (fun m W l o o' hl hm h hc => KeepsB.turn (w := w1) (by omega) (by omega) m W l o o' hl hm h hc)
    (BetweenN w.heap.size w.heap.size (w.heap.size + 1) (.slice A xs.length c) w xs.length) (fun _ _ _ _ h hg hr => turned_int (Nat.le_refl _) (by omega) h hg hr) ⟨hB0, hBn1, hbw, by simp⟩
    (InRoundN w.heap.size w.heap.size (w.heap.size + 1) (.slice A xs.length c) w xs.length (fun x q => { tmps := #[.slice A xs.length c, undef, .int .i64 0, .pointer (some ⟨w.heap.size, 0, none⟩), .pointer (some ⟨q, 0, none⟩), .slice A xs.length c, .func (.func 55) #[] #[.pointer (some ⟨w.heap.size + 1, 0, none⟩)], x.val, undef, undef, undef, undef, undef, undef, undef, undef], defers := [] }))
    (fun m pre x a' => ?own) ?take ?body ?done
  case own =>
    rintro _ X Y row ⟨q, e, h1, h2, h3, h4, h5⟩ hg hr
    have ht : Turned X Y row := ⟨hg, fun r e => (hr r e).2⟩
    exact ⟨q, e, ht.block h1, h2, h3, turned_int (Nat.le_refl _) (by omega : w.heap.size ≤ w1.heap.size) h4 hg hr, h5⟩
  case take =>
    rintro l pre x W0 W K hI hb hR _ hK
    obtain ⟨h1, h2, h3, h4⟩ := hI
    have ba : Below W.heap.size W (W.alloc (.cells #[.int .i64 x.s.frm, .int .i64 x.s.n, .bool x.s.isf, .int .i64 x.s.kind, .slice x.A x.s.pay.length x.c] 41)) := (Below.refl _ _).alloc (Nat.le_refl _) _
    have bb : Below W0.heap.size W0 (W.alloc (.cells #[.int .i64 x.s.frm, .int .i64 x.s.n, .bool x.s.isf, .int .i64 x.s.kind, .slice x.A x.s.pay.length x.c] 41)) := hb.trans (ba.mono hb.size)
    have HK := Lib.hid (hK (((fun (x : Pt) (q : Nat) => ({ tmps := #[.slice A xs.length c, undef, .int .i64 0, .pointer (some ⟨w.heap.size, 0, none⟩), .pointer (some ⟨q, 0, none⟩), .slice A xs.length c, .func (.func 55) #[] #[.pointer (some ⟨w.heap.size + 1, 0, none⟩)], x.val, undef, undef, undef, undef, undef, undef, undef, undef], defers := [] } : Act)) x W.heap.size)) _ ((KeepsOthers.alloc W _).from _) ⟨ba.mono (Nat.le_trans h3.size hb.size), ba.block _ (Nat.lt_of_lt_of_le h2.lt hb.size), fun k _ hk => ba.block k hk⟩
      ⟨W.heap.size, rfl, heap_alloc_new W _, hb.size, h1.lt, ⟨(bb.block _ h1.lt).trans h1, (bb.block _ h2.lt).trans h2, h3.trans (bb.mono h3.size), h4⟩, by have := hR.2; omega⟩)
    clear hK h1 h2 h3 h4 ba bb hb hR hrow hbx hBn1 hB0 hbw hs1
    gi_wp2
    exact HK.out
  case body =>
    rintro l m pre x a' W ⟨q, rfl, hq, hmq, hBm, ⟨hv, hbn, hbe, hall⟩, hxn⟩ hlen
    have hne : w.heap.size ≠ w.heap.size + 1 := by omega
    have hall2 : ∀ p ∈ pre ++ [x], p.s.n ≤ xs.length := fun p hp => (List.mem_append.1 hp).elim (hall p) (fun h => by simp at h; subst h; exact hxn)
    have hle := skipN_le (pre.map (·.s)) xs.length (fun s hs => by obtain ⟨p, hp, rfl⟩ := List.mem_map.1 hs; exact hall p hp)
    rw [List.length_map] at hle
    have hle2 : skipN (pre.map (·.s)) ≤ 1000000 * 1000000 := Nat.le_trans hle (Nat.mul_le_mul (by omega) hsm)
    have hsn : skipN ((pre ++ [x]).map (·.s)) = skipN (pre.map (·.s)) + if x.s.isf then 0 else x.s.n := by
      rw [map_snoc, skipN_append]
      simp [skipN]
    have hxn1 : (x.s.n : Int) ≤ 1000000 := by omega
    have hxn0 : (0 : Int) ≤ x.s.n := by omega
    have hc0 := hq.cell 0
    have hc1 := hq.cell 1
    have hc2 := hq.cell 2
    have hc3 := hq.cell 3
    have hc4 := hq.cell 4
    simp at hc0 hc1 hc2 hc3 hc4
    have hcB := hv.cell
    have hfB := hv.frozen
    rcases Bool.eq_false_or_eq_true x.s.isf with hf | hf
    · have HB := Lib.hid (show BetweenN w.heap.size w.heap.size (w.heap.size + 1) (.slice A xs.length c) w xs.length (pre ++ [x]) W from ⟨by rw [hsn, hf]; exact hv, hbn, hbe, hall2⟩)
      rw [hf] at hc2
      clear hq hv hbn hbe hall hall2 hlen hrow hbx hBn1 hB0 hbw hs1 hsn hle
      gi_wp2
      exact ⟨(KeepsOthers.refl W).from _, KeepsB.refl _ _ _ _, HB.out⟩
    · have hbl : Below w.heap.size W (W.setCell ⟨w.heap.size, 0, none⟩ (.int .i64 ((skipN (pre.map (·.s)) : Int) + x.s.n))) := (Below.refl _ _).setCell (p := ⟨w.heap.size, 0, none⟩) (Nat.le_refl _) _
      have HB := Lib.hid (show BetweenN w.heap.size w.heap.size (w.heap.size + 1) (.slice A xs.length c) w xs.length (pre ++ [x]) (W.setCell ⟨w.heap.size, 0, none⟩ (.int .i64 ((skipN (pre.map (·.s)) : Int) + x.s.n))) from
        ⟨by rw [hsn, hf]; simpa using hv.set _, hbn.other (by omega) _, hbe.trans hbl, hall2⟩)
      have HK := Lib.hid (show KeepsB w.heap.size (w.heap.size + 1) m W (W.setCell ⟨w.heap.size, 0, none⟩ (.int .i64 ((skipN (pre.map (·.s)) : Int) + x.s.n))) from
        ⟨hbl, Below.heap_setCell _ _ _ _ (by simp), fun k hk _ => Below.heap_setCell _ _ _ _ (by simp only; omega)⟩)
      generalize skipN (pre.map (·.s)) = sk at *
      have hk0 : (0 : Int) ≤ sk := by omega
      have hk1 : (sk : Int) ≤ 1000000000000 := by omega
      rw [hf] at hc2
      clear hq hv hbn hbe hall hall2 hlen hrow hbx hBn1 hB0 hbw hs1 hsn hle hbl hle2
      gi_wp2
      exact ⟨(KeepsOthers.setCell _ _ _).from _, HK.out, HB.out⟩
  case done =>
    rintro D ys W hD hS ⟨hv, hbn, hbe, _⟩ hK
    have hc := hv.cell
    gi_wp2
    refine ⟨by simp, .inl ⟨_, _, rfl, run_takeDeferred hK, ?_⟩⟩
    exact ⟨_, results_tmp rfl _ _ _, _, rfl, hS, hbe.trans (belowK_b (w := w) (Nat.le_refl _) W D _ _ (by omega) hK rfl rfl)⟩
#print axioms skippedN_any
end Go.Proofs.Ytfaedecfpnmnjaa
