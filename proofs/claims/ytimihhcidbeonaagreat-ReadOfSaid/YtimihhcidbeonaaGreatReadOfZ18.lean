/-
  What the theorem of ReadOf rests on, part 18 of 18.
-/
import Derived.Test.YtimihhcidbeonaaGreatReadOfZ17
set_option maxRecDepth 100000
set_option maxHeartbeats 16000000
namespace Go.Proofs.YtimihhcidbeonaaGreat
open Lib (hid)
open Go.RowKit Go.Shelf
def Between (n₀ B Bn : Nat) (bv : Value) (w : World) (f : List Pt → List Pt) (pre : List Pt) (W : World) : Prop :=
 (∃ v, Boxed W B 76 v ∧ Segs W n₀ v (f pre)) ∧ Boxed W Bn 23 bv ∧ Below n₀ w W
def InRound (n₀ B Bn : Nat) (bv : Value) (w : World) (xs : List Int) (f : List Pt → List Pt) (fr : Pt → Nat → Act) (m : Nat) (pre : List Pt) (x : Pt) (a : Act) (W : World) : Prop :=
 ∃ q v, a = fr x q ∧ Held W q 80 #[.int .i64 x.s.frm, .int .i64 x.s.n, .bool x.s.isf, .int .i64 x.s.kind, .slice x.A x.s.pay.length x.c] ∧ m ≤ q ∧ B < m ∧ (∀ g, v.ownBlock = some g → g < m) ∧
  Boxed W B 76 v ∧ Segs W n₀ v (f pre) ∧ Boxed W Bn 23 bv ∧ Below n₀ w W ∧ PtOk xs x W
section
variable {n₀ B Bn : Nat} {bv : Value} {w : World} {xs : List Int} {f : List Pt → List Pt} {fr : Pt → Nat → Act}
theorem between_own {b : Nat} (hn : n₀ ≤ w.heap.size) (hb : n₀ ≤ b) : OwnFrom b (Between n₀ B Bn bv w f) := by
 rintro pre X Y row ⟨⟨v, h1, h2⟩, h3, h4⟩ hg hr
 have ht : Turned X Y row := ⟨hg, fun r e => (hr r e).2⟩
 exact ⟨⟨v, ht.block h1, h2.turned ht⟩, ht.block h3, ownFrom_below (β := Unit) hn hb () X Y row h4 hg hr⟩
theorem inRound_own {b m : Nat} {pre : List Pt} {x : Pt} {a : Act} (hn : n₀ ≤ w.heap.size) (hb : n₀ ≤ b) : OwnFrom b (fun (_ : Unit) W => InRound n₀ B Bn bv w xs f fr m pre x a W) := by
 rintro _ X Y row ⟨q, v, e, h1, h2, h3, h4, h5, h6, h7, h8, h9⟩ hg hr
 have ht : Turned X Y row := ⟨hg, fun r e => (hr r e).2⟩
 exact ⟨q, v, e, ht.block h1, h2, h3, h4, ht.block h5, h6.turned ht, ht.block h7, ownFrom_below (β := Unit) hn hb () X Y row h8 hg hr, h9.1.turned ht, h9.2⟩
theorem taken_round {b : Nat} {pre : List Pt} {x : Pt} {W0 W : World} (hI : Between n₀ B Bn bv w f pre W0) (hb : Below W0.heap.size W0 W) (hx : PtOk xs x W) (hn : n₀ ≤ w.heap.size) :
  KeepsFrom b W (W.alloc (.cells #[.int .i64 x.s.frm, .int .i64 x.s.n, .bool x.s.isf, .int .i64 x.s.kind, .slice x.A x.s.pay.length x.c] 80)) ∧
  KeepsB n₀ Bn W0.heap.size W (W.alloc (.cells #[.int .i64 x.s.frm, .int .i64 x.s.n, .bool x.s.isf, .int .i64 x.s.kind, .slice x.A x.s.pay.length x.c] 80)) ∧
  InRound n₀ B Bn bv w xs f fr W0.heap.size pre x (fr x W.heap.size) (W.alloc (.cells #[.int .i64 x.s.frm, .int .i64 x.s.n, .bool x.s.isf, .int .i64 x.s.kind, .slice x.A x.s.pay.length x.c] 80)) := by
 obtain ⟨⟨v, h1, h2⟩, h3, h4⟩ := hI
 have hn0 : n₀ ≤ W0.heap.size := Nat.le_trans hn h4.size
 have hnW : n₀ ≤ W.heap.size := Nat.le_trans hn0 hb.size
 generalize hX : W.alloc (.cells #[.int .i64 x.s.frm, .int .i64 x.s.n, .bool x.s.isf, .int .i64 x.s.kind, .slice x.A x.s.pay.length x.c] 80) = X
 have ba : Below W.heap.size W X := by rw [← hX]; exact (Below.refl _ _).alloc (Nat.le_refl _) _
 have bb : Below W0.heap.size W0 X := hb.trans (ba.mono hb.size)
 refine ⟨by rw [← hX]; exact (KeepsOthers.alloc W _).from _, ⟨ba.mono hnW, ba.block _ (Nat.lt_of_lt_of_le h3.lt hb.size), fun k _ hk => ba.block k hk⟩, W.heap.size, v, rfl, by rw [← hX]; exact heap_alloc_new W _, hb.size, h1.lt, fun g e => (h2.1.lt g e).2,
  (bb.block _ h1.lt).trans h1, h2.below bb, (bb.block _ h3.lt).trans h3, h4.trans (bb.mono hn0), hx.1.below ba, hx.2⟩
theorem laid_round {b m : Nat} {pre : List Pt} {x : Pt} {W w1 : World} {v v' : Value} {tmp : Obj} (h1 : Boxed W B 76 v) (h2 : Segs W n₀ v (f pre)) (h3 : Boxed W Bn 23 bv) (h4 : Below n₀ w W) (hn : n₀ ≤ w.heap.size) (hB : n₀ ≤ B) (hBm : B < m) (hg : ∀ g, v.ownBlock = some g → g < m) (hne : Bn ≠ B)
  (hs : Segs w1 n₀ v' (f (pre ++ [x]))) (hgr : (W.alloc tmp).grownBy w1 v.ownBlock) :
  Boxed w1 B 76 v ∧ KeepsFrom b W (w1.setCell ⟨B, 0, none⟩ v') ∧ KeepsB n₀ Bn m W (w1.setCell ⟨B, 0, none⟩ v') ∧ Between n₀ B Bn bv w f (pre ++ [x]) (w1.setCell ⟨B, 0, none⟩ v') := by
 have hnW : n₀ ≤ W.heap.size := Nat.le_trans hn h4.size
 have hap := h2.apart h1 (by decide)
 have hapn := h2.apart h3 (by decide)
 have hv1 : Boxed w1 B 76 v := (h1.alloc tmp).kept hgr (hap.elim (fun e => by rw [e]; simp) (fun e => Ne.symm e))
 have hn1 : Boxed w1 Bn 23 bv := (h3.alloc tmp).kept hgr (hapn.elim (fun e => by rw [e]; simp) (fun e => Ne.symm e))
 have hn2 : Boxed (w1.setCell ⟨B, 0, none⟩ v') Bn 23 bv := hn1.other hne v'
 have hv2 : Boxed (w1.setCell ⟨B, 0, none⟩ v') B 76 v' := hv1.set v'
 have hs2 : Segs (w1.setCell ⟨B, 0, none⟩ v') n₀ v' (f (pre ++ [x])) := by
  refine hs.kept (grownBy_setCell' w1 B v') (hs.apart hv1 (by decide)) (fun k e i n hc => ?_)
  obtain rfl : B = k := by injection e
  rw [show w1.cell? ⟨B, i, none⟩ = (#[v] : Array Value)[i]? from cell_of_row w1 B i #[v] _ _ hv1] at hc
  obtain ⟨A, c, rfl, _⟩ := h2.form
  match i with
  | 0 => simp at hc
  | i + 1 => simp at hc
 have hbl : Below n₀ W (w1.setCell ⟨B, 0, none⟩ v') := (((Below.refl n₀ W).alloc hnW tmp).grown hgr (by simp; omega) (fun k e => (h2.1.lt k e).1)).setCell (p := ⟨B, 0, none⟩) hB v'
 refine ⟨hv1, ?_, ⟨hbl, ?_, fun k hk hk2 => ?_⟩, ⟨v', hv2, hs2⟩, hn2, h4.trans hbl⟩
 ·refine (((KeepsOthers.alloc W tmp).trans (KeepsOthers.of_grownBy hgr fun j o ej hj => ?_)).trans (KeepsOthers.setCell _ _ _)).from _
  rcases (h2.alloc tmp).1.2 with ⟨rfl, _⟩ | ⟨g, cap, cur, rfl, _, hgb, _⟩
  ·simp [Value.ownBlock] at ej
  ·obtain rfl : g = j := by simpa [Value.ownBlock] using ej
   rw [hgb] at hj
   cases hj
   rfl
 ·exact hn2.trans (show W.heap[Bn]? = _ from h3).symm
 ·rw [Below.heap_setCell _ ⟨B, 0, none⟩ _ k (by simp only; omega), hgr.block k (by simp; omega) (fun e => by have := hg k e.symm; omega)]
  exact Below.heap_alloc _ _ _ hk2
end
section
attribute [local go_sem] Oper.semAt_some
theorem Segs.mono {w : World} {n0 n : Nat} {v : Value} {ps : List Pt} (h : Segs w n0 v ps) (hn : n ≤ n0) : Segs w n v ps := by
 obtain ⟨⟨h1, h2⟩, h3, h4⟩ := h
 refine ⟨⟨h1, h2.imp id ?_⟩, h3, h4⟩
 rintro ⟨g, cap, cur, e, hg, r⟩
 exact ⟨g, cap, cur, e, Nat.le_trans hn hg, r⟩
theorem appendSeq_any (A : Option Addr) (c : Nat) (xs : List Int) (hsm : xs.length ≤ 100000000000) (hbx : ∀ x ∈ xs, 0 ≤ x ∧ x < 256) (Bn : Nat) (w : World) (hBn : Boxed w Bn 23 (.slice A xs.length c)) (hlt : Bn < w.heap.size) (hrow : Row w w.heap.size (.slice A xs.length c) xs) :
  Calls Tryz.prog 177 #[.slice none 0 0, .func (.func 134) #[] #[.pointer (some ⟨Bn, 0, none⟩)]] w (Collected xs w) := by
 obtain ⟨i0, hi, hz0, hz1, hz2⟩ := info_parts Tryz.infoSeg
 refine (callsIn_wide (n := 5)).1 ?_
 refine callsIn_of_wp_marks Tryz.func177 rfl trivial ?_ rfl
 simp only [Tryz.ntmps177, List.size_toArray, List.length_cons, List.length_nil, Nat.reduceAdd, Nat.reduceSub, Array.replicate_succ, Array.replicate_zero, List.push_toArray, List.append_toArray, List.nil_append, List.cons_append]
 gi_wp2
 have hbw : Below w.heap.size w (w.alloc (.cells #[.slice none 0 0] 76)) := (Below.refl _ _).alloc (Nat.le_refl _) _
 have hB0 := Boxed.new w 76 (.slice none 0 0)
 have hBn1 : Boxed (w.alloc (.cells #[.slice none 0 0] 76)) Bn 23 (.slice A xs.length c) := (hbw.block Bn hlt).trans hBn
 have hs1 : (w.alloc (.cells #[.slice none 0 0] 76)).heap.size = w.heap.size + 1 := World.size_alloc _ _
 refine range_told rfl (by omega) (gf := 134) (lb := #[.pointer (some ⟨Bn, 0, none⟩)]) rfl trivial (enters_of Tryz.func134 (by kernel_rfl) rfl)
  (parts_hands (5 - 1) (by omega) Bn w.heap.size A c xs (by omega) hbx _ hBn1.cell (by omega) (by omega) (hrow.below hbw)) (fun _ => rfl) (fun h k => h.trans k) (fun m W l o o' hl hm h hc => KeepsB.turn (w := w.alloc (.cells #[.slice none 0 0] 76)) (by omega) (by omega) m W l o o' hl hm h hc)
  (Between w.heap.size w.heap.size Bn (.slice A xs.length c) w id) (between_own (Nat.le_refl _) (by omega)) ⟨⟨_, hB0, Segs.nil _ _⟩, hBn1, hbw⟩
  (InRound w.heap.size w.heap.size Bn (.slice A xs.length c) w xs id (fun x q => { tmps := #[.slice none 0 0, .func (.func 134) #[] #[.pointer (some ⟨Bn, 0, none⟩)], .pointer (some ⟨w.heap.size, 0, none⟩), undef, .slice none 0 0, .pointer (some ⟨q, 0, none⟩), .func (.func 134) #[] #[.pointer (some ⟨Bn, 0, none⟩)], x.val, undef, undef, undef, undef, undef], defers := [] }))
  (fun m pre x a' => inRound_own (Nat.le_refl _) (by omega)) ?take ?body ?done
 case take =>
  rintro l pre x W0 W K hI hb hR _ hK
  obtain ⟨h1, h2, h3⟩ := taken_round (b := (w.alloc (.cells #[.slice none 0 0] 76)).heap.size) (fr := (fun x q => { tmps := #[.slice none 0 0, .func (.func 134) #[] #[.pointer (some ⟨Bn, 0, none⟩)], .pointer (some ⟨w.heap.size, 0, none⟩), undef, .slice none 0 0, .pointer (some ⟨q, 0, none⟩), .func (.func 134) #[] #[.pointer (some ⟨Bn, 0, none⟩)], x.val, undef, undef, undef, undef, undef], defers := [] })) hI hb hR (Nat.le_refl _)
  have HK := hid (hK _ _ h1 h2 h3)
  clear hK h1 h2 h3 hI hb hR hrow hbx hBn hBn1 hB0 hbw
  gi_wp2
  exact HK.out
 case body =>
  rintro l m pre x a' W ⟨q, v, rfl, hq, hmq, hBm, hg, hv, hseg, hbn, hbe, hx⟩ hlen
  have hbl : Below W.heap.size W (W.alloc (.cells #[.int .i64 x.s.frm, .int .i64 x.s.n, .bool x.s.isf, .int .i64 x.s.kind, .slice x.A x.s.pay.length x.c] 80)) := (Below.refl _ _).alloc (Nat.le_refl _) _
  have happ := fun v' w1 (hs : Segs w1 w.heap.size v' (id (pre ++ [x]))) (hgr : (W.alloc (.cells #[.int .i64 x.s.frm, .int .i64 x.s.n, .bool x.s.isf, .int .i64 x.s.kind, .slice x.A x.s.pay.length x.c] 80)).grownBy w1 v.ownBlock) =>
   laid_round (b := (w.alloc (.cells #[.slice none 0 0] 76)).heap.size) (m := m) hv hseg hbn hbe (Nat.le_refl _) (Nat.le_refl _) hBm hg (Nat.ne_of_lt hlt) hs hgr
  have HAPP := hid happ
  have HSEG := hid (hseg.below hbl)
  have HX := hid (hx.1.below hbl)
  have hcells : ∀ (j : Nat) (u : Value), x.cells[j]? = some u → (W.alloc (.cells #[.int .i64 x.s.frm, .int .i64 x.s.n, .bool x.s.isf, .int .i64 x.s.kind, .slice x.A x.s.pay.length x.c] 80)).cell? ((⟨W.heap.size, 0, none⟩ : Addr).add j) = some u := by
   intro j u hj
   rw [Go.WideShapes.add_plain, Nat.zero_add, cell_of_row _ W.heap.size j _ _ (0, 0) (heap_alloc_new W _)]
   simpa [Pt.cells] using hj
  have HCELLS := hid hcells
  have hle : w.heap.size ≤ W.heap.size := hbe.size
  have HN := hid hlen
  obtain ⟨hc0, hc1, hc2, hc3, hc4⟩ := cC5 hq
  simp at hc0 hc1 hc2 hc3 hc4
  have hcB := hv.cell
  clear hq hv hseg hbn hbe hx hlen hcells happ hbl hrow hbx hBn hBn1 hB0 hbw
  gi_wp2_with (gi_at_builtin; refine wpListIn_append_seg rfl _ _ 76 rfl i0 _ Tryz.underlying76 hi hz0 hz1 (by omega) rfl w.heap.size v pre rfl HSEG.out ⟨W.heap.size, 0, none⟩ 1 x rfl HCELLS.out HX.out (by have := HN.out; omega) (by simp; omega) ?_
               intro v' w1 hs1' hgr; obtain ⟨hv1, hkf, hkp, hbt⟩ := HAPP.out v' w1 hs1' hgr
               obtain ⟨A1, c1, ev, _⟩ := hs1'.form
               rw [show (pre ++ [x]).length = pre.length + 1 by simp] at ev
               subst ev
               have hc1' := hv1.cell; have hf1' := hv1.frozen; have HKF := hid hkf; have HKP := hid hkp; have HBT := hid hbt; clear hkf hkp hbt hs1' hgr hv1)
  exact ⟨HKF.out, HKP.out, HBT.out⟩
 case done =>
  rintro D ys W hD hS ⟨⟨v, hv, hseg⟩, hbn, hbe⟩ hK
  have hc := hv.cell
  gi_wp2
  refine ⟨by simp, .inl ⟨_, _, rfl, run_takeDeferred hK, ?_⟩⟩
  exact ⟨_, results_tmp rfl _ _ _, v, ys, rfl, hS, hseg.putObj _ hK rfl, hbe.trans (belowK_b (w := w) (Nat.le_refl _) W D _ _ (by omega) hK rfl rfl)⟩
theorem collect_any (A : Option Addr) (c : Nat) (xs : List Int) (hsm : xs.length ≤ 100000000000) (hbx : ∀ x ∈ xs, 0 ≤ x ∧ x < 256) (Bn : Nat) (w : World) (hBn : Boxed w Bn 23 (.slice A xs.length c)) (hlt : Bn < w.heap.size) (hrow : Row w w.heap.size (.slice A xs.length c) xs) :
  Calls Tryz.prog 130 #[.func (.func 134) #[] #[.pointer (some ⟨Bn, 0, none⟩)]] w (Collected xs w) := by
 have HA := hid (appendSeq_any A c xs hsm hbx Bn w hBn hlt hrow)
 clear hBn hrow hbx
 go_enter Tryz.func130, Tryz.ntmps130
 go_wp2_with fail
 refine HA.out.mono ?_
 rintro e w1 ⟨v, ps, rfl, h1, h2, h3⟩
 go_wp2_with fail
 go_ret
 exact ⟨v, ps, rfl, h1, h2, h3⟩
theorem of_any (A : Option Addr) (c : Nat) (xs : List Int) (hsm : xs.length ≤ 100000000000) (w : World) (hrow : Row w w.heap.size (.slice A xs.length c) xs) (hbx : ∀ x ∈ xs, 0 ≤ x ∧ x < 256) :
  Calls Tryz.prog 79 #[.slice A xs.length c] w (Collected xs w) := by
 have hbw : Below w.heap.size w (w.alloc (.cells #[.slice A xs.length c] 23)) := (Below.refl _ _).alloc (Nat.le_refl _) _
 have HC := hid (collect_any A c xs hsm hbx w.heap.size _ (Boxed.new w 23 (.slice A xs.length c)) (by simp) ((hrow.below hbw).more (by simp)))
 have HB := hid hbw
 clear hrow hbx hbw
 go_enter Tryz.func79, Tryz.ntmps79
 go_wp2_with fail
 refine (parts_any _ _ _ _).mono ?_
 rintro e w1 ⟨rfl, rfl⟩
 go_wp2_with fail
 refine HC.out.mono ?_
 rintro e w1 ⟨v, ps, rfl, h1, h2, h3⟩
 have H1 := hid h1
 have H2 := hid h2
 have H3 := hid h3
 clear h1 h2 h3
 go_wp2_with fail
 go_ret
 refine ⟨v, ps, rfl, H1.out, H2.out.mono (by simp), HB.out.trans (H3.out.mono (by simp))⟩
end
open Go.RowKit Go.ChangeShapes Go.WideShapes
set_option linter.unusedVariables false
theorem ofG_same {xs : List Int} {g g' : Gp} (h : ofG xs g) (h' : ofG xs g') : g = g' := by
 obtain ⟨l, h1, rfl⟩ := h
 obtain ⟨l', h2, rfl⟩ := h'
 rw [h1.same h2]
theorem ofG_right {xs : List Int} {g : Gp} (hx : ∀ x ∈ xs, 0 ≤ x ∧ x < 256) (h : ofG xs g) : Ig g := by
 obtain ⟨l, h1, rfl⟩ := h
 refine Ig.zero.take fun s hs => ?_
 obtain ⟨p, hp, rfl⟩ := List.mem_map.1 hs
 exact (parts_pay hx h1 p hp).2
theorem Bd.zero : Bd 0 noG := ⟨by simp [noG], by simp [noG], by simp [noG], by simp [noG]⟩
theorem ofG_most {xs : List Int} {g : Gp} (hx : ∀ x ∈ xs, 0 ≤ x ∧ x < 256) (hl : xs.length ≤ 1000000000) (hpl : ∀ l, PartsS xs 0 l → l.length ≤ 100000) (h : ofG xs g) : g.pts.length ≤ 1000000000 ∧ g.rej.length ≤ 1000000000 := by
 obtain ⟨l, h1, rfl⟩ := h
 have hle := h1.le hx
 have h2 := Bd.zero.take (l := l.map sgJ) (fun s hs => by
  obtain ⟨p, hp, rfl⟩ := List.mem_map.1 hs
  have := hle.2.2 p hp
  exact ⟨by show (-1099511627776 : Int) ≤ (p.n : Int); omega, by show (p.n : Int) ≤ 1099511627776; omega⟩) (l.map sgJ).length (Nat.le_refl _)
 rw [List.take_length] at h2
 have h3 := hpl l h1
 have h4 := h2.pts
 have h5 := h2.rej
 rw [List.length_map] at h4 h5
 exact ⟨by omega, by omega⟩
theorem ofG_bound {xs : List Int} {g : Gp} (hx : ∀ x ∈ xs, 0 ≤ x ∧ x < 256) (hl : xs.length ≤ 100000) (h : ofG xs g) : g.pts.length ≤ 1000000000 ∧ g.rej.length ≤ 1000000000 :=
 ofG_most hx (by omega) (fun l hp => Nat.le_trans (hp.le hx).1 hl) h
theorem takeL_rej {g : Gp} {l : List Sj} (h : ∀ x ∈ g.rej, x.2 ≠ 0) : ∀ x ∈ (takeL g l).rej, x.2 ≠ 0 := by
 induction l generalizing g with
 | nil => exact h
 | cons s l ih =>
  refine ih ?_
  unfold takeS
  split
  ·exact h
  ·split
   ·rename_i h2
    intro x hx
    rcases List.mem_append.1 hx with hx | hx
    ·exact h x hx
    ·rw [List.mem_singleton.1 hx]
     exact h2
   ·exact h
theorem ofG_rej {xs : List Int} {g : Gp} (h : ofG xs g) : ∀ x ∈ g.rej, x.2 ≠ 0 := by
 obtain ⟨l, -, rfl⟩ := h
 exact takeL_rej (by simp [noG])
theorem segs_part {w W' : World} {n0 t : Nat} {v : Value} {ps : List Pt} (h : Segs w n0 v ps) (ht : t < n0) (hc : ∀ (i : Nat) (n : Int), w.cell? ⟨t, i, none⟩ ≠ some (.int .u8 n)) (hp : PartN (fun j => j = t) w W') : w.heap.size ≤ W'.heap.size ∧ W'.ownsRow n0 80 5 v ps.length (flatS ps) ∧ ∀ p ∈ ps, p.Reads W' W'.heap.size := by
 refine ⟨hp.size, own_part h.1 hp (fun j hj e => by omega), fun p hpm => ?_⟩
 exact Row.more (Row.keep_but (h.2.2 p hpm) (fun k hk hne => hp.block k hk hne) hc) hp.size
theorem jrow_part {w W' : World} {n0 t : Nat} {v : Value} {xs : List Int} {ps : List Pt} (hx : ∀ x ∈ xs, 0 ≤ x ∧ x < 256) (hl : xs.length ≤ 1000000000) (hps : PartsS xs 0 (ps.map (·.s))) (h : Segs w n0 v ps) (ht : t < n0) (hc : ∀ (i : Nat) (n : Int), w.cell? ⟨t, i, none⟩ ≠ some (.int .u8 n)) (hp : PartN (fun j => j = t) w W') : JRow W' W'.heap.size v (ps.map toJ) := by
 obtain ⟨h1, h2, h3⟩ := segs_part h ht hc hp
 have hle := hps.le hx
 have hpay := parts_pay hx hps
 refine ⟨by rw [List.length_map, flatS5_pt]; exact ERow.of_own h2, fun x hxm => ?_⟩
 obtain ⟨p, hpm, rfl⟩ := List.mem_map.1 hxm
 have k1 := hle.2.2 p.s (List.mem_map_of_mem hpm)
 have k2 := hpay p.s (List.mem_map_of_mem hpm)
 exact ⟨h3 p hpm, k2.2, by show p.s.pay.length ≤ _; omega, by show (-1099511627776 : Int) ≤ (p.s.n : Int); omega, by show (p.s.n : Int) ≤ 1099511627776; omega⟩
theorem held_no_byte {w : World} {t : Nat} {ty : TypeId} {A1 A2 A3 : Option Addr} {n1 n2 n3 c1 c2 c3 : Nat} {a b : Int} (h : Held w t ty #[.slice A1 n1 c1, .slice A2 n2 c2, .int .i64 a, .int .i64 b, .slice A3 n3 c3]) (i : Nat) (n : Int) : w.cell? ⟨t, i, none⟩ ≠ some (.int .u8 n) := by
 rw [h.cell i]
 rcases i with _ | _ | _ | _ | _ | i <;> simp
section
variable {w : World} {R : Nat} {a b c d e : Value} {T : Array Value}
theorem res_ofc (h : T[2]?.getD undef = .pointer (some ⟨R, 0, none⟩)) (hz : Held w R 64 #[a, b, c, d, e]) :
  (results Tryz.f33 T).run Tryz.prog w = .ok (.agg #[a, b, c, d, e]) w := by
 obtain ⟨z0, z1, z2, z3, z4⟩ := cC5 hz
 simp at z0 z1 z2 z3 z4
 simp [results, Tryz.results33, go_sem, h, z0, z1, z2, z3, z4]
end
def OfGot (xs : List Int) (w : World) (e : Ending) (w' : World) : Prop := ∃ g, ofG xs g ∧ GtGot w g e w'
section
variable (A : Option Addr) (c : Nat) (xs : List Int)
theorem readOf_most (hb : ∀ x ∈ xs, 0 ≤ x ∧ x < 256) (hl : xs.length ≤ 1000000000) (hpl : ∀ l, PartsS xs 0 l → l.length ≤ 100000) (w : World) (hrow : Row w w.heap.size (.slice A xs.length c) xs) :
  Calls Tryz.prog 33 #[.slice A xs.length c] w (OfGot xs w) := by
 obtain ⟨N, hN⟩ : ∃ N, w.heap.size = N := ⟨_, rfl⟩
 obtain ⟨u0, hu0⟩ : ∃ u, w.alloc (.cells #[.slice none 0 0, .slice none 0 0, .int .i64 0, .int .i64 0, .slice none 0 0] 64) = u := ⟨_, rfl⟩
 have s0 : u0.heap.size = N + 1 := by rw [← hu0, World.size_alloc, hN]
 have b0 : Below w.heap.size w u0 := by rw [← hu0]; exact (Below.refl _ _).alloc (Nat.le_refl _) _
 have k0 : Held u0 N 64 #[.slice none 0 0, .slice none 0 0, .int .i64 0, .int .i64 0, .slice none 0 0] := by rw [← hu0, ← hN]; exact heap_alloc_new w _
 have HNW := hid (rnew_any u0)
 rw [s0] at HNW
 have HSO := hid (fun W (hW : Below w.heap.size w W) => of_any A c xs (by omega) W ((hrow.below hW).more hW.size) hb)
 have HK0 := hid k0
 have HB0 := hid b0
 have HXB := hid hb
 have HN := hid hN
 have HPL := hid hpl
 clear hrow hb k0 b0 hpl
 unfold OfGot
 go_enter Tryz.func33, Tryz.ntmps33
 go_wp2_with fail
 refine HNW.out.mono ?_
 rintro e w1 ⟨rfl, h1, hb1⟩
 have z1 := h1.held.lt
 have HT1 := hid h1
 have HB1 := hid (HB0.out.trans (hb1.mono (by omega)))
 have HK1 := hid (HK0.out.below hb1 (by omega))
 have HS1 := hid (HSO.out w1 HB1.out)
 clear h1 hb1
 go_wp2_with fail
 refine HS1.out.mono ?_
 rintro e w2 ⟨v, ps, rfl, hparts, hsegs, hb2⟩
 have hz2 := hb2.size
 obtain ⟨A1, c1, rfl⟩ := own_form hsegs.1
 have ht2 := HT1.out.below hb2
 have hj := fun W' (hp : PartN (TS (N + 1) none none) w2 W') => jrow_part HXB.out hl hparts hsegs z1 (fun i n => by have h := ht2.held; exact held_no_byte h i n) (PartN.more hp (fun j hj => by
  rcases hj with hj | hj | hj
  ·exact hj
  ·cases hj
  ·cases hj))
 have hle := HPL.out _ hparts
 rw [List.length_map] at hle
 have HTK := hid (rtake_any ht2 Ig.zero Bd.zero A1 c1 (ps.map toJ) (by rw [List.length_map]; exact hj) (by rw [List.length_map]; omega))
 rw [List.length_map, List.map_map] at HTK
 have HOG := hid (show ofG xs (takeL noG (ps.map ((·.s) ∘ toJ))) from ⟨_, hparts, by rw [List.map_map]; rfl⟩)
 have HB2 := hid (HB1.out.trans (hb2.mono HB1.out.size))
 have HK2 := hid (HK1.out.below hb2 (by omega))
 generalize takeL noG (ps.map ((·.s) ∘ toJ)) = g at HTK HOG
 clear ht2 hj hparts hsegs hb2 hle
 go_wp2_with fail
 refine HTK.out.mono ?_
 rintro e w3 ⟨rfl, SA, Sc, es, PA, Pc, qs, RA, Rc, h3, hp3, hs3⟩
 have hbd := ofG_most HXB.out hl HPL.out HOG.out
 have HG3 := hid (rgot_any h3 (ofG_right HXB.out HOG.out).trc (by rw [← h3.ptsp, List.length_map] at hbd; exact hbd.1) hbd.2)
 have hlow : ∀ i, i < N + 1 → ¬ TS (N + 1) none none i := fun i hi e => by
  rcases e with e | e | e
  ·omega
  ·cases e
  ·cases e
 have hb3 : Below (N + 1) w2 w3 := hp3.low (by omega) hlow
 have HB3 := hid (HB2.out.trans (hb3.mono (by omega)))
 have HK3 := hid (HK2.out.below hb3 (by omega))
 clear h3 hp3 hs3 hb3 hbd
 go_wp2_with fail
 refine HG3.out.mono ?_
 rintro e w4 ⟨SA2, Sc2, es2, PA2, Pc2, qs2, RA2, Rc2, rfl, hg4, hb4⟩
 have hz3 := HB3.out.size
 have k4 := HK3.out.below hb4 HK3.out.lt
 obtain ⟨⟨g0, g1, g2, g3, g4⟩, c0, c1', c2, c3, c4⟩ := cG5 k4
 have lN := k4.lt
 simp at c0 c1' c2 c3 c4
 have HK4 := hid k4
 have HG4 := hid hg4
 have hN3 := HK3.out.lt
 have HB4 := hid (HB3.out.trans (hb4.mono HB3.out.size))
 clear k4 hg4 hb4
 go_wp2_with fail
 refine bodyPost_ret (v := GW g SA2 Sc2 es2 PA2 Pc2 qs2 RA2 Rc2) ?_ rfl ?_
 ·exact res_ofc (R := N) (by simp only [pV]) (held_put5 HK4.out _ _ _ _ _)
 ·refine ⟨g, HOG.out, SA2, Sc2, es2, PA2, Pc2, qs2, RA2, Rc2, rfl, ?_, ?_⟩
  ·exact (HG4.out.kept (grown_put5 w4 N _ _ _ _ _) hN3).base hz3
  ·exact HB4.out.grown (grown_put5 w4 N _ _ _ _ _) HB4.out.size (fun j e => by injection e with e; have := HN.out; omega)
theorem readOf_any (hb : ∀ x ∈ xs, 0 ≤ x ∧ x < 256) (hl : xs.length ≤ 100000) (w : World) (hrow : Row w w.heap.size (.slice A xs.length c) xs) :
  Calls Tryz.prog 33 #[.slice A xs.length c] w (OfGot xs w) := readOf_most A c xs hb (by omega) (fun l hp => Nat.le_trans (hp.le hb).1 hl) w hrow
def trcE (g : Gp) : Int := if 0 < g.sk then 5 else if 0 < g.rej.length then (g.rej.getD 0 (0, 0)).2 else if g.isg = false then 10 else 0
def TrcGot (xs : List Int) (w : World) (e : Ending) (w' : World) : Prop := ∃ g SA Sc es PA Pc ps, ofG xs g ∧ e = .returned (.tuple #[.slice SA es.length Sc, .slice PA ps.length Pc, .int .i64 (trcE g)]) ∧
 PredRow w' w'.heap.size (.slice SA es.length Sc) es ∧ TrRow w' w'.heap.size (.slice PA ps.length Pc) ps ∧ (trcE g = 0 → es.map (·.p) = g.sig ∧ ps.map (·.p) = g.pts) ∧ (trcE g ≠ 0 → es = [] ∧ ps = []) ∧ Below w.heap.size w w'
theorem readTrace_most (hb : ∀ x ∈ xs, 0 ≤ x ∧ x < 256) (hl : xs.length ≤ 1000000000) (hpl : ∀ l, PartsS xs 0 l → l.length ≤ 100000) (w : World) (hrow : Row w w.heap.size (.slice A xs.length c) xs) :
  Calls Tryz.prog 31 #[.slice A xs.length c] w (TrcGot xs w) := by
 have HOF := hid (readOf_most A c xs hb hl hpl w hrow)
 have HRT := hid (fun g (h : ofG xs g) => ofG_right hb h)
 have HBN := hid (fun g (h : ofG xs g) => ofG_most hb hl hpl h)
 clear hb hrow hpl
 unfold TrcGot
 go_enter Tryz.func31, Tryz.ntmps31
 go_wp2_with fail
 refine HOF.out.mono ?_
 rintro e w1 ⟨g, hof, SA, Sc, es, PA, Pc, ps, RA, Rc, rfl, hg1, hb1⟩
 have hR := (HBN.out g hof).2
 have hisg := (HRT.out g hof).isg
 have HOG := hid hof
 obtain ⟨u, hu⟩ : ∃ u, w1.alloc (.cells #[.slice SA es.length Sc, .slice PA ps.length Pc, .int .i64 g.sk, .int .i64 g.fr, .slice RA g.rej.length Rc] 64) = u := ⟨_, rfl⟩
 have bu : Below w1.heap.size w1 u := by rw [← hu]; exact (Below.refl _ _).alloc (Nat.le_refl _) _
 have ku : Held u w1.heap.size 64 #[.slice SA es.length Sc, .slice PA ps.length Pc, .int .i64 g.sk, .int .i64 g.fr, .slice RA g.rej.length Rc] := by rw [← hu]; exact heap_alloc_new w1 _
 have hgu := hg1.below bu
 obtain ⟨x0, x1, x2, x3, x4⟩ := cC5 ku
 simp at x0 x1 x2 x3 x4
 have HGU := hid hgu
 have HKU := hid ku
 have HBU := hid (hb1.trans (bu.mono hb1.size))
 have HSG := hid (gsigned_any u SA es.length Sc PA ps.length Pc g.sk g.fr RA g.rej.length Rc g.isg hisg)
 have hrw := ERow.of_own hgu.rej
 clear hof hg1 hb1 bu ku hgu hisg
 by_cases hs : 0 < g.sk
 ·have he : trcE g = 5 := by unfold trcE; rw [if_pos hs]
  have hs2 : g.sk > 0 := hs
  clear hrw
  go_wp2_with fail
  refine bodyPost_ret (v := .tuple #[.slice none 0 0, .slice none 0 0, .int .i64 5]) (by simp [results, Tryz.results31, go_sem]) rfl ?_
  exact ⟨g, none, 0, [], none, 0, [], HOG.out, by rw [he]; rfl, PredRow.nil _ _, ⟨ERow.nil _ _, by simp⟩, fun e => by rw [he] at e; exact absurd e (by decide), fun _ => ⟨rfl, rfl⟩, HBU.out⟩
 ·have hs2 : ¬ g.sk > 0 := hs
  by_cases hr : 0 < g.rej.length
  ·obtain ⟨d, hd⟩ : ∃ d, g.rej[0]? = some d := ⟨_, List.getElem?_eq_getElem hr⟩
   have he : trcE g = d.2 := by unfold trcE; rw [if_neg hs, if_pos hr]; simp only [List.getD, hd, Option.getD_some]
   have hdn : d.2 ≠ 0 := ofG_rej HOG.out d (List.mem_of_getElem? hd)
   obtain ⟨b, o, rfl, hbl, hc⟩ := hrw.block hr
   have v1 := hc 1 _ (by have := (flatJ_at g.rej 0 d hd).2; simpa using this)
   have hr2 : (g.rej.length : Int) > 0 := by omega
   have hr3 : (0 : Int) < g.rej.length := by omega
   have HE := hid he
   have HD := hid hdn
   obtain ⟨M, hM⟩ : ∃ M, g.rej.length = M := ⟨_, rfl⟩
   rw [hM] at x4 hr2 hr3 hr hR
   clear hrw hd he hdn hM
   go_wp2_with fail
   go_region
   all_goals (
   go_wp2_with fail
   refine bodyPost_ret (v := .tuple #[.slice none 0 0, .slice none 0 0, .int .i64 d.2]) (by simp [results, Tryz.results31, go_sem]) rfl ?_
   exact ⟨g, none, 0, [], none, 0, [], HOG.out, by rw [HE.out]; rfl, PredRow.nil _ _, ⟨ERow.nil _ _, by simp⟩, fun e => by rw [HE.out] at e; exact absurd e HD.out, fun _ => ⟨rfl, rfl⟩, HBU.out.trans ((Below.refl _ _).drew)⟩)
  ·have hr2 : ¬ (g.rej.length : Int) > 0 := by omega
   have hr3 : ¬ (0 : Int) < g.rej.length := by omega
   have he : trcE g = if g.isg = false then 10 else 0 := by unfold trcE; rw [if_neg hs, if_neg hr]
   clear hrw
   obtain ⟨M, hM⟩ : ∃ M, g.rej.length = M := ⟨_, rfl⟩
   have HSG2 := HSG.out
   rw [hM] at x4 hr2 hr3 hr hR HSG2
   clear HSG
   have HS2 := hid HSG2
   clear HSG2
   cases hi : g.isg with
   | false =>
    rw [hi] at HS2
    rw [if_pos hi] at he
    have HE := hid he
    clear hi he hM
    go_wp2_with fail
    refine HS2.out.mono ?_
    rintro e w2 ⟨rfl, hb2⟩
    have HB2 := hid (HBU.out.trans (hb2.mono HBU.out.size))
    clear hb2
    go_wp2_with fail
    refine bodyPost_ret (v := .tuple #[.slice none 0 0, .slice none 0 0, .int .i64 10]) (by simp [results, Tryz.results31, go_sem]) rfl ?_
    exact ⟨g, none, 0, [], none, 0, [], HOG.out, by rw [HE.out]; rfl, PredRow.nil _ _, ⟨ERow.nil _ _, by simp⟩, fun e => by rw [HE.out] at e; exact absurd e (by decide), fun _ => ⟨rfl, rfl⟩, HB2.out⟩
   | true =>
    rw [hi] at HS2
    rw [if_neg (by rw [hi]; decide)] at he
    have HE := hid he
    clear hi he hM
    go_wp2_with fail
    refine HS2.out.mono ?_
    rintro e w2 ⟨rfl, hb2⟩
    have HB2 := hid (HBU.out.trans (hb2.mono HBU.out.size))
    have HG2 := hid ((HGU.out.below hb2).below (Below.refl _ _).drew)
    have k2 := HKU.out.below hb2 HKU.out.lt
    clear x0 x1 x2 x3 x4
    obtain ⟨x0, x1⟩ := cC2 k2
    simp at x0 x1
    clear hb2 k2
    go_wp2_with fail
    go_region
    all_goals (
    go_wp2_with fail
    refine bodyPost_ret (v := .tuple #[.slice SA es.length Sc, .slice PA ps.length Pc, .int .i64 0]) (by simp [results, Tryz.results31, go_sem]) rfl ?_
    exact ⟨g, SA, Sc, es, PA, Pc, ps, HOG.out, by rw [HE.out], HG2.out.sig.row, HG2.out.pts.row, fun _ => ⟨HG2.out.sigp, HG2.out.ptsp⟩, fun e => absurd HE.out e, HB2.out.trans (Below.refl _ _).drew⟩)
theorem readTrace_any (hb : ∀ x ∈ xs, 0 ≤ x ∧ x < 256) (hl : xs.length ≤ 100000) (w : World) (hrow : Row w w.heap.size (.slice A xs.length c) xs) :
  Calls Tryz.prog 31 #[.slice A xs.length c] w (TrcGot xs w) := readTrace_most A c xs hb (by omega) (fun l hp => Nat.le_trans (hp.le hb).1 hl) w hrow
end
theorem ofG_nil {g : Gp} (h : ofG [] g) : g = noG := ofG_same h ⟨[], .stop 0 (Nat.le_refl _), rfl⟩
theorem ofG_one {g : Gp} (h : ofG [0] g) : g = ⟨[], false, [], 1, 0, []⟩ := ofG_same h ⟨[skipS 0 1], .rest 0 (by decide) (fun j h1 h2 hb => by
 have := begins_in (xs := [0]) (by simp) hb
 have h3 : ([0] : List Int).length = 1 := rfl
 omega), rfl⟩
theorem GAt.empty (w : World) (B : Nat) (k : Int) : GAt w B ⟨[], false, [], k, 0, []⟩ none 0 [] none 0 [] none 0 := ⟨PredRow.nil _ _, rfl, ⟨ERow.nil _ _, by simp⟩, rfl, ERow.nil _ _⟩
theorem fix18_any (w : World) : Calls Tryz.prog 29 #[] w fun e w' => e = .returned (.bool true) ∧ Below w.heap.size w w' := by
 have HO1 := hid (show Calls Tryz.prog 33 #[.slice none 0 0] w (OfGot [] w) from readOf_any none 0 [] (by simp) (by simp) w (Row.nil _ _))
 go_enter Tryz.func29, Tryz.ntmps29
 go_wp2_with fail
 refine HO1.out.mono ?_
 rintro e w1 ⟨g, hof, SA, Sc, es, PA, Pc, ps, RA, Rc, rfl, hg1, hb1⟩
 obtain rfl := ofG_nil hof
 have HS1 := hid (show Calls Tryz.prog 32 #[GW noG SA Sc es PA Pc ps RA Rc, .agg #[.slice none 0 0, .slice none 0 0, .int .i64 0, .int .i64 0, .slice none 0 0]] w1 (fun e w' => e = .returned (.bool true) ∧ Below w1.heap.size w1 w') from
  rgsame_any noG SA Sc es PA Pc ps RA Rc noG none 0 [] none 0 [] none 0 w1 hg1.row (GAt.empty w1 _ 0))
 have HB1 := hid hb1
 clear hof hg1 hb1
 go_wp2_with fail
 refine HS1.out.mono ?_
 rintro e w2 ⟨rfl, hb2⟩
 obtain ⟨u, hu⟩ : ∃ u, w2.alloc (.cells #[.int .u8 0] 5) = u := ⟨_, rfl⟩
 have bu : Below w2.heap.size w2 u := by rw [← hu]; exact (Below.refl _ _).alloc (Nat.le_refl _) _
 have hru : Row u u.heap.size (.slice (some ⟨w2.heap.size, 0, none⟩) 1 1) [0] := ⟨_, 1, rfl, Nat.le_refl _, by unfold maxLen; omega, fun e => (by cases e), fun _ => ⟨_, 0, rfl, by rw [← hu, World.size_alloc]; omega, fun i hi => by
  obtain rfl : i = 0 := by simpa using hi
  have hh : Held u w2.heap.size 5 #[.int .u8 0] := by rw [← hu]; exact heap_alloc_new w2 _
  exact hh.cell 0⟩⟩
 have HO2 := hid (show Calls Tryz.prog 33 #[.slice (some ⟨w2.heap.size, 0, none⟩) 1 1] u (OfGot [0] u) from readOf_any _ 1 [0] (by simp) (by simp) u hru)
 have HB2 := hid ((HB1.out.trans (hb2.mono HB1.out.size)).trans (bu.mono (Nat.le_trans HB1.out.size hb2.size)))
 clear hb2 bu hru
 go_wp2_with fail
 refine HO2.out.mono ?_
 rintro e w3 ⟨g, hof, SA3, Sc3, es3, PA3, Pc3, ps3, RA3, Rc3, rfl, hg3, hb3⟩
 obtain rfl := ofG_one hof
 have HS3 := hid (show Calls Tryz.prog 32 #[GW ⟨[], false, [], 1, 0, []⟩ SA3 Sc3 es3 PA3 Pc3 ps3 RA3 Rc3, .agg #[.slice none 0 0, .slice none 0 0, .int .i64 1, .int .i64 0, .slice none 0 0]] w3 (fun e w' => e = .returned (.bool true) ∧ Below w3.heap.size w3 w') from
  rgsame_any ⟨[], false, [], 1, 0, []⟩ SA3 Sc3 es3 PA3 Pc3 ps3 RA3 Rc3 ⟨[], false, [], 1, 0, []⟩ none 0 [] none 0 [] none 0 w3 hg3.row (GAt.empty w3 _ 1))
 have HB3 := hid (HB2.out.trans (hb3.mono HB2.out.size))
 clear hof hg3 hb3
 go_wp2_with fail
 refine HS3.out.mono ?_
 rintro e w4 ⟨rfl, hb4⟩
 have HB4 := hid (HB3.out.trans (hb4.mono HB3.out.size))
 clear hb4
 go_wp2_with fail
 go_ret
 exact ⟨rfl, HB4.out⟩
end Go.Proofs.YtimihhcidbeonaaGreat
