/-
  What the theorem of TopAny rests on, part 14 of 16.
-/
import Derived.Lib.MinMax
import Derived.LoopTactic
import Derived.Deep.LoopGhost
import Derived.Deep.QuietTactic
import Derived.BigQuiet
import Derived.Lib.SliceRun
import Derived.Test.YtnlfcmbpocdpjaaGreatTopAnyZ13
set_option maxRecDepth 100000
set_option maxHeartbeats 16000000
namespace Go.Proofs.YtnlfcmbpocdpjaaGreat
open Lib (hid)
open Go.RowKit
def Fed (w : World) (n0 g : Nat) (vh : Value) (xs : List Int) (T : List Sg) (a o : Nat) : Prop :=
 FeedAt w g vh a xs.length false ∧ w.ownsRow n0 5 1 vh (xs.length - o) ((xs.drop o).map (.int .u8)) ∧ Fd xs T a o
def Given (w : World) (n0 g : Nat) (vh : Value) (xs : List Int) (T : List Sg) (e : Ending) (w' : World) : Prop :=
 ∃ v ps vh' a o, e = .returned (.tuple #[v, .int .i64 0]) ∧ Segs w' w.heap.size v ps ∧ NewP w.heap.size ps ∧ Fed w' n0 g vh' xs (T ++ ps.map (·.s)) a o ∧ But w w' vh.ownBlock g ∧
  (vh'.ownBlock = vh.ownBlock ∨ ∃ j, vh'.ownBlock = some j ∧ w.heap.size ≤ j) ∧ OffN vh'.ownBlock ps ∧ ps.length ≤ xs.length
theorem give_any (w : World) (n0 g : Nat) (vh : Value) (xs : List Int) (T : List Sg) (a o : Nat) (h : Fed w n0 g vh xs T a o) (hbx : ∀ x ∈ xs, 0 ≤ x ∧ x < 256) (hn0 : n0 ≤ w.heap.size)
  (A : Option Addr) (c : Nat) (ys : List Int) (hby : ∀ y ∈ ys, 0 ≤ y ∧ y < 256) (hrow : Row w w.heap.size (.slice A ys.length c) ys) (hsm : (xs ++ ys).length ≤ 100000000000) :
  Calls Tryz.prog 49 #[.pointer (some ⟨g, 0, none⟩), .slice A ys.length c] w (Given w n0 g vh (xs ++ ys) T) := by
 obtain ⟨i0, hi, hz0, hz1, hz2⟩ := info_parts Tryz.infoU8
 obtain ⟨hf, hown, hao, ho, hsure, hset, hend⟩ := h
 have hg := hf.lt
 by_cases hy : ys = []
 ·subst hy
  have x3 := hf.cell 3
  simp at x3
  have HF := hid hf
  have HO := hid hown
  have HD := hid (show Fd xs T a o from ⟨hao, ho, hsure, hset, hend⟩)
  clear hf hown hsure hset hend hrow
  go_enter Tryz.func49, Tryz.ntmps49
  go_wp2_with fail
  go_ret2
  exact ⟨_, [], vh, a, o, rfl, Segs.nil _ _, NewP.nil _, by rw [List.append_nil, List.map_nil, List.append_nil]; exact ⟨HF.out, HO.out, HD.out⟩, But.refl _ _ _, .inl rfl, OffN.nil _, Nat.zero_le _⟩
 ·have hy0 : 0 < ys.length := by cases ys with | nil => exact absurd rfl hy | cons _ _ => simp
  have hbxy : Bytes (xs ++ ys) := Bytes.append hbx hby
  have hdr : xs.drop o ++ ys = (xs ++ ys).drop o := (List.drop_append_of_le_length ho).symm
  have hlen : (xs ++ ys).length = xs.length + ys.length := List.length_append
  obtain ⟨Ah, nh, ch, rfl⟩ : ∃ Ah nh ch, vh = .slice Ah nh ch := by obtain ⟨A, c, e⟩ := own_shape hown; exact ⟨A, _, c, e⟩
  have hnh : nh = xs.length - o := by
   obtain ⟨_, _, e⟩ := own_shape hown
   injection e
  subst hnh
  have hch : xs.length - o ≤ ch ∧ ch ≤ 9223372036854775807 := by
   rcases hown.2 with ⟨e, h0⟩ | ⟨_, _, _, e, _, _, h1, h2, _⟩
   ·injection e with _ _ e3; omega
   ·injection e with _ _ e3; unfold maxLen at h2; exact ⟨by omega, by omega⟩
  obtain ⟨hch1, hch2⟩ := hch
  have hI0 : Sure (xs ++ ys) (T ++ []) a ∧ Settled (xs ++ ys) a o := ⟨by rw [List.append_nil]; exact hsure.give hby, hset.give ys hbx ho⟩
  have hst : ∀ (ps : List Sg) a o r, (Sure (xs ++ ys) (T ++ ps) a ∧ Settled (xs ++ ys) a o) → a ≤ o → o ≤ r → r < (xs ++ ys).length → nextI true ((xs ++ ys).drop o) 0 = ((r - o : Nat) : Int) → Begins (xs ++ ys) r →
    Sure (xs ++ ys) (T ++ (ps ++ gapS a r ++ [frS (xs ++ ys) r])) (r + (getFr ((xs ++ ys).drop r)).2.1) ∧ Settled (xs ++ ys) (r + (getFr ((xs ++ ys).drop r)).2.1) (r + (getFr ((xs ++ ys).drop r)).2.1) := by
   intro ps a o r h1 h2 h3 h4 h5 h6
   have h7 := (open_here h5).1
   rw [show o + (r - o) = r by omega] at h7
   refine ⟨?_, Settled.nil _ _⟩
   have := h1.1.step hbxy (by omega) (h1.2.trans h7) h6
   simpa using this
  have HI0 := hid hI0
  have HST := hid hst
  have HBXY := hid hbxy
  have HDR := hid hdr
  have HSURE := hid hsure
  clear hI0 hst hsure hset hend hbxy hdr
  have hput := grown_put w g 2 (.int .i64 ((xs.length : Int) + ys.length))
  have HB1 := hid (But.of_one hput (Value.ownBlock (.slice Ah (xs.length - o) ch)))
  have HR1 := hid (((But.of_one hput none).clean hrow (FeedAt.nob hf (by simp)) (fun j e => by cases e)).more hput.size)
  have hown1 := hown.kept hput (own_feed hf hown)
  have hf1 : FeedAt (w.setCell ⟨g, 2, none⟩ (.int .i64 ((xs.length : Int) + ys.length))) g (.slice Ah (xs.length - o) ch) a (xs ++ ys).length false := by
   rw [FeedAt, hlen, show ((xs.length + ys.length : Nat) : Int) = (xs.length : Int) + ys.length by omega]
   simpa using hf.put 2 (.int .i64 ((xs.length : Int) + ys.length))
  have hhl : ∀ j, (Value.slice Ah (xs.length - o) ch).ownBlock = some j → j < w.heap.size := fun j e => (hown.lt j e).2
  have HHL := hid hhl
  have HRH := hid (Row.of_own hown1).cut
  have HO1 := hid hown1
  have HF1 := hid hf1
  have x0 := hf.cell 0
  have x2 := hf.cell 2
  have x3 := hf.cell 3
  have f2 := hf.frozen 2
  simp at x0 x2 x3
  have hl1 : xs.length + ys.length ≤ 100000000000 := by omega
  clear hf hown hrow hown1 hf1 hput
  go_enter Tryz.func49, Tryz.ntmps49
  go_wp2_with fail
  generalize hw1 : w.setCell ⟨g, 2, none⟩ (.int .i64 ((xs.length : Int) + ys.length)) = w1 at *
  have hg1 := HF1.out.lt
  have y0 := HF1.out.cell 0
  simp at y0
  have hdl : (xs.drop o).length = xs.length - o := List.length_drop
  have HDL := hid hdl
  have b0 : (0 : Int) ≤ ((xs.length - o : Nat) : Int) := by omega
  have b1 : ((xs.length - o : Nat) : Int) ≤ ch := by omega
  clear hdl
  go_region_law (first | (refine step_append_fresh (by rfl) (.tmp 39) (.tmp 40) 22 (by rfl) 5 i0 (.int .u8 0) Tryz.underlying22 hi hz0 hz1 hz2 rfl w1.heap.size w1.heap.size Ah A (xs.length - o) c (xs.length - o) ys.length (xs.drop o) ys (by rfl) (by rfl) HDL.out rfl HRH.out HR1.out hy0 (by omega) (by omega) w1.heap.size (by rfl) ?_; intro cap w2 hown2 hb2))
  all_goals
   have hb2' : Below w1.heap.size w1 w2 := by first | exact (Below.refl _ _).drew.trans hb2 | exact hb2
   have hz1 : w.heap.size ≤ w1.heap.size := HB1.out.size
   have HR2 := Row.of_own hown2
   rw [HDR.out] at HR2
   have HF2 := hid (HF1.out.below hb2' HF1.out.lt)
   have HO2 := hid (own_below HO1.out hb2')
   have HB2 := hid (HB1.out.trans (But.of_below hb2' _ g) (fun j e => .inl e))
   have hz2 : w.heap.size ≤ w2.heap.size := Nat.le_trans hz1 hb2'.size
   have hnl : xs.length - o + ys.length = ((xs ++ ys).drop o).length := by rw [List.length_drop]; omega
   have HTELL := hid (tellO_any (xs ++ ys) hsm HBXY.out (fun ps a o => Sure (xs ++ ys) (T ++ ps) a ∧ Settled (xs ++ ys) a o) HST.out w2 g (.slice Ah (xs.length - o) ch) (by simp) a o false hao (by omega) HI0.out HF2.out (some ⟨w1.heap.size, 0, none⟩) (xs.length - o + ys.length) cap hnl HR2)
   clear hb2 hown2 hb2' HR2 hnl HB1 HR1 HRH HO1
   go_wp2_with fail
   refine HTELL.out.mono ?_
   rintro e w3 ⟨v3, Ar, nr, cr, ps, a2, o2, q, rfl, hs3, hnp, hI3, ha2, ho2, hq, hf3, hg3, hr3, hAr, hpl, hend3⟩
   have hz3 : w2.heap.size ≤ w3.heap.size := hg3.size
   have hown3 := HO2.out.kept hg3 (own_feed HF2.out HO2.out)
   have HB3 := hid (HB2.out.trans (But.of_one hg3 _) (fun j e => .inl e))
   have HHOLD := hid (hold_any w3 g Ah (xs.length - o) ch a2 (xs ++ ys).length false hf3 n0 _ hown3 (by omega) Ar nr cr ((xs ++ ys).drop q) (by rw [List.length_drop]; omega) hr3 (fun x e e2 => by
    obtain ⟨y, e3, e4⟩ := hAr x e
    injection e3 with e3
    have := HHL.out _ e2
    rw [e4, ← e3] at this
    simp only at this
    omega))
   obtain ⟨A3, c3, rfl, _, _⟩ := hs3.form
   have HS3 := hid hs3
   have HNP := hid hnp
   have HI3 := hid hI3
   have HF3 := hid hf3
   have HE3 := hid hend3
   clear hs3 hnp hI3 hf3 hg3 hr3 hAr hend3 hown3
   go_wp2_with fail
   refine HHOLD.out.mono ?_
   rintro e w4 ⟨v4, rfl, hf4, hown4, hbut4, hat4⟩
   have HF4 := hid hf4
   have HO4 := hid hown4
   have HB4 := hid hbut4
   have HA4 := hid hat4
   clear hf4 hown4 hbut4 hat4
   go_wp2_with fail
   go_ret2
   have hoff := HNP.out.offN (row := (Value.slice Ah (xs.length - o) ch).ownBlock) (fun j e => Nat.lt_of_lt_of_le (HHL.out j e) hz2)
   have hown4 := HO4.out
   rw [List.length_drop] at hown4
   have hs4 := HS3.out.but HB4.out (FeedAt.nob HF3.out (by simp)) (HS3.out.apart HF3.out (by decide)) (by
    rcases (HS3.out.1).2 with ⟨e2, _⟩ | ⟨b, cap, cur, e2, hb, _⟩
    ·exact .inl (by rw [e2]; rfl)
    ·refine .inr fun e => ?_
     rw [e2] at e
     have := HHL.out b e.symm
     omega) hoff
   refine ⟨_, ps, v4, a2, q, rfl, hs4.mono (by omega), HNP.out.less hz2, ⟨HF4.out, hown4, by omega, hq, HI3.out.1, ?_, ?_⟩, HB3.out.trans HB4.out (fun j e => .inl e), ?_, ?_, hpl⟩
   ·rcases HE3.out with ⟨h1, h2⟩ | ⟨h1, _⟩
    ·rw [h2]
     exact HI3.out.2.trans (open_gone (by omega) h1)
    ·have h7 := (open_here h1).1
     rw [show o2 + (q - o2) = q by omega] at h7
     exact HI3.out.2.trans h7
   ·rcases HE3.out with ⟨_, h2⟩ | ⟨h1, h2⟩
    ·exact .inl h2
    ·have h7 := (open_here h1).2
     rw [show o2 + (q - o2) = q by omega] at h7
     exact .inr (h7.resolve_left h2)
   ·rcases HA4.out with h | ⟨j, h1, h2⟩
    ·exact .inl h
    ·exact .inr ⟨j, h1, by omega⟩
   ·rcases HA4.out with h | ⟨j, h1, h2⟩
    ·rw [h]; exact hoff
    ·exact (reads_low HS3.out.2.2 rfl).offN (fun i e => by rw [h1] at e; injection e with e; omega)
def Closed (w : World) (n0 g : Nat) (vh : Value) (xs : List Int) (T : List Sg) (e : Ending) (w' : World) : Prop :=
 ∃ v ps vh' a, e = .returned (.tuple #[v, .int .i64 0]) ∧ Segs w' w.heap.size v ps ∧ NewP w.heap.size ps ∧ PartsS xs 0 (T ++ ps.map (·.s)) ∧ FeedAt w' g vh' a xs.length true ∧ w'.ownsRow n0 5 1 vh' 0 [] ∧ But w w' vh.ownBlock g ∧
  (vh'.ownBlock = vh.ownBlock ∨ ∃ j, vh'.ownBlock = some j ∧ w.heap.size ≤ j) ∧ OffN vh'.ownBlock ps ∧ ps.length ≤ xs.length + 1
theorem close_any (w : World) (n0 g : Nat) (vh : Value) (xs : List Int) (T : List Sg) (a o : Nat) (h : Fed w n0 g vh xs T a o) (hbx : ∀ x ∈ xs, 0 ≤ x ∧ x < 256) (hn0 : n0 ≤ w.heap.size) (hsm : xs.length ≤ 100000000000) :
  Calls Tryz.prog 51 #[.pointer (some ⟨g, 0, none⟩)] w (Closed w n0 g vh xs T) := by
 obtain ⟨hf, hown, hao, ho, hsure, hset, hend⟩ := h
 have hg := hf.lt
 obtain ⟨Ah, nh, ch, rfl⟩ : ∃ Ah nh ch, vh = .slice Ah nh ch := by obtain ⟨A, c, e⟩ := own_shape hown; exact ⟨A, _, c, e⟩
 have hnh : nh = xs.length - o := by
  obtain ⟨_, _, e⟩ := own_shape hown
  injection e
 subst hnh
 have hI0 : Ahead xs (T ++ []) a ∧ ∀ j, a ≤ j → j < o → ¬ Begins xs j := ⟨by rw [List.append_nil]; exact hsure.now, hset.no⟩
 have hst : ∀ (ps : List Sg) a o r, (Ahead xs (T ++ ps) a ∧ ∀ j, a ≤ j → j < o → ¬ Begins xs j) → a ≤ o → o ≤ r → r < xs.length → nextI false (xs.drop o) 0 = ((r - o : Nat) : Int) → Begins xs r →
   Ahead xs (T ++ (ps ++ gapS a r ++ [frS xs r])) (r + (getFr (xs.drop r)).2.1) ∧ ∀ j, r + (getFr (xs.drop r)).2.1 ≤ j → j < r + (getFr (xs.drop r)).2.1 → ¬ Begins xs j := by
  intro ps a o r h1 h2 h3 h4 h5 h6
  have h7 := (next_here h5).2
  rw [show o + (r - o) = r by omega] at h7
  refine ⟨?_, fun j q1 q2 => by omega⟩
  have := h1.1.step (by omega : a ≤ r) h4 (fun j q1 q2 => by
   rcases Nat.lt_or_ge j o with h | h
   ·exact h1.2 j q1 h
   ·exact h7 j h q2) h6
  simpa using this
 have hput := grown_put w g 3 (.bool true)
 have hf1 : FeedAt (w.setCell ⟨g, 3, none⟩ (.bool true)) g (.slice Ah (xs.length - o) ch) a xs.length true := by simpa using hf.put 3 (.bool true)
 have hown1 := hown.kept hput (own_feed hf hown)
 have hr1 := Row.of_own hown1
 have hhl : ∀ j, (Value.slice Ah (xs.length - o) ch).ownBlock = some j → j < w.heap.size := fun j e => (hown.lt j e).2
 have HHL := hid hhl
 have HB1 := hid (But.of_one hput (Value.ownBlock (.slice Ah (xs.length - o) ch)))
 have HTELL := hid (tellN_any xs hsm hbx (fun ps a o => Ahead xs (T ++ ps) a ∧ ∀ j, a ≤ j → j < o → ¬ Begins xs j) hst _ g (.slice Ah (xs.length - o) ch) (by simp) a o true hao ho hI0 hf1 Ah (xs.length - o) ch (by rw [List.length_drop]) hr1)
 have HO1 := hid hown1
 have HF1 := hid hf1
 have x3 := hf.cell 3
 have f3 := hf.frozen 3
 simp at x3
 have y0 := hf1.cell 0
 simp at y0
 have hz1 : w.heap.size ≤ (w.setCell ⟨g, 3, none⟩ (.bool true)).heap.size := hput.size
 obtain ⟨w1, hw1⟩ : ∃ w1, w.setCell ⟨g, 3, none⟩ (.bool true) = w1 := ⟨_, rfl⟩
 rw [hw1] at HB1 HTELL HO1 HF1 y0 hz1
 have hgl1 := HF1.out.lt
 clear hf hown hsure hset hend hI0 hst hput hf1 hown1 hr1 hhl
 go_enter Tryz.func51, Tryz.ntmps51
 go_wp2_with fail
 refine HTELL.out.mono ?_
 rintro e w3 ⟨v3, Ar, nr, cr, ps, a2, o2, q, rfl, hs3, hnp, hI3, ha2, ho2, hq, hf3, hg3, hr3, hAr, hpl, hend3⟩
 have hz3 : w1.heap.size ≤ w3.heap.size := hg3.size
 have hown3 := HO1.out.kept hg3 (own_feed HF1.out HO1.out)
 have HB3 := hid (HB1.out.trans (But.of_one hg3 _) (fun j e => .inl e))
 have HSK := hid (skip_any w3 g (.slice Ah (xs.length - o) ch) a2 xs.length xs.length true hf3 w1.heap.size v3 ps hs3 hz3 (by omega) hsm (by omega) (by simp))
 obtain ⟨A3, c3, rfl, _, _⟩ := hs3.form
 have x2 := hf3.cell 2
 simp at x2
 have hgl3 := hf3.lt
 have HS3 := hid hs3
 have HNP := hid hnp
 have HI3 := hid hI3
 have HF3 := hid hf3
 have HO3 := hid hown3
 have HE3 := hid hend3
 clear hs3 hnp hI3 hf3 hg3 hr3 hAr hend3 hown3
 go_wp2_with fail
 refine HSK.out.mono ?_
 rintro e w4 ⟨v4, rfl, hs4, hf4, hbut4⟩
 have hz4 : w3.heap.size ≤ w4.heap.size := hbut4.size
 have hv3 : ∀ j, (Value.slice A3 ps.length c3).ownBlock = some j → w1.heap.size ≤ j := fun j e => (HS3.out.1.lt j e).1
 have hown4 := own_but HO3.out hbut4 (own_feed HF3.out HO3.out) (by
  rcases HO3.out.2 with ⟨e2, _⟩ | ⟨b, cap, cur, e2, hb, _⟩
  ·exact .inl (by rw [e2]; rfl)
  ·refine .inr fun e => ?_
   have h1 := HHL.out b (by rw [e2]; rfl)
   rw [e2] at e
   have := hv3 b e.symm
   omega)
 have HB4 := hid (HB3.out.trans hbut4 (fun j e => .inr (Nat.le_trans hz1 (hv3 j e))))
 have HHOLD := hid (hold_any w4 g Ah (xs.length - o) ch _ xs.length true hf4 n0 _ hown4 (by omega) none 0 0 [] (by simp) (Row.nil _ _) (fun x e => by cases e))
 obtain ⟨A4, c4, ev, _, _⟩ := hs4.form
 obtain ⟨N4, hN4⟩ : ∃ N4, (ps ++ gapP a2 xs.length).length = N4 := ⟨_, rfl⟩
 rw [hN4] at ev
 subst ev
 have hN42 : N4 ≤ ps.length + 1 := by rw [← hN4, List.length_append]; have := gapP_len a2 xs.length; omega
 have HN4 := hid hN4
 have HS4 := hid hs4
 have HF4 := hid hf4
 clear hs4 hf4 hbut4 hown4 hN4 HO3 HB3
 go_wp2_with fail
 refine HHOLD.out.mono ?_
 rintro e w5 ⟨v5, rfl, hf5, hown5, hbut5, hat5⟩
 have HF5 := hid hf5
 have HO5 := hid hown5
 have HB5 := hid hbut5
 have HA5 := hid hat5
 clear hf5 hown5 hbut5 hat5
 go_wp2_with fail
 go_ret2
 have hnp : NewP w1.heap.size (ps ++ gapP a2 xs.length) := HNP.out.append (gapP_new _ _ _)
 have hoff := hnp.offN (row := (Value.slice Ah (xs.length - o) ch).ownBlock) (fun j e => Nat.lt_of_lt_of_le (HHL.out j e) hz1)
 have hs5 := HS4.out.but HB5.out (FeedAt.nob HF4.out (by simp)) (HS4.out.apart HF4.out (by decide)) (by
  rcases (HS4.out.1).2 with ⟨e2, _⟩ | ⟨b, cap, cur, e2, hb, _⟩
  ·exact .inl (by rw [e2]; rfl)
  ·refine .inr fun e => ?_
   rw [e2] at e
   have := HHL.out b e.symm
   omega) hoff
 refine ⟨_, ps ++ gapP a2 xs.length, v5, _, rfl, hs5.mono hz1, hnp.less hz1, ?_, HF5.out, HO5.out, HB4.out.trans HB5.out (fun j e => .inl e), ?_, ?_, by rw [HN4.out]; omega⟩
 ·rw [List.map_append, gapP_map, ← List.append_assoc]
  refine HI3.out.1.end fun j h1 h2 => ?_
  rcases HE3.out with ⟨h3, h4⟩ | ⟨h3, h4⟩
  ·rcases Nat.lt_or_ge j o2 with h | h
   ·exact HI3.out.2 j h1 h
   ·exact next_gone h3 j h h2
  ·have h7 := (next_here h3).1
   rw [show o2 + (q - o2) = q by omega] at h7
   exact absurd h7 h4
 ·rcases HA5.out with h | ⟨j, h1, h2⟩
  ·exact .inl h
  ·exact .inr ⟨j, h1, by omega⟩
 ·rcases HA5.out with h | ⟨j, h1, h2⟩
  ·rw [h]; exact hoff
  ·exact (reads_low HS4.out.2.2 rfl).offN (fun i e => by rw [h1] at e; injection e with e; omega)
def sgK (s : Sg) : Sj := ⟨s.frm, s.n, s.isf, s.kind, s.pay⟩
def sumN : List Sg → Nat
 | [] => 0
 | s :: l => s.n + sumN l
theorem sumN_append : ∀ (l m : List Sg), sumN (l ++ m) = sumN l + sumN m
 | [], m => by simp [sumN]
 | s :: l, m => by simp only [List.cons_append, sumN, sumN_append l m, Nat.add_assoc]
theorem sumN_step {l : List Sg} {k : Nat} {s : Sg} (h : l[k]? = some s) : sumN (l.take (k + 1)) = sumN (l.take k) + s.n := by
 rw [List.take_add_one, h, sumN_append]
 simp [sumN]
theorem Tiled.sum {xs : List Int} : ∀ (l : List Sg) (a : Nat) (sk : Bool), Tiled xs a sk l → sumN l + a = xs.length
 | [], a, _, h => by
  have h' : a = xs.length := h
  simp [sumN, h']
 | s :: l, a, sk, h => by
  obtain ⟨_, _, _, _, _, _, h7⟩ := h
  have := Tiled.sum l (a + s.n) _ h7
  simp only [sumN]
  omega
theorem sumN_parts : ∀ l : List Sg, sumN l = skipN l + sumN (framesS l)
 | [] => rfl
 | s :: l => by
  have ih := sumN_parts l
  unfold framesS at ih ⊢
  cases hf : s.isf with
  | true => simp only [sumN, skipN, List.filter_cons, hf, if_true]; omega
  | false => simp only [sumN, skipN, List.filter_cons, hf, Bool.false_eq_true, if_false]; omega
theorem framesS_mem {l : List Sg} {s : Sg} (h : s ∈ framesS l) : s ∈ l := (List.mem_filter.1 h).1
theorem takeL_all : ∀ (l : List Sg) (g : Gp), (takeL g (l.map sgK)).sk = g.sk + skipN l ∧ (takeL g (l.map sgK)).fr + (takeL g (l.map sgK)).rej.length = g.fr + g.rej.length + (framesS l).length ∧
  ∃ R, (takeL g (l.map sgK)).rej = g.rej ++ R ∧ (R.map (·.1)).Sublist ((framesS l).map (fun s => (s.frm : Int)))
 | [], g => ⟨by simp [takeL, skipN], by simp [takeL, framesS], [], by simp [takeL], by simp⟩
 | s :: l, g => by
  have h := takeL_all l (takeS g (sgK s))
  have e : takeL g ((s :: l).map sgK) = takeL (takeS g (sgK s)) (l.map sgK) := rfl
  rw [e]
  obtain ⟨h1, h2, R, h3, h4⟩ := h
  rw [h1, h2, h3]
  have hf1 : (sgK s).isf = s.isf := rfl
  unfold framesS at h4 ⊢
  cases hf : s.isf with
  | false =>
   have ht : takeS g (sgK s) = ⟨g.sig, g.isg, g.pts, g.sk + s.n, g.fr, g.rej⟩ := by unfold takeS; rw [if_pos (hf1.trans hf)]; rfl
   rw [ht]
   refine ⟨?_, ?_, R, rfl, ?_⟩
   ·simp only [skipN, hf, Bool.false_eq_true, if_false]; omega
   ·simp only [List.filter_cons, hf, Bool.false_eq_true, if_false]
   ·simp only [List.filter_cons, hf, Bool.false_eq_true, if_false]; exact h4
  | true =>
   by_cases he : (frameG g s.kind s.pay).2 ≠ 0
   ·have ht : takeS g (sgK s) = ⟨g.sig, g.isg, g.pts, g.sk, g.fr, g.rej ++ [((s.frm : Int), (frameG g s.kind s.pay).2)]⟩ := by
     unfold takeS
     rw [if_neg (by rw [hf1, hf]; decide)]
     exact if_pos he
    rw [ht]
    refine ⟨?_, ?_, ((s.frm : Int), (frameG g s.kind s.pay).2) :: R, by simp, ?_⟩
    ·simp only [skipN, hf, if_true]; omega
    ·simp only [List.filter_cons, hf, if_true, List.length_cons, List.length_append, List.length_nil]; omega
    ·simp only [List.filter_cons, hf, if_true, List.map_cons]
     exact h4.cons_cons _
   ·have ht : takeS g (sgK s) = ⟨(frameG g s.kind s.pay).1.sig, (frameG g s.kind s.pay).1.isg, (frameG g s.kind s.pay).1.pts, g.sk, g.fr + 1, g.rej⟩ := by
     unfold takeS
     rw [if_neg (by rw [hf1, hf]; decide)]
     exact if_neg he
    rw [ht]
    refine ⟨?_, ?_, R, rfl, ?_⟩
    ·simp only [skipN, hf, if_true]; omega
    ·simp only [List.filter_cons, hf, if_true, List.length_cons]; omega
    ·simp only [List.filter_cons, hf, if_true, List.map_cons]
     exact h4.cons _
open Go.RowKit Go.ChangeShapes Go.WideShapes
set_option linter.unusedVariables false
def gT (T : List Sg) : Gp := takeL noG (T.map sgJ)
theorem gT_append (T D : List Sg) : gT (T ++ D) = takeL (gT T) (D.map sgJ) := by unfold gT; rw [List.map_append, takeL_append]
theorem gT_pts (T D : List Sg) : ∃ m, (gT (T ++ D)).pts = (gT T).pts ++ m := by rw [gT_append]; exact takeL_pts _ _
theorem takeS_cnts (g : Gp) (s : Sj) (h0 : 0 ≤ s.n) (h1 : s.n ≤ 1000000000) : (takeS g s).pts.length ≤ g.pts.length + 1024 ∧ (takeS g s).rej.length ≤ g.rej.length + 1 ∧ (g.fr ≤ (takeS g s).fr ∧ (takeS g s).fr ≤ g.fr + 1) ∧ (g.sk ≤ (takeS g s).sk ∧ (takeS g s).sk ≤ g.sk + 1000000000) := by
 have hp := frameG_pts g s.kind s.pay
 unfold takeS
 split
 ·exact ⟨by simp only; omega, by simp only; omega, by simp only; omega, by simp only; omega⟩
 ·split
  ·exact ⟨by simp only; omega, by simp only [List.length_append, List.length_cons, List.length_nil]; omega, by simp only; omega, by simp only; omega⟩
  ·exact ⟨by simp only; omega, by simp only; omega, by simp only; omega, by simp only; omega⟩
theorem takeL_cnts : ∀ (l : List Sj) (g : Gp), (∀ s ∈ l, 0 ≤ s.n ∧ s.n ≤ 1000000000) →
  (takeL g l).pts.length ≤ g.pts.length + 1024 * l.length ∧ (takeL g l).rej.length ≤ g.rej.length + l.length ∧ (g.fr ≤ (takeL g l).fr ∧ (takeL g l).fr ≤ g.fr + l.length) ∧ (g.sk ≤ (takeL g l).sk ∧ (takeL g l).sk ≤ g.sk + 1000000000 * l.length)
 | [], g, _ => ⟨by simp [takeL], by simp [takeL], by simp [takeL], by simp [takeL]⟩
 | s :: l, g, h => by
  have h1 := h s (List.mem_cons_self ..)
  obtain ⟨a1, a2, a3, a4⟩ := takeS_cnts g s h1.1 h1.2
  obtain ⟨b1, b2, b3, b4⟩ := takeL_cnts l (takeS g s) (fun x hx => h x (List.mem_cons_of_mem _ hx))
  rw [show takeL g (s :: l) = takeL (takeS g s) l from rfl, List.length_cons]
  exact ⟨by omega, by omega, by omega, by omega⟩
def TdOk (T : List Sg) : Prop := T.length ≤ 90000 ∧ ∃ xs l, (∀ x ∈ xs, 0 ≤ x ∧ x < 256) ∧ xs.length ≤ 1000000000 ∧ PartsS xs 0 (T ++ l)
section
variable {T D : List Sg} {xs : List Int}
theorem TdOk.less (h : TdOk (T ++ D)) : TdOk T := by
 obtain ⟨h1, xs, l, h2, h3, h4⟩ := h
 rw [List.length_append] at h1
 exact ⟨by omega, xs, D ++ l, h2, h3, by rw [← List.append_assoc]; exact h4⟩
theorem TdOk.mem (h : TdOk T) : ∀ s ∈ T, s.pay.length ≤ 4096 ∧ (∀ y ∈ s.pay, 0 ≤ y ∧ y < 256) ∧ s.n ≤ 1000000000 := by
 obtain ⟨h1, xs, l, h2, h3, h4⟩ := h
 intro s hs
 have k1 := parts_pay h2 h4 s (List.mem_append_left _ hs)
 have k2 := (h4.le h2).2.2 s (List.mem_append_left _ hs)
 exact ⟨k1.1, k1.2, by omega⟩
theorem TdOk.ig (h : TdOk T) : Ig (gT T) := by
 refine Ig.zero.take fun s hs => ?_
 obtain ⟨p, hp, rfl⟩ := List.mem_map.1 hs
 exact (h.mem p hp).2.1
theorem TdOk.cnts (h : TdOk T) : (gT T).pts.length ≤ 92160000 ∧ (gT T).rej.length ≤ 90000 ∧ (0 ≤ (gT T).fr ∧ (gT T).fr ≤ 90000) ∧ (0 ≤ (gT T).sk ∧ (gT T).sk ≤ 90000000000000) := by
 obtain ⟨a1, a2, a3, a4⟩ := takeL_cnts (T.map sgJ) noG (fun s hs => by
  obtain ⟨p, hp, rfl⟩ := List.mem_map.1 hs
  have := (h.mem p hp).2.2
  exact ⟨by show (0 : Int) ≤ (p.n : Int); omega, by show (p.n : Int) ≤ 1000000000; omega⟩)
 have h1 := h.1
 rw [List.length_map] at a1 a2 a3 a4
 have z1 : noG.pts.length = 0 := rfl
 have z2 : noG.rej.length = 0 := rfl
 have z3 : noG.fr = 0 := rfl
 have z4 : noG.sk = 0 := rfl
 rw [z1] at a1
 rw [z2] at a2
 rw [z3] at a3
 rw [z4] at a4
 unfold gT
 exact ⟨by omega, by omega, by omega, by omega⟩
theorem TdOk.bd (h : TdOk T) : Bd 0 (gT T) := by
 obtain ⟨a1, a2, a3, a4⟩ := h.cnts
 exact ⟨by omega, by omega, by omega, by omega⟩
theorem TdOk.sum (h : TdOk T) : sumN T ≤ 1000000000 := by
 obtain ⟨h1, xs, l, h2, h3, h4⟩ := h
 have := Tiled.sum _ _ _ (h4.tiled h2 (Nat.zero_le _))
 rw [sumN_append] at this
 omega
end
def KS (s t : Nat) (PA RA : Option Addr) (j : Nat) : Prop := j = s ∨ TS t PA RA j
abbrev SBox (w : World) (s f t : Nat) (a b : Int) : Prop := Held w s 71 #[.pointer (some ⟨f, 0, none⟩), .pointer (some ⟨t, 0, none⟩), .int .i64 a, .int .i64 b]
structure KAt (w : World) (n s f t : Nat) (T : List Sg) (SA : Option Addr) (Sc : Nat) (es : List Pd) (PA : Option Addr) (Pc : Nat) (ps : List Pm) (RA : Option Addr) (Rc : Nat) : Prop where
 box : SBox w s f t (sumN T) (gT T).pts.length
 low : n ≤ s
 tak : TAt w n t (gT T) SA Sc es PA Pc ps RA Rc
section
variable {w w' : World} {S : Nat → Prop} {n s f t : Nat} {T : List Sg} {SA : Option Addr} {Sc : Nat} {es : List Pd} {PA : Option Addr} {Pc : Nat} {ps : List Pm} {RA : Option Addr} {Rc : Nat}
theorem KAt.below (h : KAt w n s f t T SA Sc es PA Pc ps RA Rc) (hb : Below w.heap.size w w') : KAt w' n s f t T SA Sc es PA Pc ps RA Rc := ⟨h.box.below hb h.box.lt, h.low, h.tak.below hb⟩
theorem KAt.lt (h : KAt w n s f t T SA Sc es PA Pc ps RA Rc) {j : Nat} (hj : KS s t PA RA j) : n ≤ j ∧ j < w.heap.size := by
 rcases hj with rfl | hj
 ·exact ⟨h.low, h.box.lt⟩
 ·exact h.tak.lt hj
theorem KAt.nots (h : KAt w n s f t T SA Sc es PA Pc ps RA Rc) (hp : PartN S w w') (hn : ∀ e, TkT e → NotS w S e) (h0 : NotS w S 71) : KAt w' n s f t T SA Sc es PA Pc ps RA Rc := ⟨h.box.nots hp h0, h.low, h.tak.nots hp hn⟩
theorem KAt.notS (h : KAt w n s f t T SA Sc es PA Pc ps RA Rc) (e : TypeId) (h0 : 71 ≠ e) (h1 : 93 ≠ e) (h2 : 55 ≠ e) (h3 : 38 ≠ e) : NotS w (KS s t PA RA) e := by
 rintro j c z (rfl | hj)
 ·exact NotT.of_held h.box h0 j c z rfl
 ·exact h.tak.notS e h1 h2 h3 j c z hj
theorem TAt.sput {a b : Int} {g : Gp} (h : TAt w n t g SA Sc es PA Pc ps RA Rc) (hb : SBox w s f t a b) (i : Nat) (u : Value) : TAt (w.setCell ⟨s, i, none⟩ u) n t g SA Sc es PA Pc ps RA Rc :=
 h.nots (PartN.put (S := fun j => j = s) rfl i u) (fun e he => by
  rintro j c z rfl
  refine NotT.of_held hb ?_ j c z rfl
  rcases he with rfl | rfl | rfl | rfl | rfl | rfl | rfl <;> decide)
end
structure Cu where
 A : Option Addr
 c : Nat
 b : List Int
abbrev Cu.val (x : Cu) : Value := .slice x.A x.b.length x.c
def cuVs (l : List Cu) : List Value := l.map (·.val)
theorem cuVs_snoc (l : List Cu) (x : Cu) : cuVs l ++ [x.val] = cuVs (l ++ [x]) := by unfold cuVs; rw [List.map_append]; rfl
theorem cuVs_at {l : List Cu} {i : Nat} {x : Cu} (h : l[i]? = some x) : (cuVs l)[i]? = some x.val := by unfold cuVs; rw [List.getElem?_map, h]; rfl
def OwnC (w : World) (n : Nat) (v : Value) (cs : List Cu) : Prop := w.ownsRow n 22 1 v cs.length (cuVs cs) ∧ ∀ x ∈ cs, w.ownsRow n 5 1 x.val x.b.length (x.b.map (.int .u8))
theorem Tryz.infoRowB : (Tryz.prog.info? 22).map (fun i => (i.zero, i.size, i.bytes)) = some (some (.slice none 0 0), 1, 24) := by kernel_rfl
section
variable {w w' : World} {n m : Nat} {v : Value} {cs : List Cu}
theorem OwnC.nil (w : World) (n : Nat) : OwnC w n (.slice none 0 0) [] := ⟨World.ownsRow_nil _ _ _ _, by simp⟩
theorem OwnC.below (h : OwnC w n v cs) (hb : Below w.heap.size w w') : OwnC w' n v cs := ⟨own_below h.1 hb, fun x hx => own_below (h.2 x hx) hb⟩
theorem OwnC.next {x : Cu} {v' : Value} (h : OwnC w n v cs) (hx : w.ownsRow n 5 1 x.val x.b.length (x.b.map (.int .u8))) (ho : w'.ownsRow n 22 1 v' (cs ++ [x]).length (cuVs (cs ++ [x]))) (hg : w.grownBy w' v.ownBlock) : OwnC w' n v' (cs ++ [x]) := by
 have hn := NotT.of_own (e := 5) h.1 (by decide)
 refine ⟨ho, fun y hy => ?_⟩
 rcases List.mem_append.1 hy with hy | hy
 ·exact own_nott (h.2 y hy) hn hg
 ·rw [List.mem_singleton.1 hy]
  exact own_nott hx hn hg
end
theorem bclone19_any (w : World) (C : Option Addr) (cc : Nat) (bs : List Int) (hrow : Row w w.heap.size (.slice C bs.length cc) bs) (hl : bs.length ≤ 1000000000) :
  Calls Tryz.prog 47 #[.slice C bs.length cc] w fun e w' => ∃ C2 c2, e = .returned (.slice C2 bs.length c2) ∧ w'.ownsRow w.heap.size 5 1 (.slice C2 bs.length c2) bs.length (bs.map (.int .u8)) ∧ Below w.heap.size w w' := by
 obtain ⟨i0, hi, hz0, hz1, hz2⟩ := info_parts Tryz.infoU8
 rcases C with _ | ad
 ·have h0 : bs = [] ∧ cc = 0 := by
   obtain ⟨_, _, hv, q1, q2, q3, q4⟩ := hrow
   injection hv with e1 _ e3
   subst e1 e3
   have := q3 rfl
   exact ⟨List.eq_nil_of_length_eq_zero (by omega), this⟩
  obtain ⟨rfl, rfl⟩ := h0
  clear hrow
  have heq : ∀ W : World, (binOp .eql 22 (.slice none 0 0) (.slice none 0 0)).run Tryz.prog W = .ok (.bool true) W := fun W => Lib.run_eql_slice_nil W 22 5 none 0 0 0 0 Tryz.underlying22
  go_enter Tryz.func47, Tryz.ntmps47
  go_wp2_with fail
  go_ret
  exact ⟨none, 0, rfl, World.ownsRow_nil _ _ _ _, Below.refl _ _⟩
 ·have HR := hid hrow; clear hrow
  have heq : ∀ W : World, (binOp .eql 22 (.slice (some ad) bs.length cc) (.slice none 0 0)).run Tryz.prog W = .ok (.bool false) W := fun W => Lib.run_eql_slice_nil W 22 5 (some ad) bs.length cc 0 0 Tryz.underlying22
  go_enter Tryz.func47, Tryz.ntmps47
  go_wp2_with (at_builtin; refine wpList_append_row _ rfl _ _ 22 rfl w.heap.size 5 i0 (.int .u8 0) Tryz.underlying22 hi hz0 hz1 hz2 rfl (.slice (some ⟨w.heap.size, 0, none⟩) 0 0) 0 [] (by rfl) (own_none1 _ _ _ (Nat.le_refl _)) w.heap.size _ bs rfl (HR.out.below ((Below.refl _ _).alloc (Nat.le_refl _) _)) (by omega) (by simp) ?_; intro v2 w2 hown2 hg2 hn2)
  go_ret
  rw [Nat.zero_add, List.nil_append] at hown2
  obtain ⟨A2, c2, rfl⟩ := own_form hown2
  exact ⟨A2, c2, rfl, hown2, ((Below.refl _ _).alloc (Nat.le_refl _) _).grown hg2 (by simp) (fun k hk => by simp [Value.ownBlock] at hk; omega)⟩
theorem le_take {zs : List Int} {k : Nat} {m z : Int} (h : m ∈ zs.take k ∧ ∀ y ∈ zs.take k, m ≤ y) (hz : zs[k]? = some z) : min m z ∈ zs.take (k + 1) ∧ ∀ y ∈ zs.take (k + 1), min m z ≤ y := by
 rw [List.take_add_one, hz]
 refine ⟨?_, fun y hy => ?_⟩
 ·rcases Int.le_total m z with h1 | h1
  ·rw [Int.min_eq_left h1]; exact List.mem_append_left _ h.1
  ·rw [Int.min_eq_right h1]; exact List.mem_append_right _ (by simp)
 ·rcases List.mem_append.1 hy with hy | hy
  ·exact Int.le_trans (Int.min_le_left _ _) (h.2 y hy)
  ·have : y = z := by simpa using hy
   rw [this]
   exact Int.min_le_right _ _
theorem smin_any (w : World) (A : Option Addr) (c : Nat) (zs : List Int) (hne : 0 < zs.length) (hr : IRow w w.heap.size (.slice A zs.length c) zs) :
  Calls Tryz.prog 46 #[.slice A zs.length c] w fun e w' => ∃ m, e = .returned (.int .i64 m) ∧ m ∈ zs ∧ (∀ z ∈ zs, m ≤ z) ∧ w' = w := by
 obtain ⟨-, hc1, hc2⟩ := VRow.length hr
 rw [List.length_map] at hc1
 obtain ⟨b, o, rfl, hbl, hc⟩ : ∃ b o, A = some ⟨b, o, none⟩ ∧ b < w.heap.size ∧ ∀ i z, zs[i]? = some z → w.cell? ⟨b, o + i, none⟩ = some (.int .i64 z) := by
  obtain ⟨A', c', hv, _, _, _, h4⟩ := hr
  injection hv with e1 _ _
  obtain ⟨b, o, e, hb, hc⟩ := h4 (by rw [List.length_map]; omega)
  exact ⟨b, o, e1.trans e, hb, fun i z hz => hc i _ (by rw [List.getElem?_map, hz]; rfl)⟩
 obtain ⟨z0, hz0⟩ : ∃ z, zs[0]? = some z := ⟨_, List.getElem?_eq_getElem hne⟩
 have x0 := hc 0 z0 hz0
 rw [Nat.add_zero] at x0
 have HC := hid hc
 have HST := hid (show z0 ∈ zs.take 1 ∧ ∀ y ∈ zs.take 1, z0 ≤ y from by
  have e : zs.take 1 = [z0] := by rw [show (1 : Nat) = 0 + 1 from rfl, List.take_add_one, hz0]; rfl
  rw [e]
  exact ⟨by simp, fun y hy => by rw [List.mem_singleton.1 hy]; exact Int.le_refl _⟩)
 have HAT := hid (fun k (hk : k < zs.length) => (⟨_, List.getElem?_eq_getElem hk⟩ : ∃ z, zs[k]? = some z))
 have HTK := hid (show zs.take zs.length = zs from List.take_length)
 obtain ⟨n, hn⟩ : ∃ n, zs.length = n := ⟨_, rfl⟩
 rw [hn] at hne hc1 HAT HTK ⊢
 clear hr hc hz0 hn
 go_enter Tryz.func46, Tryz.ntmps46
 go_wp2_with fail
 go_loopg [3, 4] (n - 1) (fun gk mm ii wr => ∃ (k : Nat) (m : Int), mm = .int .i64 m ∧ ii = .int .i64 k ∧ 1 ≤ k ∧ k ≤ n ∧ Hid (n - k = gk) ∧ Hid (m ∈ zs.take k ∧ ∀ y ∈ zs.take k, m ≤ y) ∧ wr = w)
 case atStart => exact ⟨1, z0, rfl, rfl, Nat.le_refl _, hne, hid rfl, HST, rfl⟩
 case round =>
  obtain ⟨k, m, rfl, rfl, hk1, hk2, HGK, HM, rfl⟩ := hrel
  by_cases hlt : k < n
  ·obtain ⟨z, hz⟩ := HAT.out k hlt
   have xk := HC.out k z hz
   have HM2 := hid (le_take HM.out hz)
   clear hz x0
   obtain ⟨q, hq⟩ : ∃ q, min m z = q := ⟨_, rfl⟩
   rw [hq] at HM2
   go_wp2_with fail
   go_roundg (n - (k + 1))
   case measure => have := HGK.out; omega
   case rel => exact ⟨k + 1, q, by first | rfl | rw [hq], by go_num, by omega, hlt, hid rfl, HM2, rfl⟩
  ·obtain rfl : k = n := by omega
   have hm := HM.out
   rw [HTK.out] at hm
   have HMM := hid hm
   clear hm
   go_wp2_with fail
   go_ret
   exact ⟨m, rfl, HMM.out.1, HMM.out.2, rfl⟩
theorem szZ_get {zs : List Int} {k : Nat} (h : GoodZ zs) : zs[k % zs.length]? = some ((szZ zs k : Nat) : Int) := by
 have hl : 0 < zs.length := List.length_pos_iff.2 h.1
 have hi : k % zs.length < zs.length := Nat.mod_lt _ hl
 have h2 := h.2 _ (List.getElem_mem hi)
 unfold szZ
 rw [List.getD_eq_getElem?_getD, List.getElem?_eq_getElem hi, Option.getD_some]
 congr 1
 omega
theorem cutZ_len (zs xs : List Int) (k : Nat) : (cutZ zs xs k).length = min (szZ zs k) (restZ zs xs k).length := List.length_take
theorem cutZ_take (zs xs : List Int) (k : Nat) : (restZ zs xs k).take (min (szZ zs k) (restZ zs xs k).length) = cutZ zs xs k := by
 unfold cutZ
 rcases Nat.le_total (szZ zs k) (restZ zs xs k).length with h | h
 ·rw [Nat.min_eq_left h]
 ·rw [Nat.min_eq_right h, List.take_of_length_le (Nat.le_refl _), List.take_of_length_le h]
theorem restZ_drop (zs xs : List Int) (k : Nat) : (restZ zs xs k).drop (min (szZ zs k) (restZ zs xs k).length) = restZ zs xs (k + 1) := by
 show _ = (restZ zs xs k).drop (szZ zs k)
 rcases Nat.le_total (szZ zs k) (restZ zs xs k).length with h | h
 ·rw [Nat.min_eq_left h]
 ·rw [Nat.min_eq_right h, List.drop_of_length_le (Nat.le_refl _), List.drop_of_length_le h]
theorem rem_next (k n : Nat) (hn : 0 < n) : (((k % n : Nat) : Int) + 1).tmod (n : Int) = (((k + 1) % n : Nat) : Int) := by
 rw [Int.tmod_eq_emod_of_nonneg (by omega), show ((k % n : Nat) : Int) + 1 = ((k % n + 1 : Nat) : Int) by omega, ← Int.natCast_emod, Nat.mod_add_mod]
def UseZ (zs xs ze : List Int) : Prop := (GoodZ zs ∧ ze = zs) ∨ (¬ GoodZ zs ∧ ze = [(xs.length : Int)])
theorem UseZ.pos {zs xs ze : List Int} (h : UseZ zs xs ze) : 0 < ze.length := by
 rcases h with ⟨h, rfl⟩ | ⟨_, rfl⟩
 ·exact List.length_pos_iff.2 h.1
 ·exact Nat.one_pos
theorem UseZ.good {zs xs ze : List Int} (h : UseZ zs xs ze) (hx : xs ≠ []) : GoodZ ze := by
 rcases h with ⟨h, rfl⟩ | ⟨_, rfl⟩
 ·exact h
 ·refine ⟨by simp, fun z hz => ?_⟩
  rw [List.mem_singleton.1 hz]
  have := List.length_pos_iff.2 hx
  omega
theorem one_done {xs : List Int} (hx : xs ≠ []) : DoneZ [(xs.length : Int)] xs 1 ∧ chZ [(xs.length : Int)] xs 1 = [xs] := by
 have hs : szZ [(xs.length : Int)] 0 = xs.length := by simp [szZ]
 refine ⟨⟨?_, fun j hj => ?_⟩, ?_⟩
 ·show xs.drop (szZ _ 0) = []
  rw [hs, List.drop_length]
 ·obtain rfl : j = 0 := by omega
  exact hx
 ·show [xs.take (szZ _ 0)] = [xs]
  rw [hs, List.take_length]
theorem UseZ.chunks {zs xs ze : List Int} {k : Nat} (h : UseZ zs xs ze) (hd : DoneZ ze xs k) : ChunksZ zs xs (chZ ze xs k) := by
 rcases h with ⟨h, rfl⟩ | ⟨h, rfl⟩
 ·exact .inr ⟨.inl h, k, hd, rfl⟩
 ·by_cases hx : xs = []
  ·subst hx
   obtain rfl := hd.unique (DoneZ.nil _)
   exact .inr ⟨.inr rfl, 0, DoneZ.nil _, rfl⟩
  ·obtain ⟨h1, h2⟩ := one_done hx
   obtain rfl := hd.unique h1
   exact .inl ⟨h, hx, h2⟩
theorem restZ_ne {ze xs : List Int} : ∀ {k : Nat}, restZ ze xs k ≠ [] → xs ≠ []
 | 0, h => h
 | k + 1, h => restZ_ne (k := k) (fun e => h (by show (restZ ze xs k).drop _ = []; rw [e, List.drop_nil]))
theorem restZ_le (ze xs : List Int) : ∀ k : Nat, (restZ ze xs k).length ≤ xs.length
 | 0 => Nat.le_refl _
 | k + 1 => by
  have := restZ_le ze xs k
  show ((restZ ze xs k).drop _).length ≤ _
  rw [List.length_drop]
  omega
def CkLoop (w : World) (N : Nat) (ze xs : List Int) (gk : Nat) (bb cc ii : Value) (wr : World) : Prop :=
 ∃ (k : Nat) (Ab : Option Addr) (cb : Nat) (Ac : Option Addr) (ccp : Nat) (cs : List Cu), bb = .slice Ab (restZ ze xs k).length cb ∧ cc = .slice Ac cs.length ccp ∧ ii = .int .i64 ((k % ze.length : Nat) : Int) ∧
  Hid ((restZ ze xs k).length = gk) ∧ Hid (∀ j, j < k → restZ ze xs j ≠ []) ∧ Hid (cs.map (·.b) = chZ ze xs k) ∧ Hid (OwnC wr N (.slice Ac cs.length ccp) cs) ∧ Hid (Row wr N (.slice Ab (restZ ze xs k).length cb) (restZ ze xs k)) ∧ Hid (Below N w wr)
theorem CkLoop.next {w w0 W wr w6 : World} {N k cb ccp c6 n6 C2c : Nat} {ze xs : List Int} {Ab Ab' Ac A6 C2 : Option Addr} {cs : List Cu} {gk : Nat}
  (hne : ∀ j, j < k → restZ ze xs j ≠ []) (hr : restZ ze xs k ≠ []) (hcs : cs.map (·.b) = chZ ze xs k) (hoc : OwnC wr N (.slice Ac cs.length ccp) cs) (hrow : Row wr N (.slice Ab (restZ ze xs k).length cb) (restZ ze xs k)) (hb : Below N w wr) (hN : N ≤ wr.heap.size)
  (hcl : W.ownsRow wr.heap.size 5 1 (.slice C2 (cutZ ze xs k).length C2c) (cutZ ze xs k).length ((cutZ ze xs k).map (.int .u8))) (hbW : Below wr.heap.size wr W) (hW0 : Below W.heap.size W w0)
  (h6 : w6.ownsRow N 22 1 (.slice A6 n6 c6) n6 (cuVs (cs ++ [⟨C2, C2c, cutZ ze xs k⟩]))) (hn6 : cs.length + 1 = n6) (hg6 : w0.grownBy w6 (Value.slice Ac cs.length ccp).ownBlock)
  (hA : cb = min (szZ ze k) (restZ ze xs k).length ∨ Ab' = Ab.map (fun x => x.add (min (szZ ze k) (restZ ze xs k).length))) (hgk : (restZ ze xs (k + 1)).length = gk) {n' c' : Nat} (hn' : n' = (restZ ze xs k).length - min (szZ ze k) (restZ ze xs k).length) (hc' : c' = cb - min (szZ ze k) (restZ ze xs k).length) :
  CkLoop w N ze xs gk (.slice Ab' n' c') (.slice A6 n6 c6) (.int .i64 (((k + 1) % ze.length : Nat) : Int)) w6 := by
 subst hn' hc'
 have hl : (cs ++ [(⟨C2, C2c, cutZ ze xs k⟩ : Cu)]).length = n6 := by simp [hn6]
 have hrl : (restZ ze xs (k + 1)).length = (restZ ze xs k).length - min (szZ ze k) (restZ ze xs k).length := by rw [← restZ_drop, List.length_drop]
 have hb0 : Below wr.heap.size wr w0 := hbW.trans (hW0.mono hbW.size)
 have hown0 : OwnC w0 N (.slice Ac cs.length ccp) cs := hoc.below hb0
 have hlow : Below N w0 w6 := (Below.refl N w0).grown hg6 (Nat.le_trans hN hb0.size) (fun j e => (World.ownsRow.lt hown0.1 j e).1)
 refine ⟨k + 1, Ab', cb - min (szZ ze k) (restZ ze xs k).length, A6, c6, cs ++ [⟨C2, C2c, cutZ ze xs k⟩], by rw [hrl], by rw [hl], rfl, hid hgk, hid (fun j hj => ?_), hid ?_, hid ?_, hid ?_, hid ((hb.trans (hb0.mono hN)).trans hlow)⟩
 ·rcases Nat.lt_succ_iff_lt_or_eq.1 hj with h | rfl
  ·exact hne j h
  ·exact hr
 ·rw [List.map_append, hcs, chZ_succ]; rfl
 ·rw [hl]
  exact hown0.next (x := ⟨C2, C2c, cutZ ze xs k⟩) (own_base (own_below hcl hW0) hN) (by rw [hl]; exact h6) hg6
 ·have h := (hrow.below (hb0.mono hN)).below hlow
  have h2 := h.drop (k := min (szZ ze k) (restZ ze xs k).length) (Nat.min_le_right _ _)
  rw [restZ_drop] at h2
  rw [hrl]
  by_cases hc : cb = min (szZ ze k) (restZ ze xs k).length
  ·have hz : restZ ze xs (k + 1) = [] := by
    obtain ⟨_, _, hv, q1, _, _, _⟩ := hrow
    injection hv with _ _ e3
    refine List.eq_nil_of_length_eq_zero ?_
    have := Nat.min_le_right (szZ ze k) (restZ ze xs k).length
    omega
   rw [hz]
   have e0 : (restZ ze xs k).length - min (szZ ze k) (restZ ze xs k).length = 0 := by rw [← hrl, hz]; rfl
   rw [e0, show cb - min (szZ ze k) (restZ ze xs k).length = 0 by omega]
   exact ⟨Ab', 0, rfl, Nat.le_refl _, Nat.zero_le _, fun _ => rfl, fun h => absurd h (Nat.lt_irrefl _)⟩
  ·rw [if_neg hc, hrl] at h2
   rcases hA with hA | rfl
   ·exact absurd hA hc
   ·exact h2
theorem OwnC.base {w : World} {n m : Nat} {v : Value} {cs : List Cu} (h : OwnC w n v cs) (hm : m ≤ n) : OwnC w m v cs := ⟨own_base h.1 hm, fun x hx => own_base (h.2 x hx) hm⟩
def SChunked (w : World) (zs xs : List Int) (e : Ending) (w' : World) : Prop :=
 ∃ K k cs, e = .returned (.slice K (cs : List Cu).length k) ∧ ChunksZ zs xs (cs.map (·.b)) ∧ OwnC w' w.heap.size (.slice K cs.length k) cs ∧ Below w.heap.size w w'
theorem one_ints {w u : World} (m : Int) (hu : w.alloc (.cells #[.int .i64 m] 3) = u) : ∃ Ae ne ce, Value.slice (some ⟨w.heap.size, 0, none⟩) 1 1 = .slice Ae ne ce ∧ ne = ([m] : List Int).length ∧ IRow u u.heap.size (.slice Ae ne ce) [m] := by
 refine ⟨_, _, _, rfl, rfl, _, _, rfl, Nat.le_refl _, by unfold maxLen; simp, fun h => (by cases h), fun _ => ⟨_, 0, rfl, by rw [← hu, World.size_alloc]; omega, fun i z hz => ?_⟩⟩
 have hh : Held u w.heap.size 3 #[.int .i64 m] := by rw [← hu]; exact heap_alloc_new w _
 have hi : i = 0 := by have := (List.getElem?_eq_some_iff.1 hz).1; simpa using this
 subst hi
 have : z = .int .i64 m := by simpa using hz.symm
 rw [this]
 exact hh.cell 0
theorem schunks_any (w : World) (A : Option Addr) (c : Nat) (xs : List Int) (hl : xs.length ≤ 1000000000) (hrow : Row w w.heap.size (.slice A xs.length c) xs) (Az : Option Addr) (cz : Nat) (zs : List Int) (hz : IRow w w.heap.size (.slice Az zs.length cz) zs) :
  Calls Tryz.prog 20 #[.slice A xs.length c, .slice Az zs.length cz] w (SChunked w zs xs) := by
 obtain ⟨i1, hi1, hy0, hy1, hy2⟩ := info_parts Tryz.infoRowB
 obtain ⟨-, zc1, zc2⟩ := VRow.length hz
 rw [List.length_map] at zc1
 unfold SChunked
 rcases (show zs.length = 0 ∨ (0 < zs.length ∧ ¬ GoodZ zs) ∨ GoodZ zs from by
  by_cases h : GoodZ zs
  ·exact .inr (.inr h)
  ·rcases Nat.eq_zero_or_pos zs.length with h0 | h0
   ·exact .inl h0
   ·exact .inr (.inl ⟨h0, h⟩)) with h0 | ⟨h0, hg⟩ | hg
 case' inl =>
  obtain ⟨u, hu⟩ : ∃ u, w.alloc (.cells #[.int .i64 (xs.length : Int)] 3) = u := ⟨_, rfl⟩
  obtain ⟨Ae, ne, ce, hV, hne, hI⟩ := one_ints (xs.length : Int) hu
  obtain ⟨ze, hze⟩ : ∃ ze, [(xs.length : Int)] = ze := ⟨_, rfl⟩
  have bu : Below w.heap.size w u := by rw [← hu]; exact (Below.refl _ _).alloc (Nat.le_refl _) _
  have HUZ := hid (show UseZ zs xs ze from .inr ⟨fun h => h.1 (List.eq_nil_of_length_eq_zero h0), hze.symm⟩)
  rw [hze] at hne hI
  have HNE := hid hne
  have HIZ := hid hI
  have HRW := hid ((hrow.below bu).more bu.size)
  have HBS := hid bu
  have HV := hid hV
  rw [h0]
  clear hz hrow bu hI hne hze hV zc1
  go_enter Tryz.func20, Tryz.ntmps20
  go_wp2_with fail
  rw [HV.out]
 case' inr.inl =>
  obtain ⟨u, hu⟩ : ∃ u, w.alloc (.cells #[.int .i64 (xs.length : Int)] 3) = u := ⟨_, rfl⟩
  obtain ⟨Ae, ne, ce, hV, hne, hI⟩ := one_ints (xs.length : Int) hu
  obtain ⟨ze, hze⟩ : ∃ ze, [(xs.length : Int)] = ze := ⟨_, rfl⟩
  have bu : Below w.heap.size w u := by rw [← hu]; exact (Below.refl _ _).alloc (Nat.le_refl _) _
  have HUZ := hid (show UseZ zs xs ze from .inr ⟨hg, hze.symm⟩)
  rw [hze] at hne hI
  have HNE := hid hne
  have HIZ := hid hI
  have HRW := hid ((hrow.below bu).more bu.size)
  have HBS := hid bu
  have HV := hid hV
  have HMN := hid (smin_any w Az cz zs h0 hz)
  have HGZ := hid hg
  obtain ⟨nz, hnz⟩ : ∃ nz, zs.length = nz := ⟨_, rfl⟩
  rw [hnz] at h0 HMN zc1 ⊢
  have hk0 : ¬ (nz : Int) = 0 := by omega
  have hk1 : ((nz : Int) == 0) = false := beq_false_of_ne hk0
  clear hz hrow bu hI hne hze hV hg hnz
  go_enter Tryz.func20, Tryz.ntmps20
  go_wp2_with fail
  refine HMN.out.mono ?_
  rintro e w2 ⟨m, rfl, hm1, hm2, hw⟩
  obtain rfl : w = w2 := hw.symm
  have hm : m < 1 := by
   by_cases h : m < 1
   ·exact h
   ·exact absurd ⟨List.ne_nil_of_mem hm1, fun z hz => by have := hm2 z hz; omega⟩ HGZ.out
  clear hm1 hm2
  go_wp2_with fail
  rw [HV.out]
 case' inr.inr =>
  obtain ⟨u, hu⟩ : ∃ u, u = w := ⟨_, rfl⟩
  subst hu
  obtain ⟨ze, hze⟩ : ∃ ze, ze = zs := ⟨_, rfl⟩
  obtain ⟨Ae, ne, ce, hV, hne, hI⟩ : ∃ Ae ne ce, Value.slice Az zs.length cz = .slice Ae ne ce ∧ ne = ze.length ∧ IRow u u.heap.size (.slice Ae ne ce) ze := ⟨_, _, _, rfl, by rw [hze], by rw [hze]; exact hz⟩
  have h0 : 0 < zs.length := List.length_pos_iff.2 hg.1
  have HUZ := hid (show UseZ zs xs ze from .inl ⟨hg, hze⟩)
  have HNE := hid hne
  have HIZ := hid hI
  have HRW := hid hrow
  have HBS := hid (Below.refl u.heap.size u)
  have HV := hid hV
  have HMN := hid (smin_any u Az cz zs h0 hz)
  have HGZ := hid hg
  obtain ⟨nz, hnz⟩ : ∃ nz, zs.length = nz := ⟨_, rfl⟩
  rw [hnz] at h0 HMN zc1 HV ⊢
  have hk0 : ¬ (nz : Int) = 0 := by omega
  have hk1 : ((nz : Int) == 0) = false := beq_false_of_ne hk0
  clear hz hrow hI hne hze hV hg hnz
  go_enter Tryz.func20, Tryz.ntmps20
  go_wp2_with fail
  refine HMN.out.mono ?_
  rintro e w2 ⟨m, rfl, hm1, hm2, hw⟩
  obtain rfl : u = w2 := hw.symm
  have hm : ¬ m < 1 := by
   have := HGZ.out.2 m hm1
   omega
  clear hm1 hm2
  go_wp2_with fail
  rw [HV.out]
 all_goals (
  obtain ⟨N, hN⟩ : ∃ N, u.heap.size = N := ⟨_, rfl⟩
  have hnp : 0 < ne := by rw [HNE.out]; exact HUZ.out.pos
  obtain ⟨hne2, ec1, ec2⟩ := VRow.length HIZ.out
  rw [List.length_map, ← HNE.out] at ec1
  have HNN := hid hN
  have HIN := hid (show IRow u N (.slice Ae ne ce) ze from by rw [← hN]; exact HIZ.out)
  clear hne2 hN
  go_loopg [0, 5, 6] xs.length (fun gk bb cc ii wr => CkLoop u N ze xs gk bb cc ii wr)
  case atStart => exact ⟨0, _, _, _, _, [], rfl, rfl, by rw [Nat.zero_mod]; rfl, hid rfl, hid (fun j hj => absurd hj (Nat.not_lt_zero _)), hid rfl, hid (OwnC.nil _ _), hid (by rw [← HNN.out]; exact HRW.out), hid (Below.refl _ _)⟩
  case round =>
   obtain ⟨k, Ab, cb, Ac, ccp, cs, rfl, rfl, rfl, HGK, HNZ, HCS, HOC, HRB, HBW⟩ := hrel
   have hrl := restZ_le ze xs k
   have hcl := congrArg List.length HCS.out
   rw [List.length_map, chZ_length] at hcl
   by_cases hr : restZ ze xs k = []
   ·have hdz : DoneZ ze xs k := ⟨hr, HNZ.out⟩
    rw [hr]
    have HCZ := hid (show ChunksZ zs xs (cs.map (·.b)) from by rw [HCS.out]; exact HUZ.out.chunks hdz)
    clear hdz hr hrl hcl
    go_wp2_with fail
    go_ret
    exact ⟨Ac, ccp, cs, rfl, HCZ.out, HOC.out.base (by rw [← HNN.out]; exact HBS.out.size), HBS.out.trans (HBW.out.mono (by rw [← HNN.out]; exact HBS.out.size))⟩
   ·have hgd := HUZ.out.good (restZ_ne hr)
    have hsz := szZ_get (k := k) hgd
    have hrp : 0 < (restZ ze xs k).length := List.length_pos_iff.2 hr
    have hkm : k % ze.length < ne := by rw [HNE.out]; exact Nat.mod_lt _ HUZ.out.pos
    obtain ⟨b, o, rfl, hbl, hcc⟩ : ∃ b o, Ae = some ⟨b, o, none⟩ ∧ b < N ∧ ∀ i z, ze[i]? = some z → wr.cell? ⟨b, o + i, none⟩ = some (.int .i64 z) := by
     obtain ⟨A', c', hv, _, _, _, h4⟩ := HIN.out.below HBW.out
     injection hv with e1 _ _
     obtain ⟨b, o, e, hb, hc⟩ := h4 (by rw [List.length_map]; exact HUZ.out.pos)
     exact ⟨b, o, e1.trans e, hb, fun i z hz => hc i _ (by rw [List.getElem?_map, hz]; rfl)⟩
    have hq := HGK.out
    have x1 := hcc _ _ hsz
    have hrem := rem_next k ze.length HUZ.out.pos
    have HRR := hid hr
    have HKE := hid (show (((k + 1) % ne : Nat) : Int) = (((k + 1) % ze.length : Nat) : Int) by rw [HNE.out])
    rw [← HNE.out] at hkm x1 hrem ⊢
    obtain ⟨r, hr2⟩ : ∃ r, (restZ ze xs k).length = r := ⟨_, rfl⟩
    obtain ⟨z, hz2⟩ : ∃ z, szZ ze k = z := ⟨_, rfl⟩
    obtain ⟨q, hq2⟩ : ∃ q, min z r = q := ⟨_, rfl⟩
    obtain ⟨p, hp2⟩ : ∃ p, k % ne = p := ⟨_, rfl⟩
    obtain ⟨p', hp3⟩ : ∃ p', (k + 1) % ne = p' := ⟨_, rfl⟩
    rw [hp3] at HKE
    have hqi : min (z : Int) (r : Int) = (q : Int) := by omega
    have hqr : q ≤ r := by omega
    obtain ⟨hb1, hb2⟩ : r ≤ cb ∧ cb ≤ 9223372036854775807 := by
     obtain ⟨_, _, hv, q1, q2, _⟩ := HRB.out
     injection hv with _ _ e3
     unfold maxLen at q2
     exact ⟨by omega, by omega⟩
    have HRT := hid (HRB.out.take (k := q) (by omega))
    have hct : (restZ ze xs k).take q = cutZ ze xs k := by rw [← hq2, ← hr2, ← hz2]; exact cutZ_take ze xs k
    rw [hct] at HRT
    have hcl2 : (cutZ ze xs k).length = q := by rw [cutZ_len, hr2, hz2, hq2]
    have hnw : N ≤ wr.heap.size := by have := HBW.out.size; have := HNN.out; omega
    have hbc := bclone19_any wr Ab cb (cutZ ze xs k) (HRT.out.more hnw) (by rw [hcl2]; omega)
    have HCT := hid hcl2
    rw [hcl2] at hbc
    have HBC := hid hbc
    have HZ := hid hz2
    have HR2 := hid hr2
    have HQ2 := hid hq2
    rw [hz2, hp2] at x1
    rw [hp2, hp3] at hrem
    rw [hp2] at hkm ⊢
    rw [hr2] at hq hrl hrp ⊢
    have HGQ := hid hq
    have HLS := hid (restZ_less hgd HRR.out)
    obtain ⟨m, hm⟩ : ∃ m, cs.length = m := ⟨_, rfl⟩
    have hml : m ≤ 1000000000 := by have := restZ_len hgd k HNZ.out; omega
    have HML := hid hm
    rw [hm]
    have hir : (r : Int) > 0 := by omega
    have hj1 : (p : Int) < (ne : Int) := by omega
    have hj2 : (0 : Int) ≤ (q : Int) := by omega
    have hj3 : (q : Int) ≤ (cb : Int) := by omega
    have hj4 : (q : Int) ≤ (r : Int) := by omega
    clear hq hcl hgd hsz hcc hr hct hcl2 hbc hz2 hr2 hq2 hp2 hp3 hm
    go_wp2_with fail
    refine HBC.out.mono ?_
    rintro e w3 ⟨C2, c2, rfl, hown3, hb3⟩
    have HX3 := hid (show w3.ownsRow wr.heap.size 5 1 (.slice C2 (cutZ ze xs k).length c2) (cutZ ze xs k).length ((cutZ ze xs k).map (.int .u8)) from by rw [HCT.out]; exact hown3)
    have hz3 := hb3.size
    have ba := (Below.refl w3.heap.size w3).alloc (Nat.le_refl _) (.cells #[.slice C2 q c2] 22)
    have HOW := hid (show (w3.alloc (.cells #[.slice C2 q c2] 22)).ownsRow N 22 1 (.slice Ac m ccp) m (cuVs cs) from by have h := ((HOC.out.below hb3).below ba).1; rw [HML.out] at h; exact h)
    have HER := hid (ERow.new w3 22 [.slice C2 q c2] (n := 1) (by unfold maxLen; omega))
    have HB3 := hid hb3
    have HBA := hid ba
    have HCV := hid (show cuVs cs ++ [.slice C2 q c2] = cuVs (cs ++ [⟨C2, c2, cutZ ze xs k⟩]) from by rw [← cuVs_snoc]; unfold Cu.val; rw [HCT.out])
    have hN3 : N ≤ (w3.alloc (.cells #[.slice C2 q c2] 22)).heap.size := by rw [World.size_alloc]; omega
    clear hown3 hb3 ba
    rcases (show q = cb ∨ ¬ cb = q by omega) with rfl | hcq
    ·have hrq : r = q := by omega
     go_wp2_with (at_builtin; refine wpList_append_erow _ rfl _ _ 60 22 rfl N i1 (.slice none 0 0) 1 24 Tryz.underlying60 hi1 hy0 hy1 hy2 rfl (by decide) (.slice Ac m ccp) m (cuVs cs) (by rfl) HOW.out _ _ 1 [.slice C2 q c2] (by rfl) HER.out (by simp) (by simp [Value.oneCell']) (by unfold maxLen; omega) (by omega) hN3 (m + 1) rfl (cuVs (cs ++ [⟨C2, c2, cutZ ze xs k⟩])) HCV.out ?_; intro A6 c6 w6 hown6 hg6 hat6; have HO6 := hid hown6; have HG6 := hid hg6; clear hown6 hg6 hat6)
     go_roundg (restZ ze xs (k + 1)).length
     case measure => have := HLS.out; have := HGQ.out; have := HR2.out; omega
     case rel => rw [HKE.out]; exact CkLoop.next HNZ.out HRR.out HCS.out HOC.out HRB.out HBW.out hnw HX3.out HB3.out HBA.out HO6.out (by rw [HML.out]) (by rw [HML.out]; exact HG6.out) (.inl (by rw [HZ.out, HR2.out, HQ2.out])) rfl (by rw [HZ.out, HR2.out, HQ2.out]; omega) (by rw [HZ.out, HR2.out, HQ2.out]; omega)
    ·go_wp2_with (at_builtin; refine wpList_append_erow _ rfl _ _ 60 22 rfl N i1 (.slice none 0 0) 1 24 Tryz.underlying60 hi1 hy0 hy1 hy2 rfl (by decide) (.slice Ac m ccp) m (cuVs cs) (by rfl) HOW.out _ _ 1 [.slice C2 q c2] (by rfl) HER.out (by simp) (by simp [Value.oneCell']) (by unfold maxLen; omega) (by omega) hN3 (m + 1) rfl (cuVs (cs ++ [⟨C2, c2, cutZ ze xs k⟩])) HCV.out ?_; intro A6 c6 w6 hown6 hg6 hat6; have HO6 := hid hown6; have HG6 := hid hg6; clear hown6 hg6 hat6)
     go_roundg (restZ ze xs (k + 1)).length
     case measure => have := HLS.out; have := HGQ.out; have := HR2.out; omega
     case rel => rw [HKE.out]; exact CkLoop.next HNZ.out HRR.out HCS.out HOC.out HRB.out HBW.out hnw HX3.out HB3.out HBA.out HO6.out (by rw [HML.out]) (by rw [HML.out]; exact HG6.out) (.inr (by rw [HZ.out, HR2.out, HQ2.out])) rfl (by rw [HZ.out, HR2.out, HQ2.out]) (by rw [HZ.out, HR2.out, HQ2.out]))
theorem pclone_any (w : World) (C : Option Addr) (cc k : Nat) (us : List Value) (hrow : ERow w w.heap.size (.slice C k cc) k us) (h1 : ∀ u ∈ us, u.oneCell' = true) (hlen : us.length = k * 2) (hl : k ≤ 1000000000) :
  Calls Tryz.prog 75 #[.slice C k cc] w fun e w' => ∃ C2 c2, e = .returned (.slice C2 k c2) ∧ w'.ownsRow w.heap.size 55 2 (.slice C2 k c2) k us ∧ Below w.heap.size w w' := by
 obtain ⟨i1, hi1, hy0, hy1, hy2⟩ := info_parts Tryz.infoPoint
 obtain ⟨-, l1, l2⟩ := hrow.len
 rcases C with _ | ad
 ·have h0 : k = 0 ∧ cc = 0 := by
   obtain ⟨A', c', hv, q1, q2, q3, q4⟩ := hrow
   injection hv with e1 e2 e3
   subst e1 e3
   have := q3 rfl
   omega
  obtain ⟨rfl, rfl⟩ := h0
  have hu : us = [] := List.eq_nil_of_length_eq_zero (by omega)
  subst hu
  clear hrow
  have hnl := Lib.run_eql_slice_nil (P := Tryz.prog) w 25 55 none 0 0 0 0 Tryz.underlying25
  go_enter Tryz.func75, Tryz.ntmps75
  go_wp2_with fail
  go_ret
  exact ⟨none, 0, rfl, World.ownsRow_nil _ _ _ _, Below.refl _ _⟩
 ·have ba := (Below.refl w.heap.size w).alloc (Nat.le_refl _) (.cells #[] 55)
  have hno := own_none (w := w) (base := w.heap.size) (e := 55) (size := 2) (Nat.le_refl _)
  have HR2 := hid (hrow.below ba)
  have HNO := hid hno
  have HB := hid ba
  have HL := hid hlen
  clear hrow hno ba hlen
  have hnl := Lib.run_eql_slice_nil (P := Tryz.prog) w 25 55 (some ad) k cc 0 0 Tryz.underlying25
  go_enter Tryz.func75, Tryz.ntmps75
  go_wp2_with (at_builtin; refine wpList_append_erow _ rfl _ _ 25 55 rfl w.heap.size i1 (.agg #[.int .u64 0, .slice none 0 0]) 2 32 Tryz.underlying25 hi1 hy0 hy1 hy2 rfl (by decide) (.slice (some ⟨w.heap.size, 0, none⟩) 0 0) 0 [] (by rfl) HNO.out _ _ k us (by rfl) HR2.out HL.out h1 (by unfold maxLen; omega) (by omega) (by rw [World.size_alloc]; omega) k (by omega) us (by simp) ?_; intro A6 c6 w6 hown6 hg6 hat6; have HO6 := hid hown6; have HG6 := hid hg6; clear hown6 hg6 hat6)
  go_ret
  have hlow : ∀ j, (Value.slice (some (⟨w.heap.size, 0, none⟩ : Addr)) 0 0).ownBlock = some j → w.heap.size ≤ j := fun j e => Nat.le_of_eq (by simpa [Value.ownBlock] using e)
  exact ⟨A6, c6, rfl, HO6.out, HB.out.grown HG6.out (by rw [World.size_alloc]; omega) hlow⟩
theorem snew_any (w : World) :
  Calls Tryz.prog 22 #[] w fun e w' => ∃ s f t, e = .returned (.pointer (some ⟨s, 0, none⟩)) ∧ w.heap.size ≤ f ∧ KAt w' w.heap.size s f t [] none 0 [] none 0 [] none 0 ∧ Fed w' w.heap.size f (.slice none 0 0) [] [] 0 0 ∧ Below w.heap.size w w' := by
 go_enter Tryz.func22, Tryz.ntmps22
 go_wp2_with fail
 refine (fnew_any w).mono ?_
 rintro e w1 ⟨rfl, hf1, hb1⟩
 have HF1 := hid hf1
 have HB1 := hid hb1
 clear hf1 hb1
 go_wp2_with fail
 refine (rnew_any w1).mono ?_
 rintro e w2 ⟨rfl, ht2, hb2⟩
 have hz1 := HB1.out.size
 have hf2 := HF1.out.below hb2 HF1.out.lt
 have HF2 := hid hf2
 have HT2 := hid ht2
 have HB2 := hid (HB1.out.trans (hb2.mono hz1))
 clear hf2 ht2 hb2 HF1
 go_wp2_with fail
 go_ret
 have ba := (Below.refl w2.heap.size w2).alloc (Nat.le_refl _) (.cells #[.pointer (some ⟨w.heap.size, 0, none⟩), .pointer (some ⟨w1.heap.size, 0, none⟩), .int .i64 0, .int .i64 0] 71)
 have ht := HT2.out.below ba
 refine ⟨w2.heap.size, w.heap.size, w1.heap.size, rfl, Nat.le_refl _, ⟨heap_alloc_new w2 _, HB2.out.size, ⟨ht.held, hz1, ?_, ht.sigp, ?_, ht.ptsp, ?_⟩⟩, ⟨HF2.out.below ba HF2.out.lt, World.ownsRow_nil _ _ _ _, Fd.start⟩, HB2.out.trans (ba.mono HB2.out.size)⟩
 ·exact OwnP.nil _ _
 ·exact OwnT.nil _ _
 ·exact World.ownsRow_nil _ _ _ _
section
variable {w : World} {n s f t : Nat} {T : List Sg} {SA : Option Addr} {Sc : Nat} {es : List Pd} {PA : Option Addr} {Pc : Nat} {ps : List Pm} {RA : Option Addr} {Rc : Nat}
def NGot (w : World) (n s f t : Nat) (T D : List Sg) (PA RA : Option Addr) (e : Ending) (w' : World) : Prop :=
 ∃ A c qs m SA Sc es PA' Pc ps RA' Rc, e = .returned (.slice A (qs : List Pm).length c) ∧ w.heap.size ≤ m ∧ OwnT w' m (.slice A qs.length c) qs ∧ (gT (T ++ D)).pts = (gT T).pts ++ qs.map (·.p) ∧
  KAt w' n s f t (T ++ D) SA Sc es PA' Pc ps RA' Rc ∧ PartN (KS s t PA RA) w w' ∧ (∀ j, TS t PA' RA' j → TS t PA RA j ∨ w.heap.size ≤ j) ∧ ∀ j, TS t PA' RA' j → j < m
def SmLoop (w : World) (s f t m a p : Nat) (D : List Sg) (gk : Nat) (iv : Value) (wr : World) : Prop :=
 ∃ k : Nat, iv = .int .i64 k ∧ k ≤ m ∧ Hid (m - k = gk) ∧ Hid (SBox wr s f t ((a + sumN (D.take k) : Nat) : Int) p) ∧ Hid (PartN (fun j => j = s) w wr)
theorem SmLoop.next {wr w6 : World} {s f t m a p k : Nat} {D : List Sg} (hp : PartN (fun j => j = s) w wr) (h6 : PartN (fun j => j = s) wr w6) (hb : SBox w6 s f t ((a + sumN (D.take (k + 1)) : Nat) : Int) p) (hk : k < m) (h64 : m ≤ 1000000) : SmLoop w s f t m a p D (m - (k + 1)) (.int .i64 ((k : Int) + 1)) w6 :=
 ⟨k + 1, by go_num, hk, hid rfl, hid hb, hid (hp.trans h6)⟩
theorem run_field19 (w : World) (a b c d e : Value) : (Instr.field 28 (.agg #[a, b, c, d, e]) 1).run Tryz.prog w = .ok b w := by kernel_rfl
theorem news_any (hk : KAt w n s f t T SA Sc es PA Pc ps RA Rc) (qs : List Pt) (A : Option Addr) (c n1 : Nat) (hs : Segs w n1 (.slice A qs.length c) qs) (hnp : NewP n1 qs) (hlow : ∀ j, KS s t PA RA j → j < n1) (hT : TdOk (T ++ qs.map (·.s))) :
  Calls Tryz.prog 50 #[.pointer (some ⟨s, 0, none⟩), .slice A qs.length c] w (NGot w n s f t T (qs.map (·.s)) PA RA) := by
 by_cases h0 : qs = []
 ·subst h0
  have HK := hid hk
  clear hk hs hnp hlow hT
  unfold NGot
  go_enter Tryz.func50, Tryz.ntmps50
  go_wp2_with fail
  go_ret
  exact ⟨none, 0, [], w.heap.size, SA, Sc, es, PA, Pc, ps, RA, Rc, rfl, Nat.le_refl _, OwnT.nil _ _, by simp, by simpa using HK.out, PartN.refl _ _, fun j hj => .inl hj, fun j hj => (HK.out.tak.lt hj).2⟩
 have hq0 : 0 < qs.length := List.length_pos_iff.2 h0
 have hml : qs.length ≤ 90000 := by have := hT.1; rw [List.length_append, List.length_map] at this; omega
 obtain ⟨-, hc1, hc2⟩ := (ERow.of_own hs.1).len
 have HJ := hid (fun W' (hp : PartN (KS s t PA RA) w W') => jrow_new (fun p hp => by
  have h := hT.mem p.s (List.mem_append_right _ (List.mem_map_of_mem hp))
  exact ⟨h.2.1, by omega, h.2.2⟩) hs hnp hlow hp)
 have HTD := hid hT
 have HK := hid hk
 have HSM := hid hT.sum
 obtain ⟨P, hP⟩ : ∃ P, (gT T).pts.length = P := ⟨_, rfl⟩
 have hPl : P ≤ 92160000 := by rw [← hP]; exact hT.less.cnts.1
 obtain ⟨m, hm⟩ : ∃ m, qs.length = m := ⟨_, rfl⟩
 have hbx := hk.box
 rw [hP] at hbx
 have HBX := hid hbx
 have HP := hid hP
 rw [hm] at HJ hc1 hml hq0 ⊢
 have HM := hid hm
 clear hk hs hnp hlow hT hbx hP hm h0
 unfold NGot
 go_enter Tryz.func50, Tryz.ntmps50
 go_wp2_with fail
 go_loopg [14] m (fun gk iv wr => SmLoop w s f t m (sumN T) P (qs.map (·.s)) gk iv wr)
 case atStart => exact ⟨0, rfl, Nat.zero_le _, hid rfl, hid (by simpa [sumN] using HBX.out), hid (PartN.refl _ _)⟩
 case round =>
  obtain ⟨k, rfl, hk, HGK, HBR, HPR⟩ := hrel
  have hp0 : PartN (KS s t PA RA) w wr := HPR.out.more (fun j e => .inl e)
  have hj := HJ.out wr hp0
  have hltb := HBR.out.lt
  by_cases hlt : k < m
  ·obtain ⟨x, hx⟩ : ∃ x, qs[k]? = some x := ⟨_, List.getElem?_eq_getElem (by rw [HM.out]; exact hlt)⟩
   have hxj : (qs.map toJ)[k]? = some (toJ x) := by rw [List.getElem?_map, hx]; rfl
   have hxd : (qs.map (·.s))[k]? = some x.s := by rw [List.getElem?_map, hx]; rfl
   obtain ⟨b, o, rfl, hbl, v0, v1, v2, v3, v4⟩ := hj.at hxj
   have hst := sumN_step hxd
   have hsb : sumN T + (sumN ((qs.map (·.s)).take k) + x.s.n) ≤ 1000000000 := by
    have h1 := HSM.out
    have h2 := sumN_append ((qs.map (·.s)).take (k + 1)) ((qs.map (·.s)).drop (k + 1))
    rw [List.take_append_drop] at h2
    rw [sumN_append] at h1
    omega
   obtain ⟨X, hX⟩ : ∃ X, sumN T + sumN ((qs.map (·.s)).take k) = X := ⟨_, rfl⟩
   have HNX := hid (show sumN T + sumN ((qs.map (·.s)).take (k + 1)) = X + x.s.n by omega)
   rw [hX] at HBR
   have hwr : IntKind.i64.wrap ((X : Int) + (x.s.n : Int)) = (X : Int) + (x.s.n : Int) := IntWalk.i64_in _ (by omega)
   obtain ⟨u, hu⟩ : ∃ u, wr.alloc (.cells #[.int .i64 (toJ x).s.frm, .int .i64 (toJ x).s.n, .bool (toJ x).s.isf, .int .i64 (toJ x).s.kind, .slice (toJ x).A (toJ x).s.pay.length (toJ x).c] 46) = u := ⟨_, rfl⟩
   have bu : Below wr.heap.size wr u := by rw [← hu]; exact (Below.refl _ _).alloc (Nat.le_refl _) _
   have hh : Held u wr.heap.size 46 #[.int .i64 (toJ x).s.frm, .int .i64 (toJ x).s.n, .bool (toJ x).s.isf, .int .i64 (toJ x).s.kind, .slice (toJ x).A (toJ x).s.pay.length (toJ x).c] := by rw [← hu]; exact heap_alloc_new wr _
   have q1 := hh.cell 1
   simp at q1
   rw [show (toJ x).s.n = (x.s.n : Int) from rfl] at q1
   have hbu := HBR.out.below bu hltb
   have y2 := hbu.cell 2
   simp at y2
   have f2 := hbu.frozen 2
   have hltu := hbu.lt
   have HBU := hid hbu
   have HU := hid bu
   clear hx hxj hxd hj hst hsb hX hh bu hbu hp0
   go_wp2_with fail
   go_region
   all_goals (
   go_wp2_with fail
   go_roundg (m - (k + 1))
   case measure => have := HGK.out; omega
   case rel => exact SmLoop.next HPR.out (((PartN.of_below (S := fun j => j = s) HU.out).trans (PartN.put (S := fun j => j = s) (b := s) rfl 2 _)).trans (PartN.of_below (Below.refl _ _).drew)) (by rw [HNX.out, Int.natCast_add]; exact held_drew (by simpa using HBU.out.put 2 (.int .i64 ((X : Int) + x.s.n)))) hlt (by omega))
  ·have hkm : k = m := by omega
   subst hkm
   have hwx : PartN (fun j => j = s) w wr := HPR.out
   have hbx : SBox wr s f t ((sumN (T ++ qs.map (·.s)) : Nat) : Int) P := by
    have h := HBR.out
    rw [List.take_of_length_le (by rw [List.length_map, HM.out]; exact Nat.le_refl _), ← sumN_append] at h
    exact h
   have htk : TAt wr n t (gT T) SA Sc es PA Pc ps RA Rc := HK.out.tak.nots hwx (fun e he => by
    rintro j c z rfl
    refine NotT.of_held HK.out.box ?_ j c z rfl
    rcases he with rfl | rfl | rfl | rfl | rfl | rfl | rfl <;> decide)
   have HTK := hid (rtake_any htk HTD.out.less.ig HTD.out.less.bd A c (qs.map toJ) (fun W' hp => by
    rw [List.length_map, HM.out]
    exact HJ.out W' (hp0.trans (hp.more (fun j e => .inr e)))) (by rw [List.length_map, HM.out]; omega))
   rw [List.length_map, HM.out, List.map_map, show ((·.s) ∘ toJ : Pt → Sj) = sgJ ∘ (fun p : Pt => p.s) from rfl, ← List.map_map, ← gT_append] at HTK
   have HW := hid (show ∀ W', PartN (TS t PA RA) wr W' → SBox W' s f t ((sumN (T ++ qs.map (·.s)) : Nat) : Int) P from fun W' hp => hbx.nots hp (htk.notS _ (by decide) (by decide) (by decide)))
   have x1 := hbx.cell 1
   simp at x1
   have HHT := hid htk
   clear hj hbx htk HBR
   go_wp2_with fail
   refine HTK.out.mono ?_
   rintro e w3 ⟨rfl, SA3, Sc3, es3, PA3, Pc3, ps3, RA3, Rc3, h3, hp3, hs3⟩
   have hb3 := HW.out w3 hp3
   have x3 := hb3.cell 1
   simp at x3
   have hlt3 := hb3.lt
   have hcn := HTD.out.cnts
   have HG3 := hid (rgot_any h3 HTD.out.ig.trc (by rw [← h3.ptsp, List.length_map] at hcn; omega) (by omega))
   have HH3 := hid h3
   have HB3 := hid hb3
   have HP3 := hid hp3
   have HS3 := hid hs3
   clear h3 hp3 hs3 hb3 hcn x1
   go_wp2_with fail
   refine HG3.out.mono ?_
   rintro e w4 ⟨SA4, Sc4, es4, PA4, Pc4, ps4, RA4, Rc4, rfl, hg4, hb4⟩
   have hb4x := HB3.out.below hb4 hlt3
   have x4 := hb4x.cell 3
   simp at x4
   have hlt4 := hb4x.lt
   obtain ⟨ms, hms⟩ := gT_pts T (qs.map (·.s))
   have hpl : P ≤ ps4.length := by
    have h := congrArg List.length hg4.ptsp
    rw [hms, List.length_map, List.length_append, HP.out] at h
    omega
   have hpl2 : ps4.length ≤ 92160000 := by
    have h := congrArg List.length hg4.ptsp
    rw [List.length_map] at h
    have := HTD.out.cnts.1
    omega
   have hdm : (ps4.drop P).map (·.p) = ms := by
    rw [List.map_drop, hg4.ptsp, hms, ← HP.out, List.drop_left]
   obtain ⟨-, hc41, hc42⟩ := (ERow.of_own hg4.pts.1).len
   have HDL := hid (show (ps4.drop P).length = ps4.length - P from List.length_drop)
   have HPC := hid (fun A' (hA : Pc4 = P ∨ A' = PA4.map (fun x => x.add (P * 2))) => pclone_any w4 A' (Pc4 - P) (ps4.length - P) (flatN (ps4.drop P)) (by
    have h := (hg4.pts.row.drop hpl hA).1
    rwa [List.length_drop] at h) (oneN _) (by rw [flatN_length, List.length_drop]) (by omega))
   have HG4 := hid hg4
   have HB4 := hid hb4
   have HX4 := hid hb4x
   have HMS := hid hms
   have HDM := hid hdm
   have pi : (P : Int) ≤ (ps4.length : Int) := by omega
   have pi1 : (ps4.length : Int) ≤ (Pc4 : Int) := by omega
   have fin : ∀ (C2 : Option Addr) (c2 : Nat) (w5 : World), w5.ownsRow w4.heap.size 55 2 (.slice C2 (ps4.length - P) c2) (ps4.length - P) (flatN (ps4.drop P)) → Below w4.heap.size w4 w5 →
     ∃ A c qs' m SA Sc es PA' Pc ps RA' Rc, Ending.returned (.slice C2 (ps4.length - P) c2) = .returned (.slice A (qs' : List Pm).length c) ∧ w.heap.size ≤ m ∧ OwnT (w5.setCell ⟨s, 3, none⟩ (.int .i64 ps4.length)) m (.slice A qs'.length c) qs' ∧ (gT (T ++ qs.map (·.s))).pts = (gT T).pts ++ qs'.map (·.p) ∧
      KAt (w5.setCell ⟨s, 3, none⟩ (.int .i64 ps4.length)) n s f t (T ++ qs.map (·.s)) SA Sc es PA' Pc ps RA' Rc ∧ PartN (KS s t PA RA) w (w5.setCell ⟨s, 3, none⟩ (.int .i64 ps4.length)) ∧ (∀ j, TS t PA' RA' j → TS t PA RA j ∨ w.heap.size ≤ j) ∧ ∀ j, TS t PA' RA' j → j < m := by
    intro C2 c2 w5 hown hb5
    have hz3 : w.heap.size ≤ w3.heap.size := Nat.le_trans HPR.out.size HP3.out.size
    have hz4 := HB4.out.size
    have hx5 := HX4.out.below hb5 HX4.out.lt
    have hg5 := HG4.out.below hb5
    have ho5 : OwnT w5 w3.heap.size (.slice C2 (ps4.drop P).length c2) (ps4.drop P) := ⟨by rw [HDL.out]; exact own_base hown hz4, fun d hd => hg5.pts.2 d (List.mem_of_mem_drop hd)⟩
    have ht5 := (HH3.out.below HB4.out).below hb5
    have hpp : PartN (KS s t PA RA) w w5 := (((hp0.trans (HP3.out.more (fun j e => .inr e))).trans (PartN.of_below HB4.out)).trans (PartN.of_below hb5))
    have gr := grown_put w5 s 3 (.int .i64 ps4.length)
    refine ⟨C2, c2, ps4.drop P, w3.heap.size, _, _, _, _, _, _, _, _, by rw [HDL.out], hz3, ?_, by rw [HDM.out]; exact HMS.out, ⟨?_, HK.out.low, ht5.sput hx5 3 _⟩, hpp.trans (PartN.put (.inl rfl) 3 _), fun j hj => ?_, fun j hj => (HH3.out.lt hj).2⟩
    ·exact ho5.nott (NotT.of_held hx5 (by decide)) (NotT.of_held hx5 (by decide)) ((NotT.of_held hx5 (by decide)).ne ho5.1) gr
    ·have h := hx5.put 3 (.int .i64 ps4.length)
     rw [show (gT (T ++ qs.map (·.s))).pts.length = ps4.length by rw [← HG4.out.ptsp, List.length_map]]
     simpa using h
    ·rcases HS3.out j hj with h | h
     ·exact .inl h
     ·exact .inr (Nat.le_trans HPR.out.size h)
   have FIN := hid fin
   clear hg4 hb4 hb4x hms hdm fin hp0 hwx
   rcases (show P = Pc4 ∨ ¬ Pc4 = P by omega) with rfl | hcp
   ·have hpp : ps4.length = P := by omega
    have HC := hid (HPC.out PA4 (.inl rfl))
    obtain ⟨N4, hN4⟩ : ∃ N4, ps4.length = N4 := ⟨_, rfl⟩
    unfold GW
    have hfld := run_field19
    rw [hN4] at HC FIN pi pi1 hpl hpl2 hpp ⊢
    subst hpp
    rw [Nat.sub_self] at HC FIN
    clear hN4
    go_wp2_with fail
    refine HC.out.mono ?_
    rintro e w5 ⟨C2, c2, rfl, hown, hb5⟩
    have x5 := (HX4.out.below hb5 HX4.out.lt).frozen 3
    have y5 := (HX4.out.below hb5 HX4.out.lt).cell 3
    simp at y5
    have hlt5 := (HX4.out.below hb5 HX4.out.lt).lt
    have HO5 := hid hown
    have HB5 := hid hb5
    clear hown hb5
    go_wp2_with fail
    go_ret
    exact FIN.out C2 c2 w5 HO5.out HB5.out
   ·have HC := hid (HPC.out _ (.inr rfl))
    obtain ⟨N4, hN4⟩ : ∃ N4, ps4.length = N4 := ⟨_, rfl⟩
    unfold GW
    have hfld := run_field19
    rw [hN4] at HC FIN pi pi1 hpl hpl2 ⊢
    clear hN4
    go_wp2_with fail
    refine HC.out.mono ?_
    rintro e w5 ⟨C2, c2, rfl, hown, hb5⟩
    have x5 := (HX4.out.below hb5 HX4.out.lt).frozen 3
    have y5 := (HX4.out.below hb5 HX4.out.lt).cell 3
    simp at y5
    have hlt5 := (HX4.out.below hb5 HX4.out.lt).lt
    have HO5 := hid hown
    have HB5 := hid hb5
    clear hown hb5
    go_wp2_with fail
    go_ret
    exact FIN.out C2 c2 w5 HO5.out HB5.out
end
section
variable {w w' w1 : World} {S : Nat → Prop} {n s f t k m : Nat} {xs : List Int} {T : List Sg} {PA RA PA' RA' : Option Addr} {v : Value} {qs : List Pm}
theorem OwnT.notin (h : OwnT w k v qs) (hp : PartN S w w') (h1 : NotS w S 135) (h2 : NotS w S 91) (h3 : ∀ j, v.ownBlock = some j → ¬ S j) : OwnT w' k v qs := by
 refine ⟨⟨h.1.1, ?_⟩, fun d hd => ⟨(h.2 d hd).1.nots hp h1 h2, (h.2 d hd).2⟩⟩
 rcases h.1.2 with h4 | ⟨g, cap, cur, q1, q2, q3, r⟩
 ·exact .inl h4
 ·exact .inr ⟨g, cap, cur, q1, q2, (hp.block g (Array.getElem?_eq_some_iff.1 q3).1 (h3 g (by rw [q1]; rfl))).trans q3, r⟩
def StrAt (w : World) (n s f t : Nat) (xs : List Int) (T : List Sg) (PA RA : Option Addr) : Prop :=
 ∃ vh a o SA Sc es Pc ps Rc, n ≤ f ∧ Fed w n f vh xs T a o ∧ KAt w n s f t T SA Sc es PA Pc ps RA Rc
def StrQ (Q : Nat → Prop) (w : World) (n s f t : Nat) (xs : List Int) (T : List Sg) (PA RA : Option Addr) : Prop :=
 ∃ vh a o SA Sc es Pc ps Rc, n ≤ f ∧ Fed w n f vh xs T a o ∧ KAt w n s f t T SA Sc es PA Pc ps RA Rc ∧ ∀ j, (j = s ∨ j = f ∨ vh.ownBlock = some j ∨ TS t PA RA j) → Q j
theorem StrQ.at {Q : Nat → Prop} (h : StrQ Q w n s f t xs T PA RA) : StrAt w n s f t xs T PA RA := by
 obtain ⟨vh, a, o, SA, Sc, es, Pc, ps, Rc, hnf, hf, hk, -⟩ := h
 exact ⟨vh, a, o, SA, Sc, es, Pc, ps, Rc, hnf, hf, hk⟩
structure SKeeps (w w' : World) (n t m : Nat) (PA RA PA' RA' : Option Addr) : Prop where
 low : Below n w w'
 own : ∀ k v qs, OwnT w k v qs → (∀ j, v.ownBlock = some j → ¬ TS t PA RA j) → OwnT w' k v qs
 turn : ∀ j, TS t PA' RA' j → TS t PA RA j ∨ w.heap.size ≤ j
 lt : ∀ j, TS t PA' RA' j → j < m
def SGivenQ (Q : Nat → Prop) (w : World) (n s f t : Nat) (xs : List Int) (T : List Sg) (PA RA : Option Addr) (e : Ending) (w' : World) : Prop :=
 ∃ A c qs m D PA' RA', e = .returned (.tuple #[.slice A (qs : List Pm).length c, .int .i64 0]) ∧ w.heap.size ≤ m ∧ OwnT w' m (.slice A qs.length c) qs ∧ (gT (T ++ D)).pts = (gT T).pts ++ qs.map (·.p) ∧
  StrQ Q w' n s f t xs (T ++ D) PA' RA' ∧ SKeeps w w' n t m PA RA PA' RA' ∧ PartN Q w w'
def SClosedQ (Q : Nat → Prop) (w : World) (n s f t : Nat) (xs : List Int) (T : List Sg) (PA RA : Option Addr) (e : Ending) (w' : World) : Prop :=
 ∃ A c qs m D SA Sc es PA' Pc ps RA' Rc, e = .returned (.tuple #[.slice A (qs : List Pm).length c, .int .i64 0]) ∧ w.heap.size ≤ m ∧ OwnT w' m (.slice A qs.length c) qs ∧ (gT (T ++ D)).pts = (gT T).pts ++ qs.map (·.p) ∧
  KAt w' n s f t (T ++ D) SA Sc es PA' Pc ps RA' Rc ∧ PartsS xs 0 (T ++ D) ∧ SKeeps w w' n t m PA RA PA' RA' ∧ PartN Q w w'
theorem fed_s {vh : Value} {a o : Nat} (hf : Fed w n f vh xs T a o) (e : TypeId) (h1 : 146 ≠ e) (h2 : 5 ≠ e) : NotS w (fun j => j = f ∨ vh.ownBlock = some j) e :=
 NotS.two (NotT.of_held hf.1 h1) (NotT.of_own hf.2.1 h2)
theorem KAt.fed {SA : Option Addr} {Sc : Nat} {es : List Pd} {Pc : Nat} {ps : List Pm} {Rc : Nat} {vh : Value} {a o : Nat} {ys : List Int} {T' : List Sg} (h : KAt w n s f t T SA Sc es PA Pc ps RA Rc) (hf : Fed w n f vh ys T' a o) (hb : But w w' vh.ownBlock f) : KAt w' n s f t T SA Sc es PA Pc ps RA Rc :=
 h.nots (PartN.of_but hb) (fun e he => fed_s hf e (by rcases he with rfl | rfl | rfl | rfl | rfl | rfl | rfl <;> decide) (by rcases he with rfl | rfl | rfl | rfl | rfl | rfl | rfl <;> decide)) (fed_s hf _ (by decide) (by decide))
theorem SKeeps.two {SA : Option Addr} {Sc : Nat} {es : List Pd} {Pc : Nat} {ps : List Pm} {Rc : Nat} {vh : Value} {a o : Nat} {ys : List Int} {T' : List Sg} (h : KAt w n s f t T SA Sc es PA Pc ps RA Rc) (hf : Fed w n f vh ys T' a o) (hb : But w w1 vh.ownBlock f)
  (hnf : n ≤ f) (h1 : KAt w1 n s f t T SA Sc es PA Pc ps RA Rc) (hp : PartN (KS s t PA RA) w1 w') (ht : ∀ j, TS t PA' RA' j → TS t PA RA j ∨ w1.heap.size ≤ j) (hm : ∀ j, TS t PA' RA' j → j < m) : SKeeps w w' n t m PA RA PA' RA' := by
 refine ⟨?_, fun k v qs ho hv => ?_, fun j hj => (ht j hj).imp id (fun e => Nat.le_trans hb.size e), hm⟩
 ·have hn : n ≤ w.heap.size := by have := h.low; have := h.box.lt; omega
  refine (PartN.low (PartN.of_but hb) hn (fun i hi e => ?_)).trans (PartN.low hp (Nat.le_trans hn hb.size) (fun i hi e => ?_))
  ·rcases e with e | e
   ·omega
   ·have := (World.ownsRow.lt hf.2.1 i e).1; omega
  ·have := (h1.lt e).1; omega
 ·have h2 : OwnT w1 k v qs := ho.nots (PartN.of_but hb) (fed_s hf _ (by decide) (by decide)) (fed_s hf _ (by decide) (by decide)) (fed_s hf _ (by decide) (by decide))
  refine h2.notin hp (h1.notS _ (by decide) (by decide) (by decide) (by decide)) (h1.notS _ (by decide) (by decide) (by decide) (by decide)) (fun j hj e => ?_)
  rcases e with rfl | e
  ·rcases (NotT.of_held (e := 55) h1.box (by decide)).ne h2.1 with e2 | e2
   ·rw [e2] at hj; cases hj
   ·exact e2 hj
  ·exact hv j hj e
end
theorem TdOk.most {xs more : List Int} {T : List Sg} {a o : Nat} (hx : ∀ x ∈ xs ++ more, 0 ≤ x ∧ x < 256) (hl : (xs ++ more).length ≤ 1000000000) (hpl : ∀ l, PartsS (xs ++ more) 0 l → l.length ≤ 90000) (h : Fd xs T a o) : TdOk T := by
 obtain ⟨l, hl2⟩ := PartsS.exist hx _ a (Nat.le_refl _)
 have h2 := h.2.2.1.2 more (fun y hy => hx y (List.mem_append_right _ hy)) l hl2
 have h3 := hpl _ h2
 rw [List.length_append] at h3
 exact ⟨by omega, xs ++ more, l, hx, hl, h2⟩
theorem TdOk.all {xs : List Int} {T : List Sg} (hx : ∀ x ∈ xs, 0 ≤ x ∧ x < 256) (hl : xs.length ≤ 1000000000) (hpl : ∀ l, PartsS xs 0 l → l.length ≤ 90000) (h : PartsS xs 0 T) : TdOk T := ⟨hpl _ h, xs, [], hx, hl, by rw [List.append_nil]; exact h⟩
section
variable {w : World} {n s f t : Nat} {xs : List Int} {T : List Sg} {PA RA : Option Addr}
theorem sgive_q {Q : Nat → Prop} (h : StrQ Q w n s f t xs T PA RA) (hbx : ∀ x ∈ xs, 0 ≤ x ∧ x < 256) (A : Option Addr) (c : Nat) (ys : List Int) (hby : ∀ y ∈ ys, 0 ≤ y ∧ y < 256) (hrow : Row w w.heap.size (.slice A ys.length c) ys) (hsm : (xs ++ ys).length ≤ 1000000000) (htd : ∀ T' a o, Fd (xs ++ ys) T' a o → TdOk T') (hnew : ∀ j, w.heap.size ≤ j → Q j) :
  Calls Tryz.prog 23 #[.pointer (some ⟨s, 0, none⟩), .slice A ys.length c] w (SGivenQ Q w n s f t (xs ++ ys) T PA RA) := by
 obtain ⟨vh, a, o, SA, Sc, es, Pc, ps, Rc, hnf, hf, hk, hq⟩ := h
 have hn : n ≤ w.heap.size := by have := hk.low; have := hk.box.lt; omega
 have HG := hid (give_any w n f vh xs T a o hf hbx hn A c ys hby hrow (by omega))
 have HTD := hid htd
 have HNEW := hid hnew
 have x0 := hk.box.cell 0
 simp at x0
 have hlt := hk.box.lt
 have HQ := hid hq
 have HF := hid hf
 have HK := hid hk
 clear hq hf hk hbx hrow hsm hby htd hnew
 unfold SGivenQ
 go_enter Tryz.func23, Tryz.ntmps23
 go_wp2_with fail
 refine HG.out.mono ?_
 rintro e w1 ⟨v1, qs, vh1, a1, o1, rfl, hs1, hnp1, hfd1, hbut1, hat1, -, -⟩
 obtain ⟨A1, c1, rfl, -, -⟩ := hs1.form
 have hk1 := HK.out.fed HF.out hbut1
 have HN := hid (news_any hk1 qs A1 c1 w.heap.size hs1 hnp1 (fun j hj => (HK.out.lt hj).2) (HTD.out _ _ _ hfd1.2.2))
 have HK1 := hid hk1
 have HF1 := hid hfd1
 have HB1 := hid hbut1
 have HAT := hid hat1
 clear hs1 hnp1 hfd1 hbut1 hat1 hk1
 go_wp2_with fail
 refine HN.out.mono ?_
 rintro e w2 ⟨A2, c2, ps2, m, SA2, Sc2, es2, PA2, Pc2, qs2, RA2, Rc2, rfl, hm, ho2, hpts, hk2, hp2, ht2, hlt2⟩
 have HO2 := hid ho2
 have HP2 := hid hp2
 have HK2 := hid hk2
 have HT2 := hid ht2
 have HL2 := hid hlt2
 have HPT := hid hpts
 clear ho2 hp2 hk2 ht2 hlt2 hpts
 go_wp2_with fail
 go_ret2
 refine ⟨A2, c2, ps2, m, qs.map (·.s), PA2, RA2, rfl, Nat.le_trans HB1.out.size hm, HO2.out, HPT.out, ⟨vh1, a1, o1, SA2, Sc2, es2, Pc2, qs2, Rc2, hnf, ⟨HF1.out.1.nots HP2.out ?_, own_nots HF1.out.2.1 HP2.out ?_, HF1.out.2.2⟩, HK2.out, fun j hj => ?_⟩, SKeeps.two HK.out HF.out HB1.out hnf HK1.out HP2.out HT2.out HL2.out, ?_⟩
 ·exact HK1.out.notS _ (by decide) (by decide) (by decide) (by decide)
 ·exact HK1.out.notS _ (by decide) (by decide) (by decide) (by decide)
 ·rcases hj with rfl | rfl | hj | hj
  ·exact HQ.out _ (.inl rfl)
  ·exact HQ.out _ (.inr (.inl rfl))
  ·rcases HAT.out with h | ⟨i, h1, h2⟩
   ·exact HQ.out j (.inr (.inr (.inl (by rw [← h]; exact hj))))
   ·rw [h1] at hj
    injection hj with hj
    exact HNEW.out j (by omega)
  ·rcases HT2.out j hj with h | h
   ·exact HQ.out j (.inr (.inr (.inr h)))
   ·exact HNEW.out j (Nat.le_trans HB1.out.size h)
 ·refine (PartN.more (PartN.of_but HB1.out) (fun j hj => ?_)).trans (PartN.more HP2.out (fun j hj => ?_))
  ·rcases hj with rfl | hj
   ·exact HQ.out _ (.inr (.inl rfl))
   ·exact HQ.out j (.inr (.inr (.inl hj)))
  ·rcases hj with rfl | hj
   ·exact HQ.out _ (.inl rfl)
   ·exact HQ.out j (.inr (.inr (.inr hj)))
theorem sclose_q {Q : Nat → Prop} (h : StrQ Q w n s f t xs T PA RA) (hbx : ∀ x ∈ xs, 0 ≤ x ∧ x < 256) (hsm : xs.length ≤ 1000000000) (htd : ∀ T', PartsS xs 0 T' → TdOk T') :
  Calls Tryz.prog 24 #[.pointer (some ⟨s, 0, none⟩)] w (SClosedQ Q w n s f t xs T PA RA) := by
 obtain ⟨vh, a, o, SA, Sc, es, Pc, ps, Rc, hnf, hf, hk, hq⟩ := h
 have hn : n ≤ w.heap.size := by have := hk.low; have := hk.box.lt; omega
 have HG := hid (close_any w n f vh xs T a o hf hbx hn (by omega))
 have HTD := hid htd
 have x0 := hk.box.cell 0
 simp at x0
 have hlt := hk.box.lt
 have HQ := hid hq
 have HF := hid hf
 have HK := hid hk
 clear hq hf hk hbx hsm htd
 unfold SClosedQ
 go_enter Tryz.func24, Tryz.ntmps24
 go_wp2_with fail
 refine HG.out.mono ?_
 rintro e w1 ⟨v1, qs, vh1, a1, rfl, hs1, hnp1, hps1, -, -, hbut1, -, -, -⟩
 obtain ⟨A1, c1, rfl, -, -⟩ := hs1.form
 have hk1 := HK.out.fed HF.out hbut1
 have HN := hid (news_any hk1 qs A1 c1 w.heap.size hs1 hnp1 (fun j hj => (HK.out.lt hj).2) (HTD.out _ hps1))
 have HK1 := hid hk1
 have HPS := hid hps1
 have HB1 := hid hbut1
 clear hs1 hnp1 hps1 hbut1 hk1
 go_wp2_with fail
 refine HN.out.mono ?_
 rintro e w2 ⟨A2, c2, ps2, m, SA2, Sc2, es2, PA2, Pc2, qs2, RA2, Rc2, rfl, hm, ho2, hpts, hk2, hp2, ht2, hlt2⟩
 have HO2 := hid ho2
 have HP2 := hid hp2
 have HK2 := hid hk2
 have HT2 := hid ht2
 have HL2 := hid hlt2
 have HPT := hid hpts
 clear ho2 hp2 hk2 ht2 hlt2 hpts
 go_wp2_with fail
 go_ret2
 refine ⟨A2, c2, ps2, m, qs.map (·.s), SA2, Sc2, es2, PA2, Pc2, qs2, RA2, Rc2, rfl, Nat.le_trans HB1.out.size hm, HO2.out, HPT.out, HK2.out, HPS.out, SKeeps.two HK.out HF.out HB1.out hnf HK1.out HP2.out HT2.out HL2.out, ?_⟩
 refine (PartN.more (PartN.of_but HB1.out) (fun j hj => ?_)).trans (PartN.more HP2.out (fun j hj => ?_))
 ·rcases hj with rfl | hj
  ·exact HQ.out _ (.inr (.inl rfl))
  ·exact HQ.out j (.inr (.inr (.inl hj)))
 ·rcases hj with rfl | hj
  ·exact HQ.out _ (.inl rfl)
  ·exact HQ.out j (.inr (.inr (.inr hj)))
end
def CuRow (W : World) (N : Nat) (v : Value) (cs : List Cu) : Prop := ERow W N v cs.length (cuVs cs) ∧ ∀ x ∈ cs, Row W N x.val x.b
section
variable {w w' : World} {N n : Nat} {v : Value} {cs : List Cu}
theorem OwnC.row (h : OwnC w n v cs) : CuRow w w.heap.size v cs := ⟨ERow.of_own h.1, fun x hx => Row.of_own (h.2 x hx)⟩
theorem CuRow.at {A : Option Addr} {m c : Nat} (h : CuRow w N (.slice A m c) cs) {i : Nat} {x : Cu} (hx : cs[i]? = some x) : ∃ b o, A = some ⟨b, o, none⟩ ∧ b < N ∧ w.cell? ⟨b, o + i, none⟩ = some x.val := by
 obtain ⟨b, o, e, hb, hc⟩ := h.1.block (by have := (List.getElem?_eq_some_iff.1 hx).1; omega)
 exact ⟨b, o, e, hb, hc i _ (cuVs_at hx)⟩
end
section
variable {w w' : World} {N n s f t k : Nat} {xs : List Int} {T : List Sg} {PA RA : Option Addr} {v : Value} {us : List Value}
theorem StrAt.ts_lt (h : StrAt w n s f t xs T PA RA) {j : Nat} (hj : TS t PA RA j) : n ≤ j ∧ j < w.heap.size := by
 obtain ⟨vh, a, o, SA, Sc, es, Pc, ps, Rc, hnf, hf, hk⟩ := h
 exact hk.tak.lt hj
theorem KAt.grown {SA : Option Addr} {Sc : Nat} {es : List Pd} {Pc : Nat} {ps : List Pm} {Rc : Nat} (hk : KAt w n s f t T SA Sc es PA Pc ps RA Rc) (ho : w.ownsRow N 55 2 v k us) (hna : ∀ j, v.ownBlock = some j → ¬ TS t PA RA j) (hg : w.grownBy w' v.ownBlock) : KAt w' n s f t T SA Sc es PA Pc ps RA Rc := by
 have nt : ∀ e, 55 ≠ e → NotT w v.ownBlock e := fun e he => NotT.of_own ho he
 have ht := hk.tak
 refine ⟨hk.box.nott (nt _ (by decide)) hg, hk.low, ht.held.nott (nt _ (by decide)) hg, ht.low, ht.sig.nott (nt _ (by decide)) (nt _ (by decide)) hg, ht.sigp, ht.pts.nott (nt _ (by decide)) (nt _ (by decide)) ?_ hg, ht.ptsp, own_nott ht.rej (nt _ (by decide)) hg⟩
 rw [ob_own]
 cases hP : ob PA with
 | none => exact .inl rfl
 | some j => exact .inr fun e => hna j e.symm (.inr (.inl hP))
end
theorem parts_frames : ∀ (L : List (Int × List Int)) (pre : List Int), (∀ f ∈ L, Fit f) → ∃ l, PartsS (pre ++ catFr L) pre.length l ∧ l.map (fun s => (s.isf, s.kind, s.pay)) = L.map (fun f => (true, f.1, f.2))
 | [], pre, _ => ⟨[], .stop _ (by simp [catFr]), rfl⟩
 | f :: L, pre, h => by
  obtain ⟨h1, h2⟩ := h f (List.mem_cons_self ..)
  have hd : (pre ++ catFr (f :: L)).drop pre.length = encFr f.1 f.2 ++ catFr L := by simp [catFr]
  have hg := getFr_enc h1 h2 (catFr L)
  have hb : Begins (pre ++ catFr (f :: L)) pre.length := by unfold Begins; rw [hd, hg]
  have hs : frS (pre ++ catFr (f :: L)) pre.length = ⟨pre.length, (encFr f.1 f.2).length, true, f.1, f.2⟩ := by unfold frS; rw [hd, hg]
  have e9 := encFr_pos f.1 f.2
  obtain ⟨l, hl, hm⟩ := parts_frames L (pre ++ encFr f.1 f.2) (fun g hg => h g (List.mem_cons_of_mem _ hg))
  have hx : pre ++ catFr (f :: L) = (pre ++ encFr f.1 f.2) ++ catFr L := by simp [catFr]
  have hn : (getFr ((pre ++ catFr (f :: L)).drop pre.length)).2.1 = (encFr f.1 f.2).length := by rw [hd, hg]
  refine ⟨frS (pre ++ catFr (f :: L)) pre.length :: l, .fr _ _ ?_ hb ?_, ?_⟩
  ·rw [hx]; simp only [List.length_append]; omega
  ·rw [hn, hx]
   rw [List.length_append] at hl
   exact hl
  ·rw [hs, List.map_cons, List.map_cons, hm]
theorem takeS_ok {g g' : Gp} {s : Sj} (h1 : s.isf = true) (h : frameG g s.kind s.pay = (g', 0)) : takeS g s = ⟨g'.sig, g'.isg, g'.pts, g.sk, g.fr + 1, g.rej⟩ := by
 unfold takeS
 rw [if_neg (by rw [h1]; decide), h, if_neg (fun x => x rfl)]
theorem frameG_first {g : Gp} {l : List Pr} (h : checkP l = 0) (hg : g.isg = false) : frameG g 1 (encS l) = (⟨l, true, g.pts, g.sk, g.fr, g.rej⟩, 0) := by
 unfold frameG
 rw [if_pos rfl, getSig_enc h, if_neg (fun x => x rfl), if_neg (fun x => by rw [hg] at x; cases x.1)]
theorem frameG_block {g : Gp} {b : List Pm} (hg : g.isg = true) (hB : BOk b) (hp : (putB g.sig b).2 = 0) (hl : lateG g.pts (b.map (·.p)) = false) : frameG g 2 (payB b) = (⟨g.sig, g.isg, g.pts ++ b.map (·.p), g.sk, g.fr, g.rej⟩, 0) := by
 unfold frameG
 rw [if_neg (by decide), if_neg (by decide), if_neg (by rw [hg]; decide), getU_there hB hp, if_neg (fun x => x rfl), if_neg (by rw [hl]; decide)]
theorem late_of {sig : List Pr} {t : List Pn} {m r : List Pn} (h : (checkT sig (t ++ (m ++ r))).1 = 0) (hm : 0 < m.length) : lateG t m = false := by
 unfold lateG
 by_cases ht : 0 < t.length
 ·obtain ⟨-, hw⟩ := checkT_zero.1 h
  have := hw t.length (by simp only [List.length_append]; omega)
  unfold whyT at this
  have e1 : (t ++ (m ++ r)).getD t.length default = m.getD 0 default := by
   simp only [List.getD]
   rw [List.getElem?_append_right (Nat.le_refl _), Nat.sub_self, List.getElem?_append_left hm]
  have e2 : (t ++ (m ++ r)).getD (t.length - 1) default = t.getD (t.length - 1) default := by
   simp only [List.getD]
   rw [List.getElem?_append_left (by omega)]
  rw [e1, e2] at this
  split at this
  ·cases this
  ·rename_i hn
   rw [decide_eq_true ht, Bool.true_and]
   exact decide_eq_false (fun x => hn ⟨ht, x⟩)
 ·rw [decide_eq_false ht, Bool.false_and]
theorem takeL_blocks {sig : List Pr} : ∀ (L : List (List Pm)) (l : List Sj) (T : List Pn) (n : Int), l.map (fun s => (s.isf, s.kind, s.pay)) = L.map (fun b => (true, (2 : Int), payB b)) → (∀ b ∈ L, BOk b ∧ 0 < b.length ∧ (putB sig b).2 = 0) →
  (checkT sig (T ++ L.flatten.map (·.p))).1 = 0 → takeL ⟨sig, true, T, 0, n, []⟩ l = ⟨sig, true, T ++ L.flatten.map (·.p), 0, n + L.length, []⟩
 | [], l, T, n, h, _, _ => by
  rw [List.map_nil, List.map_eq_nil_iff] at h
  subst h
  simp [takeL]
 | b :: L, [], T, n, h, _, _ => by simp at h
 | b :: L, s :: l, T, n, h, hb, hc => by
  simp only [List.map_cons, List.cons.injEq, Prod.mk.injEq] at h
  obtain ⟨⟨e1, e2, e3⟩, h⟩ := h
  obtain ⟨b1, b2, b3⟩ := hb b (List.mem_cons_self ..)
  have hc2 : (checkT sig (T ++ (b.map (·.p) ++ L.flatten.map (·.p)))).1 = 0 := by rw [List.flatten_cons, List.map_append] at hc; exact hc
  have hl := late_of hc2 (by rw [List.length_map]; exact b2)
  have ht : takeS ⟨sig, true, T, 0, n, []⟩ s = ⟨sig, true, T ++ b.map (·.p), 0, n + 1, []⟩ := takeS_ok (g := ⟨sig, true, T, 0, n, []⟩) (g' := ⟨sig, true, T ++ b.map (·.p), 0, n, []⟩) e1 (by rw [e2, e3]; exact frameG_block (g := ⟨sig, true, T, 0, n, []⟩) rfl b1 b3 hl)
  show takeL (takeS ⟨sig, true, T, 0, n, []⟩ s) l = _
  rw [ht, takeL_blocks L l (T ++ b.map (·.p)) (n + 1) h (fun x hx => hb x (List.mem_cons_of_mem _ hx)) (by rw [List.append_assoc]; exact hc2)]
  simp only [List.flatten_cons, List.map_append, List.append_assoc, List.length_cons, Gp.mk.injEq, true_and, and_true]
  omega
def catW (sig : List Pr) (L : List (List Pm)) : List (Int × List Int) := (1, encS sig) :: L.map (fun b => (2, payB b))
theorem catW_bytes {sig : List Pr} {L : List (List Pm)} (hs : checkP sig = 0) (hb : ∀ b ∈ L, (putB sig b).2 = 0) : catFr (catW sig L) = ((frameS sig).1 :: L.map (frB sig)).flatten := by
 have h2 : ∀ L : List (List Pm), (∀ b ∈ L, (putB sig b).2 = 0) → catFr (L.map (fun b => ((2 : Int), payB b))) = (L.map (frB sig)).flatten := by
  intro L
  induction L with
  | nil => intro _; rfl
  | cons b L ih =>
   intro hb
   have h0 := hb b (List.mem_cons_self ..)
   have e : frB sig b = encFr 2 (payB b) := by
    unfold frB frameB
    rw [if_pos h0, (putB_ok h0).2.2]
   rw [List.map_cons, catFr, ih (fun x hx => hb x (List.mem_cons_of_mem _ hx)), List.map_cons, List.flatten_cons, e]
 have e1 : (frameS sig).1 = encFr 1 (encS sig) := by unfold frameS; rw [if_pos hs]
 rw [catW, catFr, h2 L hb, List.flatten_cons, e1]
theorem back_plain {sig : List Pr} {L : List (List Pm)} {g : Gp} {l : List Sg} (hs : checkP sig = 0) (hb : ∀ b ∈ L, BOk b ∧ 0 < b.length ∧ (putB sig b).2 = 0) (hc : (checkT sig (L.flatten.map (·.p))).1 = 0)
  (hl : PartsS ((frameS sig).1 :: L.map (frB sig)).flatten 0 l) (hg : g = takeL noG (l.map sgK)) : g = ⟨sig, true, L.flatten.map (·.p), 0, 1 + L.length, []⟩ := by
 have hfit : ∀ f ∈ catW sig L, Fit f := by
  intro f hf
  rcases List.mem_cons.1 hf with rfl | hf
  ·exact ⟨.inl rfl, Nat.le_trans (encS_le hs).2 (by omega)⟩
  ·obtain ⟨b, hb2, rfl⟩ := List.mem_map.1 hf
   exact ⟨.inr rfl, (putB_ok (hb b hb2).2.2).2.1⟩
 obtain ⟨l2, h1, h2⟩ := parts_frames (catW sig L) [] hfit
 rw [List.nil_append, catW_bytes hs (fun b h => (hb b h).2.2)] at h1
 have e := hl.same h1
 subst e
 rw [hg]
 unfold catW at h2
 rcases l with _ | ⟨s, l⟩
 ·simp at h2
 ·simp only [List.map_cons, List.cons.injEq, Prod.mk.injEq, List.map_map] at h2
  obtain ⟨⟨e1, e2, e3⟩, h2⟩ := h2
  have ht : takeS noG (sgK s) = ⟨sig, true, [], 0, 1, []⟩ := takeS_ok (g := noG) (s := sgK s) (g' := ⟨sig, true, [], 0, 0, []⟩) e1 (by
   have h3 := frameG_first (g := noG) hs rfl
   show frameG noG s.kind s.pay = _
   rw [e2, e3, h3]
   rfl)
  show takeL (takeS noG (sgK s)) (l.map sgK) = _
  rw [ht]
  have h4 := takeL_blocks (sig := sig) L (l.map sgK) [] 1 (by rw [List.map_map]; exact h2) hb (by rw [List.nil_append]; exact hc)
  rw [h4, List.nil_append]
section
variable {w : World} {n g c kc : Nat} {A KA : Option Addr} {ds : List Pd} {most : Int} {bg cl : Bool} {bs : List Bk}
theorem WAt.cells (h : WAt w n g A c ds most bg cl KA kc bs) : w.cell? ⟨g, 0, none⟩ = some (.slice A ds.length c) ∧ w.cell? ⟨g, 1, none⟩ = some (.int .i64 most) ∧ w.cell? ⟨g, 2, none⟩ = some (.bool bg) ∧
  w.cell? ⟨g, 3, none⟩ = some (.slice KA bs.length kc) ∧ w.cell? ⟨g, 4, none⟩ = some (.bool cl) := by
 obtain ⟨h0, h1, h2, h3, h4⟩ := cC5 h.held
 simp at h0 h1 h2 h3 h4
 exact ⟨h0, h1, h2, h3, h4⟩
theorem wframes_any (w : World) (p : Option Addr) (q : Int) : Calls Tryz.prog 152 #[.pointer p, .int .i64 q] w fun e w' =>
  e = .returned (.func (.func 181) #[] #[.pointer (some ⟨w.heap.size, 0, none⟩), .pointer (some ⟨w.heap.size + 1, 0, none⟩)]) ∧ w' = (w.alloc (.cells #[.pointer p] 141)).alloc (.cells #[.int .i64 q] 3) := by
 go_enter Tryz.func152, Tryz.ntmps152
 go_wp2_with fail
 go_ret
 exact ⟨rfl, rfl⟩
end
theorem Tryz.infoBlocks : (Tryz.prog.info? 25).map (fun i => (i.zero, i.size, i.bytes)) = some (some (.slice none 0 0), 1, 24) := by kernel_rfl
theorem bclone_any (w : World) (C : Option Addr) (cc : Nat) (bs : List Bk) (hrow : ERow w w.heap.size (.slice C bs.length cc) bs.length (bkVs bs)) (hl : bs.length ≤ 1000000000) :
  Calls Tryz.prog 153 #[.slice C bs.length cc] w fun e w' => ∃ C2 c2, e = .returned (.slice C2 bs.length c2) ∧ w'.ownsRow w.heap.size 25 1 (.slice C2 bs.length c2) bs.length (bkVs bs) ∧ Below w.heap.size w w' := by
 obtain ⟨i1, hi1, hy0, hy1, hy2⟩ := info_parts Tryz.infoBlocks
 obtain ⟨-, l1, l2⟩ := hrow.len
 have h1 : ∀ u ∈ bkVs bs, u.oneCell' = true := by
  intro u hu
  unfold bkVs at hu
  obtain ⟨b, _, rfl⟩ := List.mem_map.1 hu
  rfl
 have hlen : (bkVs bs).length = bs.length := by unfold bkVs; rw [List.length_map]
 rcases C with _ | ad
 ·have h0 : bs.length = 0 := by
   obtain ⟨A', c', hv, q1, q2, q3, q4⟩ := hrow
   injection hv with e1 e2 e3
   subst e1 e3
   have := q3 rfl
   omega
  obtain rfl : cc = 0 := by
   obtain ⟨A', c', hv, q1, q2, q3, q4⟩ := hrow
   injection hv with e1 e2 e3
   subst e1 e3
   exact q3 rfl
  rw [List.length_eq_zero_iff.1 h0]
  clear hrow
  have hnl := Lib.run_eql_slice_nil (P := Tryz.prog) w 198 25 none 0 0 0 0 Tryz.underlying198
  go_enter Tryz.func153, Tryz.ntmps153
  go_wp2_with fail
  go_ret
  exact ⟨none, 0, rfl, World.ownsRow_nil _ _ _ _, Below.refl _ _⟩
 ·have ba := (Below.refl w.heap.size w).alloc (Nat.le_refl _) (.cells #[] 25)
  have hno := own_none (w := w) (base := w.heap.size) (e := 25) (size := 1) (Nat.le_refl _)
  have HR2 := hid (hrow.below ba)
  have HNO := hid hno
  have HB := hid ba
  clear hrow hno ba
  generalize bs.length = k at *
  have hnl := Lib.run_eql_slice_nil (P := Tryz.prog) w 198 25 (some ad) k cc 0 0 Tryz.underlying198
  go_enter Tryz.func153, Tryz.ntmps153
  go_wp2_with (at_builtin; refine wpList_append_erow _ rfl _ _ 198 25 rfl w.heap.size i1 (.slice none 0 0) 1 24 Tryz.underlying198 hi1 hy0 hy1 hy2 rfl (by decide) (.slice (some ⟨w.heap.size, 0, none⟩) 0 0) 0 [] (by rfl) HNO.out _ _ k (bkVs bs) (by rfl) HR2.out (by omega) h1 (by unfold maxLen; omega) (by omega) (by rw [World.size_alloc]; omega) k (by omega) (bkVs bs) (by simp) ?_; intro A6 c6 w6 hown6 hg6 hat6; have HO6 := hid hown6; have HG6 := hid hg6; clear hown6 hg6 hat6)
  go_ret
  have hlow : ∀ j, (Value.slice (some (⟨w.heap.size, 0, none⟩ : Addr)) 0 0).ownBlock = some j → w.heap.size ≤ j := fun j e => Nat.le_of_eq (by simpa [Value.ownBlock] using e)
  exact ⟨A6, c6, rfl, HO6.out, HB.out.grown HG6.out (by rw [World.size_alloc]; omega) hlow⟩
theorem encFr_byte2 {k : Int} {p : List Int} (hk : k = 1 ∨ k = 2) (hp : p.length ≤ 4096) (hb : ∀ x ∈ p, 0 ≤ x ∧ x < 256) : ∀ x ∈ encFr k p, 0 ≤ x ∧ x < 256 := by
 intro x hx
 have hbody := bodyL_byte hk hp hb
 simp only [encFr, List.mem_append] at hx
 rcases hx with hx | hx | hx
 ·exact markL_byte x hx
 ·exact hbody x hx
 ·exact le4_byte (sumX_lt hbody) x hx
theorem frB_bytes (sig : List Pr) {b : List Pm} (hf : ∀ p ∈ b, p.Fits ∧ ∀ e ∈ p.evs, ∀ a ∈ e.args, a.Fits) : ∀ y ∈ frB sig b, 0 ≤ y ∧ y < 256 := by
 unfold frB frameB
 by_cases h : (putB sig b).2 = 0
 ·rw [if_pos h]
  obtain ⟨h1, h2, h3⟩ := putB_ok h
  obtain ⟨h4, h5, h6⟩ := checkB_zero h1
  rw [h3]
  exact encFr_byte2 (.inr rfl) h2 (payB_bytes (bok_of h5 h6 hf))
 ·rw [if_neg h]
  intro y hy
  exact absurd hy (by simp)
theorem frameS_bytes (sig : List Pr) : ∀ y ∈ (frameS sig).1, 0 ≤ y ∧ y < 256 := by
 unfold frameS
 by_cases h : checkP sig = 0
 ·rw [if_pos h]
  exact encFr_byte2 (.inl rfl) (Nat.le_trans (encS_le h).2 (by omega)) (encS_bytes h)
 ·rw [if_neg h]
  intro y hy
  exact absurd hy (by simp)
theorem bframe_any (A : Option Addr) (c : Nat) (ds : List Pd) (T : Option Addr) (ct : Nat) (ps : List Pm) (w : World) (hrow : PredRow w w.heap.size (.slice A ds.length c) ds) (ht : TrRow w w.heap.size (.slice T ps.length ct) ps) :
  Calls Tryz.prog 183 #[.slice A ds.length c, .slice T ps.length ct] w (BGot w (frameB (ds.map (·.p)) ps)) := by
 have hput := blput_any A c ds T ct ps w hrow ht
 unfold frameB
 by_cases h0 : (putB (ds.map (·.p)) ps).2 = 0
 ·rw [if_pos h0]
  obtain ⟨h1, h2, h3⟩ := putB_ok h0
  have hby := payB_bytes (ht.bok h1)
  clear hrow ht
  rw [h3] at hput ⊢
  dsimp only at hput ⊢
  generalize payB ps = p at hput h2 hby ⊢
  have HP := hid hput
  have HBY := hid hby
  clear hput hby h0 h1 h3
  go_enter Tryz.func183, Tryz.ntmps183
  go_wp2_with fail
  refine HP.out.mono ?_
  rintro e w1 ⟨A1, c1, rfl, hown, hb1⟩
  have HF := hid (fput_any 2 (.inr rfl) A1 c1 p h2 HBY.out w1 (Row.of_own hown))
  have HB1 := hid hb1
  clear hown hb1
  go_wp2_with fail
  refine HF.out.mono ?_
  rintro e w2 ⟨cap, g, rfl, hown2, hb2⟩
  have HO2 := hid (own_base hown2 HB1.out.size)
  have HB2 := hid (HB1.out.trans (hb2.mono HB1.out.size))
  clear hown2 hb2
  go_wp2_with fail
  go_ret2
  exact ⟨_, _, rfl, HO2.out, HB2.out⟩
 ·rw [if_neg h0]
  have hne : ((putB (ds.map (·.p)) ps).2 != 0) = true := bne_iff_ne.2 h0
  generalize putB (ds.map (·.p)) ps = C at hput hne ⊢
  have HP := hid hput
  clear hput h0 hrow ht
  go_enter Tryz.func183, Tryz.ntmps183
  go_wp2_with fail
  refine HP.out.mono ?_
  rintro e w1 ⟨A1, c1, rfl, hown, hb1⟩
  have HB1 := hid hb1
  clear hown hb1
  go_wp2_with fail
  go_ret2
  exact ⟨none, 0, rfl, World.ownsRow_nil _ _ _ _, HB1.out⟩
end Go.Proofs.YtnlfcmbpocdpjaaGreat
