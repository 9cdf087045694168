/-
  (*Feed).Close: what is told at the end.
-/
import Derived.Test.YtfaedecfpnmnjaaFeedTellN
import Derived.Test.YtfaedecfpnmnjaaFeedGive
namespace Go.Proofs.Ytfaedecfpnmnjaa
open Go.RowKit

/-- What Close answers. -/
def Closed (w : World) (n0 g : Nat) (vh : Value) (xs : List Int) (T : List Sg) (e : Ending) (w' : World) : Prop :=
  ∃ v ps vh' a, e = .returned (.tuple #[v, .int .i64 0]) ∧ Segs w' w.heap.size v ps ∧ NewP w.heap.size ps ∧ PartsS xs 0 (T ++ ps.map (·.s)) ∧ FeedAt w' g vh' a xs.length true ∧ w'.ownsRow n0 5 1 vh' 0 [] ∧ But w w' vh.ownBlock g ∧
    (vh'.ownBlock = vh.ownBlock ∨ ∃ j, vh'.ownBlock = some j ∧ w.heap.size ≤ j) ∧ OffN vh'.ownBlock ps ∧ ps.length ≤ xs.length + 1

set_option maxRecDepth 100000 in
set_option maxHeartbeats 2000000 in
theorem close_any (w : World) (n0 g : Nat) (vh : Value) (xs : List Int) (T : List Sg) (a o : Nat) (h : Fed w n0 g vh xs T a o) (hbx : ∀ x ∈ xs, 0 ≤ x ∧ x < 256) (hn0 : n0 ≤ w.heap.size) (hsm : xs.length ≤ 100000000000) :
    Calls Try.prog 25 #[.pointer (some ⟨g, 0, none⟩)] w (Closed w n0 g vh xs T) := by
  obtain ⟨hf, hown, hao, ho, hsure, hset, hend⟩ := h
  have hg := hf.lt
  obtain ⟨Ah, nh, ch, rfl⟩ : ∃ Ah nh ch, vh = .slice Ah nh ch := by obtain ⟨A, c, e⟩ := own_form hown; exact ⟨A, _, c, e⟩
  have hnh : nh = xs.length - o := by
    obtain ⟨_, _, e⟩ := own_form hown
    injection e
  subst hnh
  have hI0 : Ahead xs (T ++ []) a ∧ ∀ j, a ≤ j → j < o → ¬ Begins xs j := ⟨by rw [List.append_nil]; exact hsure.now, hset.no⟩
  have hst : ∀ (ps : List Sg) a o r, (Ahead xs (T ++ ps) a ∧ ∀ j, a ≤ j → j < o → ¬ Begins xs j) → a ≤ o → o ≤ r → r < xs.length → nextI false (xs.drop o) 0 = ((r - o : Nat) : Int) → Begins xs r →
      Ahead xs (T ++ (ps ++ gapS a r ++ [frS xs r])) (r + (getFr (xs.drop r)).2.1) ∧ ∀ j, r + (getFr (xs.drop r)).2.1 ≤ j → j < r + (getFr (xs.drop r)).2.1 → ¬ Begins xs j := by
    intro ps a o r h1 h2 h3 h4 h5 h6
    have h7 := (next_here h5).2
    rw [show o + (r - o) = r by omega] at h7
    refine ⟨?_, fun j q1 q2 => by omega⟩
    have := h1.1.step (by omega : a ≤ r) h4 (fun j q1 q2 => by
      rcases Nat.lt_or_ge j o with h | h
      · exact h1.2 j q1 h
      · exact h7 j h q2) h6
    simpa using this
  have hput := grown_put w g 3 (.bool true)
  have hf1 : FeedAt (w.setCell ⟨g, 3, none⟩ (.bool true)) g (.slice Ah (xs.length - o) ch) a xs.length true := by simpa using hf.put 3 (.bool true)
  have hown1 := hown.kept hput (own_feed hf hown)
  have hr1 := Row.of_own hown1
  have hhl : ∀ j, (Value.slice Ah (xs.length - o) ch).ownBlock = some j → j < w.heap.size := fun j e => (hown.lt j e).2
  have HHL := Lib.hid hhl
  have HB1 := Lib.hid (But.of_one hput (Value.ownBlock (.slice Ah (xs.length - o) ch)))
  have HTELL := Lib.hid (tellN_any xs hsm hbx (fun ps a o => Ahead xs (T ++ ps) a ∧ ∀ j, a ≤ j → j < o → ¬ Begins xs j) hst _ g (.slice Ah (xs.length - o) ch) (by simp) a o true hao ho hI0 hf1 Ah (xs.length - o) ch (by rw [List.length_drop]) hr1)
  have HO1 := Lib.hid hown1
  have HF1 := Lib.hid hf1
  have x3 := hf.cell 3
  have f3 := hf.frozen 3
  simp at x3
  have y0 := hf1.cell 0
  simp at y0
  have hz1 : w.heap.size ≤ (w.setCell ⟨g, 3, none⟩ (.bool true)).heap.size := hput.size
  obtain ⟨w1, hw1⟩ : ∃ w1, w.setCell ⟨g, 3, none⟩ (.bool true) = w1 := ⟨_, rfl⟩
  rw [hw1] at HB1 HTELL HO1 HF1 y0 hz1
  have hgl1 := HF1.out.lt
  clear hf hown hsure hset hend hI0 hst hput hf1 hown1 hr1 hhl
  go_enter Try.func25, Try.ntmps25
  go_wp2_with fail
  refine HTELL.out.mono ?_
  rintro e w3 ⟨v3, Ar, nr, cr, ps, a2, o2, q, rfl, hs3, hnp, hI3, ha2, ho2, hq, hf3, hg3, hr3, hAr, hpl, hend3⟩
  have hz3 : w1.heap.size ≤ w3.heap.size := hg3.size
  have hown3 := HO1.out.kept hg3 (own_feed HF1.out HO1.out)
  have HB3 := Lib.hid (HB1.out.trans (But.of_one hg3 _) (fun j e => .inl e))
  have HSK := Lib.hid (skip_any w3 g (.slice Ah (xs.length - o) ch) a2 xs.length xs.length true hf3 w1.heap.size v3 ps hs3 hz3 (by omega) hsm (by omega) (by simp))
  obtain ⟨A3, c3, rfl, _, _⟩ := hs3.form
  have x2 := hf3.cell 2
  simp at x2
  have hgl3 := hf3.lt
  have HS3 := Lib.hid hs3
  have HNP := Lib.hid hnp
  have HI3 := Lib.hid hI3
  have HF3 := Lib.hid hf3
  have HO3 := Lib.hid hown3
  have HE3 := Lib.hid hend3
  clear hs3 hnp hI3 hf3 hg3 hr3 hAr hend3 hown3
  go_wp2_with fail
  refine HSK.out.mono ?_
  rintro e w4 ⟨v4, rfl, hs4, hf4, hbut4⟩
  have hz4 : w3.heap.size ≤ w4.heap.size := hbut4.size
  have hv3 : ∀ j, (Value.slice A3 ps.length c3).ownBlock = some j → w1.heap.size ≤ j := fun j e => (HS3.out.1.lt j e).1
  have hown4 := own_but HO3.out hbut4 (own_feed HF3.out HO3.out) (by
    rcases HO3.out.2 with ⟨e2, _⟩ | ⟨b, cap, cur, e2, hb, _⟩
    · exact .inl (by rw [e2]; rfl)
    · refine .inr fun e => ?_
      have h1 := HHL.out b (by rw [e2]; rfl)
      rw [e2] at e
      have := hv3 b e.symm
      omega)
  have HB4 := Lib.hid (HB3.out.trans hbut4 (fun j e => .inr (Nat.le_trans hz1 (hv3 j e))))
  have HHOLD := Lib.hid (hold_any w4 g Ah (xs.length - o) ch _ xs.length true hf4 n0 _ hown4 (by omega) none 0 0 [] (by simp) (Row.nil _ _) (fun x e => by cases e))
  obtain ⟨A4, c4, ev, _, _⟩ := hs4.form
  obtain ⟨N4, hN4⟩ : ∃ N4, (ps ++ gapP a2 xs.length).length = N4 := ⟨_, rfl⟩
  rw [hN4] at ev
  subst ev
  have hN42 : N4 ≤ ps.length + 1 := by rw [← hN4, List.length_append]; have := gapP_len a2 xs.length; omega
  have HN4 := Lib.hid hN4
  have HS4 := Lib.hid hs4
  have HF4 := Lib.hid hf4
  clear hs4 hf4 hbut4 hown4 hN4 HO3 HB3
  go_wp2_with fail
  refine HHOLD.out.mono ?_
  rintro e w5 ⟨v5, rfl, hf5, hown5, hbut5, hat5⟩
  have HF5 := Lib.hid hf5
  have HO5 := Lib.hid hown5
  have HB5 := Lib.hid hbut5
  have HA5 := Lib.hid hat5
  clear hf5 hown5 hbut5 hat5
  go_wp2_with fail
  go_ret2
  have hnp : NewP w1.heap.size (ps ++ gapP a2 xs.length) := HNP.out.append (gapP_new _ _ _)
  have hoff := hnp.offN (row := (Value.slice Ah (xs.length - o) ch).ownBlock) (fun j e => Nat.lt_of_lt_of_le (HHL.out j e) hz1)
  have hs5 := HS4.out.but HB5.out (FeedAt.nob HF4.out (by simp)) (HS4.out.apart HF4.out (by decide)) (by
    rcases (HS4.out.1).2 with ⟨e2, _⟩ | ⟨b, cap, cur, e2, hb, _⟩
    · exact .inl (by rw [e2]; rfl)
    · refine .inr fun e => ?_
      rw [e2] at e
      have := HHL.out b e.symm
      omega) hoff
  refine ⟨_, ps ++ gapP a2 xs.length, v5, _, rfl, hs5.mono hz1, hnp.less hz1, ?_, HF5.out, HO5.out, HB4.out.trans HB5.out (fun j e => .inl e), ?_, ?_, by rw [HN4.out]; omega⟩
  · rw [List.map_append, gapP_map, ← List.append_assoc]
    refine HI3.out.1.end fun j h1 h2 => ?_
    rcases HE3.out with ⟨h3, h4⟩ | ⟨h3, h4⟩
    · rcases Nat.lt_or_ge j o2 with h | h
      · exact HI3.out.2 j h1 h
      · exact next_gone h3 j h h2
    · have h7 := (next_here h3).1
      rw [show o2 + (q - o2) = q by omega] at h7
      exact absurd h7 h4
  · rcases HA5.out with h | ⟨j, h1, h2⟩
    · exact .inl h
    · exact .inr ⟨j, h1, by omega⟩
  · rcases HA5.out with h | ⟨j, h1, h2⟩
    · rw [h]; exact hoff
    · exact (reads_low HS4.out.2.2 rfl).offN (fun i e => by rw [h1] at e; injection e with e; omega)
#print axioms close_any
end Go.Proofs.Ytfaedecfpnmnjaa
