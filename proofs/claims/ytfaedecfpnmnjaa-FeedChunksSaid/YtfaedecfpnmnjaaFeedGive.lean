/-
  (*Feed).Give: what is told, and what is held then.
-/
import Derived.Test.YtfaedecfpnmnjaaFeedTellO
import Derived.Test.YtfaedecfpnmnjaaSegsCalls
namespace Go.Proofs.Ytfaedecfpnmnjaa
open Go.RowKit

/-- A feed in block g, that was given xs; T has been told, all from a on not; it holds what stands from o on, in a row of its own. -/
def Fed (w : World) (n0 g : Nat) (vh : Value) (xs : List Int) (T : List Sg) (a o : Nat) : Prop :=
  FeedAt w g vh a xs.length false ∧ w.ownsRow n0 5 1 vh (xs.length - o) ((xs.drop o).map (.int .u8)) ∧ Fd xs T a o

/-- What Give answers. -/
def Given (w : World) (n0 g : Nat) (vh : Value) (xs : List Int) (T : List Sg) (e : Ending) (w' : World) : Prop :=
  ∃ v ps vh' a o, e = .returned (.tuple #[v, .int .i64 0]) ∧ Segs w' w.heap.size v ps ∧ NewP w.heap.size ps ∧ Fed w' n0 g vh' xs (T ++ ps.map (·.s)) a o ∧ But w w' vh.ownBlock g ∧
    (vh'.ownBlock = vh.ownBlock ∨ ∃ j, vh'.ownBlock = some j ∧ w.heap.size ≤ j) ∧ OffN vh'.ownBlock ps ∧ ps.length ≤ xs.length

theorem info_u8_zero {i0 : TypeInfo} {P : Program} (hi : P.info? 5 = some i0) (hz0 : i0.zero = some (.int .u8 0)) : ∀ w, (zeroValue 5).run P w = .ok (.int .u8 0) w := fun w => by simp [zeroValue, typeInfo, hi, hz0]

set_option maxRecDepth 100000 in
set_option maxHeartbeats 2000000 in
theorem give_any (w : World) (n0 g : Nat) (vh : Value) (xs : List Int) (T : List Sg) (a o : Nat) (h : Fed w n0 g vh xs T a o) (hbx : ∀ x ∈ xs, 0 ≤ x ∧ x < 256) (hn0 : n0 ≤ w.heap.size)
    (A : Option Addr) (c : Nat) (ys : List Int) (hby : ∀ y ∈ ys, 0 ≤ y ∧ y < 256) (hrow : Row w w.heap.size (.slice A ys.length c) ys) (hsm : (xs ++ ys).length ≤ 100000000000) :
    Calls Try.prog 24 #[.pointer (some ⟨g, 0, none⟩), .slice A ys.length c] w (Given w n0 g vh (xs ++ ys) T) := by
  obtain ⟨i0, hi, hz0, hz1, hz2⟩ := info_parts Try.infoU8
  obtain ⟨hf, hown, hao, ho, hsure, hset, hend⟩ := h
  have hg := hf.lt
  by_cases hy : ys = []
  · subst hy
    have x3 := hf.cell 3
    simp at x3
    have HF := Lib.hid hf
    have HO := Lib.hid hown
    have HD := Lib.hid (show Fd xs T a o from ⟨hao, ho, hsure, hset, hend⟩)
    clear hf hown hsure hset hend hrow
    go_enter Try.func24, Try.ntmps24
    go_wp2_with fail
    go_ret2
    exact ⟨_, [], vh, a, o, rfl, Segs.nil _ _, NewP.nil _, by rw [List.append_nil, List.map_nil, List.append_nil]; exact ⟨HF.out, HO.out, HD.out⟩, But.refl _ _ _, .inl rfl, OffN.nil _, Nat.zero_le _⟩
  · have hy0 : 0 < ys.length := by cases ys with | nil => exact absurd rfl hy | cons _ _ => simp
    have hbxy : Bytes (xs ++ ys) := Bytes.append hbx hby
    have hdr : xs.drop o ++ ys = (xs ++ ys).drop o := (List.drop_append_of_le_length ho).symm
    have hlen : (xs ++ ys).length = xs.length + ys.length := List.length_append
    obtain ⟨Ah, nh, ch, rfl⟩ : ∃ Ah nh ch, vh = .slice Ah nh ch := by obtain ⟨A, c, e⟩ := own_form hown; exact ⟨A, _, c, e⟩
    have hnh : nh = xs.length - o := by
      obtain ⟨_, _, e⟩ := own_form hown
      injection e
    subst hnh
    have hch : xs.length - o ≤ ch ∧ ch ≤ 9223372036854775807 := by
      rcases hown.2 with ⟨e, h0⟩ | ⟨_, _, _, e, _, _, h1, h2, _⟩
      · injection e with _ _ e3; omega
      · injection e with _ _ e3; unfold maxLen at h2; exact ⟨by omega, by omega⟩
    obtain ⟨hch1, hch2⟩ := hch
    have hI0 : Sure (xs ++ ys) (T ++ []) a ∧ Settled (xs ++ ys) a o := ⟨by rw [List.append_nil]; exact hsure.give hby, hset.give ys hbx ho⟩
    have hst : ∀ (ps : List Sg) a o r, (Sure (xs ++ ys) (T ++ ps) a ∧ Settled (xs ++ ys) a o) → a ≤ o → o ≤ r → r < (xs ++ ys).length → nextI true ((xs ++ ys).drop o) 0 = ((r - o : Nat) : Int) → Begins (xs ++ ys) r →
        Sure (xs ++ ys) (T ++ (ps ++ gapS a r ++ [frS (xs ++ ys) r])) (r + (getFr ((xs ++ ys).drop r)).2.1) ∧ Settled (xs ++ ys) (r + (getFr ((xs ++ ys).drop r)).2.1) (r + (getFr ((xs ++ ys).drop r)).2.1) := by
      intro ps a o r h1 h2 h3 h4 h5 h6
      have h7 := (open_here h5).1
      rw [show o + (r - o) = r by omega] at h7
      refine ⟨?_, Settled.nil _ _⟩
      have := h1.1.step hbxy (by omega) (h1.2.trans h7) h6
      simpa using this
    have HI0 := Lib.hid hI0
    have HST := Lib.hid hst
    have HBXY := Lib.hid hbxy
    have HDR := Lib.hid hdr
    have HSURE := Lib.hid hsure
    clear hI0 hst hsure hset hend hbxy hdr
    have hput := grown_put w g 2 (.int .i64 ((xs.length : Int) + ys.length))
    have HB1 := Lib.hid (But.of_one hput (Value.ownBlock (.slice Ah (xs.length - o) ch)))
    have HR1 := Lib.hid (((But.of_one hput none).clean hrow (FeedAt.nob hf (by simp)) (fun j e => by cases e)).more hput.size)
    have hown1 := hown.kept hput (own_feed hf hown)
    have hf1 : FeedAt (w.setCell ⟨g, 2, none⟩ (.int .i64 ((xs.length : Int) + ys.length))) g (.slice Ah (xs.length - o) ch) a (xs ++ ys).length false := by
      rw [FeedAt, hlen, show ((xs.length + ys.length : Nat) : Int) = (xs.length : Int) + ys.length by omega]
      simpa using hf.put 2 (.int .i64 ((xs.length : Int) + ys.length))
    have hhl : ∀ j, (Value.slice Ah (xs.length - o) ch).ownBlock = some j → j < w.heap.size := fun j e => (hown.lt j e).2
    have HHL := Lib.hid hhl
    have HRH := Lib.hid (Row.of_own hown1).cut
    have HO1 := Lib.hid hown1
    have HF1 := Lib.hid hf1
    have x0 := hf.cell 0
    have x2 := hf.cell 2
    have x3 := hf.cell 3
    have f2 := hf.frozen 2
    simp at x0 x2 x3
    have hl1 : xs.length + ys.length ≤ 100000000000 := by omega
    clear hf hown hrow hown1 hf1 hput
    go_enter Try.func24, Try.ntmps24
    go_wp2_with fail
    generalize hw1 : w.setCell ⟨g, 2, none⟩ (.int .i64 ((xs.length : Int) + ys.length)) = w1 at *
    have hg1 := HF1.out.lt
    have y0 := HF1.out.cell 0
    simp at y0
    have hdl : (xs.drop o).length = xs.length - o := List.length_drop
    have HDL := Lib.hid hdl
    have b0 : (0 : Int) ≤ ((xs.length - o : Nat) : Int) := by omega
    have b1 : ((xs.length - o : Nat) : Int) ≤ ch := by omega
    clear hdl
    go_region_law (first | (refine step_append_fresh (by rfl) (.tmp 39) (.tmp 40) 22 (by rfl) 5 i0 (.int .u8 0) Try.underlying22 hi hz0 hz1 hz2 rfl w1.heap.size w1.heap.size Ah A (xs.length - o) c (xs.length - o) ys.length (xs.drop o) ys (by rfl) (by rfl) HDL.out rfl HRH.out HR1.out hy0 (by omega) (by omega) w1.heap.size (by rfl) ?_; intro cap w2 hown2 hb2))
    all_goals
      have hb2' : Below w1.heap.size w1 w2 := by first | exact (Below.refl _ _).drew.trans hb2 | exact hb2
      have hz1 : w.heap.size ≤ w1.heap.size := HB1.out.size
      have HR2 := Row.of_own hown2
      rw [HDR.out] at HR2
      have HF2 := Lib.hid (HF1.out.below hb2' HF1.out.lt)
      have HO2 := Lib.hid (own_below HO1.out hb2')
      have HB2 := Lib.hid (HB1.out.trans (But.of_below hb2' _ g) (fun j e => .inl e))
      have hz2 : w.heap.size ≤ w2.heap.size := Nat.le_trans hz1 hb2'.size
      have hnl : xs.length - o + ys.length = ((xs ++ ys).drop o).length := by rw [List.length_drop]; omega
      have HTELL := Lib.hid (tellO_any (xs ++ ys) hsm HBXY.out (fun ps a o => Sure (xs ++ ys) (T ++ ps) a ∧ Settled (xs ++ ys) a o) HST.out w2 g (.slice Ah (xs.length - o) ch) (by simp) a o false hao (by omega) HI0.out HF2.out (some ⟨w1.heap.size, 0, none⟩) (xs.length - o + ys.length) cap hnl HR2)
      clear hb2 hown2 hb2' HR2 hnl HB1 HR1 HRH HO1
      go_wp2_with fail
      refine HTELL.out.mono ?_
      rintro e w3 ⟨v3, Ar, nr, cr, ps, a2, o2, q, rfl, hs3, hnp, hI3, ha2, ho2, hq, hf3, hg3, hr3, hAr, hpl, hend3⟩
      have hz3 : w2.heap.size ≤ w3.heap.size := hg3.size
      have hown3 := HO2.out.kept hg3 (own_feed HF2.out HO2.out)
      have HB3 := Lib.hid (HB2.out.trans (But.of_one hg3 _) (fun j e => .inl e))
      have HHOLD := Lib.hid (hold_any w3 g Ah (xs.length - o) ch a2 (xs ++ ys).length false hf3 n0 _ hown3 (by omega) Ar nr cr ((xs ++ ys).drop q) (by rw [List.length_drop]; omega) hr3 (fun x e e2 => by
        obtain ⟨y, e3, e4⟩ := hAr x e
        injection e3 with e3
        have := HHL.out _ e2
        rw [e4, ← e3] at this
        simp only at this
        omega))
      obtain ⟨A3, c3, rfl, _, _⟩ := hs3.form
      have HS3 := Lib.hid hs3
      have HNP := Lib.hid hnp
      have HI3 := Lib.hid hI3
      have HF3 := Lib.hid hf3
      have HE3 := Lib.hid hend3
      clear hs3 hnp hI3 hf3 hg3 hr3 hAr hend3 hown3
      go_wp2_with fail
      refine HHOLD.out.mono ?_
      rintro e w4 ⟨v4, rfl, hf4, hown4, hbut4, hat4⟩
      have HF4 := Lib.hid hf4
      have HO4 := Lib.hid hown4
      have HB4 := Lib.hid hbut4
      have HA4 := Lib.hid hat4
      clear hf4 hown4 hbut4 hat4
      go_wp2_with fail
      go_ret2
      have hoff := HNP.out.offN (row := (Value.slice Ah (xs.length - o) ch).ownBlock) (fun j e => Nat.lt_of_lt_of_le (HHL.out j e) hz2)
      have hown4 := HO4.out
      rw [List.length_drop] at hown4
      have hs4 := HS3.out.but HB4.out (FeedAt.nob HF3.out (by simp)) (HS3.out.apart HF3.out (by decide)) (by
        rcases (HS3.out.1).2 with ⟨e2, _⟩ | ⟨b, cap, cur, e2, hb, _⟩
        · exact .inl (by rw [e2]; rfl)
        · refine .inr fun e => ?_
          rw [e2] at e
          have := HHL.out b e.symm
          omega) hoff
      refine ⟨_, ps, v4, a2, q, rfl, hs4.mono (by omega), HNP.out.less hz2, ⟨HF4.out, hown4, by omega, hq, HI3.out.1, ?_, ?_⟩, HB3.out.trans HB4.out (fun j e => .inl e), ?_, ?_, hpl⟩
      · rcases HE3.out with ⟨h1, h2⟩ | ⟨h1, _⟩
        · rw [h2]
          exact HI3.out.2.trans (open_gone (by omega) h1)
        · have h7 := (open_here h1).1
          rw [show o2 + (q - o2) = q by omega] at h7
          exact HI3.out.2.trans h7
      · rcases HE3.out with ⟨_, h2⟩ | ⟨h1, h2⟩
        · exact .inl h2
        · have h7 := (open_here h1).2
          rw [show o2 + (q - o2) = q by omega] at h7
          exact .inr (h7.resolve_left h2)
      · rcases HA4.out with h | ⟨j, h1, h2⟩
        · exact .inl h
        · exact .inr ⟨j, h1, by omega⟩
      · rcases HA4.out with h | ⟨j, h1, h2⟩
        · rw [h]; exact hoff
        · exact (reads_low HS3.out.2.2 rfl).offN (fun i e => by rw [h1] at e; injection e with e; omega)
#print axioms give_any
end Go.Proofs.Ytfaedecfpnmnjaa
