/-
  (*Feed).skip, (*Feed).hold, feed.New, Held, Total.
-/
import Derived.Test.YtfaedecfpnmnjaaFeedRows
import Derived.Test.YtfaedecfpnmnjaaFramePut
import Derived.Test.YtfaedecfpnmnjaaApart
import Derived.Deep.RegionLaw
import Derived.Deep.RegionHeldLaw
namespace Go.Proofs.Ytfaedecfpnmnjaa
open Go.RowKit

/-- The part that is skipped from a place to another one, if there is one. -/
def gapP (a r : Nat) : List Pt := if a < r then [⟨skipS a r, none, 0⟩] else []
theorem gapP_yes {a r : Nat} (h : a < r) : gapP a r = [⟨skipS a r, none, 0⟩] := if_pos h
theorem gapP_no {a r : Nat} (h : ¬ a < r) : gapP a r = [] := if_neg h
theorem gapP_new (n a r : Nat) : NewP n (gapP a r) := by
  intro p hp a' e
  unfold gapP at hp
  split at hp
  · obtain rfl : p = _ := by simpa using hp
    cases e
  · simp at hp

/-- A part that is skipped, alone in a block. -/
theorem gap_row (W : World) (N : Nat) (hN : W.heap.size = N) (a r : Nat) (x : Int) (hx : x = ((r - a : Nat) : Int)) :
    SegRow (W.alloc (.cells #[.int .i64 a, .int .i64 x, .bool false, .int .i64 0, .slice none 0 0] 41)) (W.alloc (.cells #[.int .i64 a, .int .i64 x, .bool false, .int .i64 0, .slice none 0 0] 41)).heap.size (.slice (some ⟨N, 0, none⟩) 1 1) [⟨skipS a r, none, 0⟩] := by
  subst hN hx
  have h : Held (W.alloc (.cells #[.int .i64 a, .int .i64 ((r - a : Nat) : Int), .bool false, .int .i64 0, .slice none 0 0] 41)) W.heap.size 41 #[.int .i64 a, .int .i64 ((r - a : Nat) : Int), .bool false, .int .i64 0, .slice none 0 0] := heap_alloc_new W _
  refine one_row _ _ (Nat.le_refl _) (by unfold maxLen; omega) _ (by simp) (fun j u hj => ?_) (Row.nil _ _)
  rw [h.cell j]
  simpa [Pt.cells, skipS] using hj

/-- A feed in block g. -/
abbrev FeedAt (w : World) (g : Nat) (vh : Value) (a tot : Nat) (cl : Bool) : Prop := Held w g 72 #[vh, .int .i64 a, .int .i64 tot, .bool cl]

theorem FeedAt.nob {w : World} {g : Nat} {vh : Value} {a tot : Nat} {cl : Bool} (hf : FeedAt w g vh a tot cl) (hvh : ∀ n, vh ≠ .int .u8 n) (i : Nat) (n : Int) : w.cell? ⟨g, i, none⟩ ≠ some (.int .u8 n) := by
  rw [hf.cell i]
  match i with
  | 0 => simpa using hvh n
  | 1 => simp
  | 2 => simp
  | 3 => simp
  | i + 4 => simp
/-- What an append behind a slice of parts turns. -/
theorem app_but {w W0 w' : World} {g : Nat} {vh : Value} {a tot : Nat} {cl : Bool} {n0 : Nat} {v : Value} {ps : List Pt} (hf : FeedAt w g vh a tot cl) (hs : Segs w n0 v ps) (hb : Below w.heap.size w W0) (hg : W0.grownBy w' v.ownBlock) :
    But w w' v.ownBlock g ∧ FeedAt w' g vh a tot cl := by
  refine ⟨(But.of_below hb _ g).trans (But.of_row hg g) (fun j e => .inl e), ?_⟩
  refine ((hg.block g (Nat.lt_of_lt_of_le hf.lt hb.size) (fun e => ?_)).trans (hb.block g hf.lt)).trans hf
  rcases hs.apart hf (by decide) with h | h
  · rw [h] at e; cases e
  · exact h e.symm
/-- A slice of parts is one still, behind a store into a feed. -/
theorem Segs.past {w : World} {n0 : Nat} {v : Value} {ps : List Pt} {g : Nat} {vh : Value} {a tot : Nat} {cl : Bool} (hs : Segs w n0 v ps) (hf : FeedAt w g vh a tot cl) (hvh : ∀ n, vh ≠ .int .u8 n) (i : Nat) (u : Value) : Segs (w.setCell ⟨g, i, none⟩ u) n0 v ps :=
  hs.kept (grown_put w g i u) (hs.apart hf (by decide)) fun k e j n => by
    obtain rfl : g = k := by injection e
    exact hf.nob hvh j n

set_option maxRecDepth 100000 in
set_option maxHeartbeats 1000000 in
theorem skip_any (w : World) (g : Nat) (vh : Value) (a r tot : Nat) (cl : Bool) (hf : FeedAt w g vh a tot cl) (n0 : Nat) (v : Value) (ps : List Pt) (hs : Segs w n0 v ps) (hn0 : n0 ≤ w.heap.size)
    (ha : a ≤ 100000000000) (hr : r ≤ 100000000000) (hps : ps.length ≤ 100000000000) (hvh : ∀ n, vh ≠ .int .u8 n) :
    Calls Try.prog 40 #[.pointer (some ⟨g, 0, none⟩), v, .int .i64 r] w fun e w' =>
      ∃ v', e = .returned v' ∧ Segs w' n0 v' (ps ++ gapP a r) ∧ FeedAt w' g vh (max a r) tot cl ∧ But w w' v.ownBlock g := by
  obtain ⟨i0, hi, hz0, hz1, hz2⟩ := info_parts Try.infoSeg
  obtain ⟨A, c, rfl, hc, hcm⟩ := hs.form
  have hg := hf.lt
  have hc1 := hf.cell 1
  simp at hc1
  have hf1 := hf.frozen 1
  have r0 : (0 : Int) ≤ r := by omega
  have r1 : (r : Int) ≤ 100000000000 := by omega
  have a0 : (0 : Int) ≤ a := by omega
  have a1 : (a : Int) ≤ 100000000000 := by omega
  have HF := Lib.hid hf
  have HS := Lib.hid hs
  have HSB := Lib.hid (fun W (h : Below w.heap.size w W) => hs.below h)
  clear hf hs
  by_cases hlt : a < r
  · have hli : (a : Int) < r := by omega
    rw [gapP_yes hlt, Nat.max_eq_right (Nat.le_of_lt hlt)]
    have HW := Lib.hid (show IntKind.i64.wrap ((r : Int) - a) = ((r - a : Nat) : Int) by rw [IntKind.wrap_i64]; omega)
    go_enter Try.func40, Try.ntmps40
    go_wp2_with fail
    go_region_law (first | (refine step_append_segs (by rfl) (.tmp 13) (.tmp 25) 38 (by rfl) i0 _ Try.underlying38 hi hz0 hz1 (by omega) rfl n0 (.slice A ps.length c) ps (by rfl) (HSB.out _ (by first | exact (Below.refl _ _).alloc (Nat.le_refl _) _ | exact ((Below.refl _ _).drew).alloc (Nat.le_refl _) _)) (.slice (some ⟨w.heap.size, 0, none⟩) 1 1) [⟨skipS a r, none, 0⟩] (by rfl) (gap_row _ _ rfl a r _ HW.out) (by simp; omega) (by simp; omega) ?_; intro v' w' hs' hg'))
    all_goals
      obtain ⟨hbut, hf'⟩ := app_but HF.out HS.out (by first | exact ((Below.refl _ _).alloc (Nat.le_refl _) _).drew | exact ((Below.refl _ _).drew).alloc (Nat.le_refl _) _) hg'
      obtain ⟨A1, c1, ev, _, _⟩ := hs'.form
      rw [List.length_append, List.length_singleton] at ev
      subst ev
      have hg1 := hf'.lt
      have hc1' := hf'.cell 1
      simp at hc1'
      have hf1' := hf'.frozen 1
      have HF1 := Lib.hid hf'
      have HS1 := Lib.hid hs'
      have HBUT := Lib.hid hbut
      clear hf' hs' hbut hg' hc1 hf1
      go_wp2_with fail
      go_ret
      exact ⟨_, rfl, HS1.out.past HF1.out hvh 1 _, by simpa using HF1.out.put 1 (.int .i64 r), HBUT.out.trans (But.of_one (grown_put w' g 1 _) _) (fun j e => .inl e)⟩
  · have hli : ¬ (a : Int) < r := by omega
    rw [gapP_no hlt, Nat.max_eq_left (by omega), List.append_nil]
    go_enter Try.func40, Try.ntmps40
    go_wp2_with fail
    go_ret
    exact ⟨_, rfl, HS.out, HF.out, But.refl _ _ _⟩

/-- A row of bytes of the call's own, and a feed: two blocks. -/
theorem own_feed {w : World} {g : Nat} {vx : Value} {a tot : Nat} {cl : Bool} {n0 n : Nat} {v : Value} {us : List Value} (hf : FeedAt w g vx a tot cl) (h : w.ownsRow n0 5 1 v n us) : v.ownBlock = none ∨ v.ownBlock ≠ some g := by
  rcases h.2 with ⟨rfl, _⟩ | ⟨g', cap, cur, rfl, _, hgb, _⟩
  · exact .inl rfl
  · refine .inr fun e => ?_
    obtain rfl : g' = g := by simpa [Value.ownBlock] using e
    rw [show w.heap[g']? = _ from hf] at hgb
    injection hgb with hgb
    injection hgb with _ e3 _
    revert e3
    decide
theorem feed_but {w w' : World} {g : Nat} {vx : Value} {a tot : Nat} {cl : Bool} {n0 n : Nat} {v : Value} {us : List Value} (hf : FeedAt w g vx a tot cl) (h : w.ownsRow n0 5 1 v n us) (hg : w.grownBy w' v.ownBlock) : FeedAt w' g vx a tot cl :=
  hf.grown hg fun e => (own_feed hf h).elim (fun h => by rw [h] at e; cases e) (fun h => h e.symm)

set_option maxRecDepth 100000 in
set_option maxHeartbeats 1000000 in
theorem hold_any (w : World) (g : Nat) (A : Option Addr) (n c a tot : Nat) (cl : Bool) (hf : FeedAt w g (.slice A n c) a tot cl) (n0 : Nat) (us : List Value) (hown : w.ownsRow n0 5 1 (.slice A n c) n us) (hn0 : n0 ≤ w.heap.size)
    (Ar : Option Addr) (nr cr : Nat) (ys : List Int) (hys : ys.length ≤ 100000000000) (hr : Row w w.heap.size (.slice Ar nr cr) ys) (hap : ∀ x, Ar = some x → (.slice A n c : Value).ownBlock ≠ some x.block) :
    Calls Try.prog 39 #[.pointer (some ⟨g, 0, none⟩), .slice Ar nr cr] w fun e w' =>
      ∃ v', e = .returned (.tuple #[]) ∧ FeedAt w' g v' a tot cl ∧ w'.ownsRow n0 5 1 v' ys.length (ys.map (.int .u8)) ∧ But w w' (.slice A n c : Value).ownBlock g ∧
        (v'.ownBlock = (.slice A n c : Value).ownBlock ∨ ∃ j, v'.ownBlock = some j ∧ w.heap.size ≤ j) := by
  obtain ⟨i0, hi, hz0, hz1, hz2⟩ := info_parts Try.infoU8
  obtain ⟨w1, hcl, hg1, us', hown1⟩ := run_clear_row (P := Try.prog) w n0 22 0 5 Try.underlying22 (fun w => by simp [zeroValue, typeInfo, hi, hz0]) (.slice A n c) n us hown
  obtain ⟨v0, hv0, hown0, hob⟩ := own_zero hown1
  have hv0' := hv0 A c rfl
  subst hv0'
  have hf1 : FeedAt w1 g (.slice A n c) a tot cl := feed_but hf hown hg1
  have hb1 := But.of_row hg1 g
  have hr1 : Row w1 w1.heap.size (.slice Ar nr cr) ys := (hb1.bytes hr (hf.nob (by simp)) hap).more hg1.size
  obtain ⟨_, hn1, hn2⟩ : ∃ _ : True, n ≤ c ∧ c ≤ 9223372036854775807 := by
    rcases hown.2 with ⟨e, h0⟩ | ⟨_, _, _, e, _, _, h1, h2, _⟩
    · injection e with _ _ e3; exact ⟨trivial, by omega, by omega⟩
    · injection e with _ _ e3; unfold maxLen at h2; exact ⟨trivial, by omega, by omega⟩
  have hg := hf.lt
  have hgl1 := hf1.lt
  have x0 := hf.cell 0
  have y0 := hf1.cell 0
  simp at x0 y0
  have hsz : w.heap.size ≤ w1.heap.size := hg1.size
  have HF1 := Lib.hid hf1
  have HR1 := Lib.hid hr1
  have HO := Lib.hid hown0
  have HB1 := Lib.hid hb1
  have HOB := Lib.hid hob
  clear hf hown hr hap hown1 hown0 hv0 hf1 hb1 hr1 hg1 hob
  go_enter Try.func39, Try.ntmps39
  go_wp2_with (at_builtin; (refine wpList_append_row_at (by rfl) (.tmp 13) (.tmp 14) 22 (by rfl) n0 5 i0 (.int .u8 0) Try.underlying22 hi hz0 hz1 hz2 rfl (.slice A 0 c) 0 [] (by rfl) HO.out w1.heap.size (.slice Ar nr cr) ys (by rfl) HR1.out (by omega) (by omega) ?_; intro v' w2 hown2 hg2 hat2; obtain ⟨A2, c2, rfl⟩ := own_form hown2; have hf2 := feed_but HF1.out HO.out hg2; have hgl2 := hf2.lt; have x2 := hf2.cell 0; simp at x2; have f2 := hf2.frozen 0; rw [Nat.zero_add] at hown2 hat2 ⊢; rw [List.nil_append] at hown2; have HF2 := Lib.hid hf2; have HO2 := Lib.hid hown2; have HG2 := Lib.hid hg2; have HAT := Lib.hid hat2; clear hf2 hown2 hg2 hat2))
  go_end0
  have hob2 : (.slice A 0 c : Value).ownBlock = (.slice A n c : Value).ownBlock := HOB.out
  have hb2 := HB1.out.trans (But.of_row HG2.out g) (fun j e => .inl (by rw [← hob2]; exact e))
  have hset := grown_put w2 g 0 (.slice A2 ys.length c2)
  refine ⟨.slice A2 ys.length c2, rfl, by simpa using HF2.out.put 0 (.slice A2 ys.length c2), HO2.out.kept hset ?_, hb2.trans (But.of_one hset _) (fun j e => .inl e), ?_⟩
  · exact own_feed HF2.out HO2.out
  · rcases HAT.out with h | h
    · exact .inl (Eq.trans h hob2)
    · exact .inr ⟨w1.heap.size, h, hsz⟩
#print axioms hold_any

theorem fnew_any (w : World) : Calls Try.prog 23 #[] w fun e w' => e = .returned (.pointer (some ⟨w.heap.size, 0, none⟩)) ∧ FeedAt w' w.heap.size (.slice none 0 0) 0 0 false ∧ Below w.heap.size w w' := by
  go_enter Try.func23, Try.ntmps23
  go_wp2_with fail
  go_ret
  exact ⟨rfl, heap_alloc_new w _, (Below.refl _ _).alloc (Nat.le_refl _) _⟩
theorem held_any (w : World) (g : Nat) (A : Option Addr) (n c a tot : Nat) (cl : Bool) (hf : FeedAt w g (.slice A n c) a tot cl) :
    Calls Try.prog 36 #[.pointer (some ⟨g, 0, none⟩)] w fun e w' => e = .returned (.int .i64 n) ∧ w = w' := by
  have hg := hf.lt
  have x0 := hf.cell 0
  simp at x0
  go_enter Try.func36, Try.ntmps36
  go_wp2_with fail
  go_ret
  exact ⟨rfl, rfl⟩
theorem total_any (w : World) (g : Nat) (vh : Value) (a tot : Nat) (cl : Bool) (hf : FeedAt w g vh a tot cl) :
    Calls Try.prog 37 #[.pointer (some ⟨g, 0, none⟩)] w fun e w' => e = .returned (.int .i64 tot) ∧ w = w' := by
  have hg := hf.lt
  have x0 := hf.cell 2
  simp at x0
  go_enter Try.func37, Try.ntmps37
  go_wp2_with fail
  go_ret
  exact ⟨rfl, rfl⟩
end Go.Proofs.Ytfaedecfpnmnjaa
