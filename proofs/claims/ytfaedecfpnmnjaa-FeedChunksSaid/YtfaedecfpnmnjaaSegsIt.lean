/-
  segs.parts: what may be ranged over hands on the parts of bytes, in order.
-/
import Derived.Test.YtfaedecfpnmnjaaTold
import Derived.Test.YtfaedecfpnmnjaaSegRows
import Derived.Test.YtfaedecfpnmnjaaFinds
import Derived.RangeFuncCalls
import Derived.Shelf.Abstract
import Derived.OwnWalkIn
import Derived.TacticsInMore
import Derived.LoopNIn
import Derived.LoopIn
import Derived.Lib.Hide
import Derived.Outline
namespace Go.Proofs.Ytfaedecfpnmnjaa
open Go.RowKit Go.Shelf

attribute [local go_sem] Oper.semAt_some

/-- What a round is told of what it is handed. -/
def PtOk (xs : List Int) (p : Pt) (w : World) : Prop := p.Reads w w.heap.size ∧ p.s.frm + p.s.n ≤ xs.length
/-- What a round keeps: what lies below n₀, the block Bn, and what has been laid from block m on. -/
def KeepsB (n₀ Bn m : Nat) (w w' : World) : Prop := Below n₀ w w' ∧ w'.heap[Bn]? = w.heap[Bn]? ∧ ∀ k, m ≤ k → k < w.heap.size → w'.heap[k]? = w.heap[k]?
theorem KeepsB.refl (n₀ Bn m : Nat) (w : World) : KeepsB n₀ Bn m w w := ⟨Below.refl _ _, rfl, fun _ _ _ => rfl⟩
theorem KeepsB.trans {n₀ Bn m : Nat} {a b c : World} (h : KeepsB n₀ Bn m a b) (k : KeepsB n₀ Bn m b c) : KeepsB n₀ Bn m a c :=
  ⟨h.1.trans k.1, k.2.1.trans h.2.1, fun i h1 h2 => (k.2.2 i h1 (Nat.lt_of_lt_of_le h2 h.1.size)).trans (h.2.2 i h1 h2)⟩
theorem KeepsB.turn {n₀ Bn : Nat} {w : World} (hn : n₀ ≤ w.heap.size) (hB : Bn < w.heap.size) (m : Nat) (W : World) (l : Nat) (o o' : Obj) (hl : w.heap.size ≤ l) (hm : l < m) (h : W.heap[l]? = some o) (_ : o.isCells = false) : KeepsB n₀ Bn m W (W.putObj l o') :=
  ⟨(Below.refl n₀ W).grown (grownBy_putObj' W l o') (by have := (Array.getElem?_eq_some_iff.1 h).1; omega) (fun k e => by cases e; omega), World.putObj_heap_other (by omega), fun k h1 _ => World.putObj_heap_other (by omega)⟩

theorem step_next {xs : List Int} {a : Nat} (h : nextI false xs a = -1) : max (nextI false xs a) 0 = 0 ∧ decide (0 ≤ nextI false xs a) = false := by rw [h]; exact ⟨rfl, rfl⟩
theorem step_found {xs : List Int} {a r : Nat} (h : nextI false xs a = (r : Int)) : max (nextI false xs a) 0 = (r : Int) ∧ decide (0 ≤ nextI false xs a) = true := by
  rw [h]
  exact ⟨by omega, by simp⟩
theorem map_snoc (pre : List Pt) (x : Pt) : (pre ++ [x]).map (·.s) = pre.map (·.s) ++ [x.s] := by simp

set_option maxRecDepth 100000 in
set_option maxHeartbeats 2000000 in
theorem parts1_in (n : Nat) (hn : 1 ≤ n) (l Bn n₀ : Nat) (A : Option Addr) (c : Nat) (xs : List Int) (hsm : xs.length ≤ 1000000000000) (hbx : ∀ x ∈ xs, 0 ≤ x ∧ x < 256) (J : List Pt → World → Prop) (W : World)
    (hY : ∀ pre x W0 W1, J pre W0 → Below W0.heap.size W0 W1 → PtOk xs x W1 → pre.length < xs.length → YieldAt Fence.wide (n - 1) Try.prog l #[x.val] W1 fun e W' => e = .returned (.bool true) ∧ J (pre ++ [x]) W' ∧ KeepsB n₀ Bn W0.heap.size W1 W')
    (hBn : W.cell? ⟨Bn, 0, none⟩ = some (.slice A xs.length c)) (hlt : Bn < W.heap.size) (hn0 : n₀ ≤ W.heap.size) (hrow : Row W n₀ (.slice A xs.length c) xs) (h0 : J [] W) :
    CallsIn Fence.wide n Try.prog 55 #[.func (.yield l) #[] #[], .pointer (some ⟨Bn, 0, none⟩)] W fun e W' => (∃ v, e = .returned v) ∧ ∃ (ys : List Pt) (W0 : World), PartsS xs 0 (ys.map (·.s)) ∧ J ys W0 ∧ Below W0.heap.size W0 W' := by
  refine callsIn_of_wp Try.func55 rfl trivial ?_ rfl
  simp only [Try.ntmps55, List.size_toArray, List.length_cons, List.length_nil, Nat.reduceAdd, Nat.reduceSub, Array.replicate_succ, Array.replicate_zero, List.push_toArray, List.append_toArray, List.nil_append, List.cons_append]
  have HROW := Lib.hid hrow
  have HX := Lib.hid hbx
  have HY := Lib.hid hY
  have NX := Lib.hid (fun W1 (h : Row W1 W1.heap.size (.slice A xs.length c) xs) (a : Nat) (ha : a ≤ xs.length) => next_any A c xs (by omega) W1 h hbx a (by omega) (by omega))
  have FP := Lib.hid (fun W1 (h : Row W1 W1.heap.size (.slice A xs.length c) xs) (a : Nat) (ha : a ≤ xs.length) => framePart_any A c xs (by omega) W1 h hbx a ha)
  have HBN := Lib.hid hBn
  clear hrow hbx hY
  gi_wp2_with (refine ⟨trivial, ?_⟩; gi_at_call 7; refine (callsIn_wide.2 (NX.out _ (HROW.out.more hn0) 0 (Nat.zero_le _))).mono ?_; rintro e w1 ⟨rfl, hb1⟩)
  clear hBn
  have HN := Lib.hid (next_ways xs)
  gi_loopw [3, 4, 5] (fun f t d wr => ∃ (pre : List Pt) (a : Nat) (W0 : World), f = .int .i64 a ∧ t = .int .i64 (max (nextI false xs a) 0) ∧ d = .bool (decide (0 ≤ nextI false xs a)) ∧ a ≤ xs.length ∧ pre.length ≤ a ∧
      Hid (Ahead xs (pre.map (·.s)) a) ∧ J pre W0 ∧ Below W0.heap.size W0 wr ∧ Hid (Below n₀ W wr ∧ wr.heap[Bn]? = W.heap[Bn]?))
    (fun f _ _ _ => xs.length - (intOf f).toNat)
  case atStart =>
    exact ⟨[], 0, W, rfl, rfl, rfl, Nat.zero_le _, Nat.zero_le _, Ahead.start xs, h0, hb1, hb1.mono hn0, hb1.block _ hlt⟩
  case round =>
    clear hb1 h0
    obtain ⟨pre, a, W0, rfl, rfl, rfl, ha, hpl, HA, hJs, hk0, HK⟩ := hrel
    have hcb : wr.cell? ⟨Bn, 0, none⟩ = some (.slice A xs.length c) := (World.cell?_of_block HK.out.2).trans HBN.out
    have hnr : n₀ ≤ wr.heap.size := Nat.le_trans hn0 HK.out.1.size
    have HR := Lib.hid ((HROW.out.below HK.out.1).more hnr)
    rcases HN.out a with hno | ⟨r, hr⟩
    · obtain ⟨e1, e2⟩ := step_next hno
      have hnn := next_no (show nextI false xs a < 0 by omega)
      have HNN := Lib.hid hnn
      rw [e1, e2]
      clear e1 e2 hno hnn
      by_cases hal : a < xs.length
      · gi_wp2_with (refine ⟨trivial, ?_⟩; gi_at_call 56; refine (callsIn_wide.2 (skipped_any a xs.length ha (by omega) _)).mono ?_; rintro e w1 ⟨rfl, hb1⟩
                     obtain ⟨fn, tmps, assign, body, hy, hR⟩ := HY.out pre ⟨skipS a xs.length, none, 0⟩ W0 w1 hJs (hk0.trans (hb1.mono hk0.size)) ⟨Row.nil _ _, by simp only [skipS]; omega⟩ (by omega); dsimp only [Pt.val, skipS, List.length_nil] at hy)
        refine hR.mono ?_
        rintro e W3 ⟨rfl, hJ3, hk3⟩
        gi_wp2
        go_end0
        exact ⟨⟨_, rfl⟩, pre ++ [⟨skipS a xs.length, none, 0⟩], W3, by rw [map_snoc]; exact HA.out.last hal HNN.out, hJ3, Below.refl _ _⟩
      · have hal' : ¬ a < xs.length := hal
        gi_wp2
        go_end0
        exact ⟨⟨_, rfl⟩, pre, W0, HA.out.done (by omega), hJs, hk0⟩
    · obtain ⟨e1, e2⟩ := step_found hr
      obtain ⟨har, hrl, hbg, hnb⟩ := next_some hr
      have HBG := Lib.hid hbg
      have HNB := Lib.hid hnb
      obtain ⟨h9, hin, _⟩ := begins_in HX.out hbg
      have HFR := Lib.hid (fun p : List Pt => HA.out)
      rw [e1, e2]
      clear e1 e2 hr hbg hnb HFR
      obtain ⟨t, ht⟩ : ∃ t, getFr (xs.drop r) = t := ⟨_, rfl⟩
      have HT := Lib.hid ht
      rw [ht] at h9 hin
      clear ht
      have FR := Lib.hid (fun W1 (h : Row W1 W1.heap.size (.slice A xs.length c) xs) => FP.out W1 h r (by omega))
      rw [HT.out] at FR
      -- how a round ends behind what has been skipped
      by_cases hgt : a < r
      · gi_wp2_with (refine ⟨trivial, ?_⟩; gi_at_call 56; refine (callsIn_wide.2 (skipped_any a r har (by omega) _)).mono ?_; rintro e w1 ⟨rfl, hb1⟩
                     obtain ⟨fn, tmps, assign, body, hy, hR⟩ := HY.out pre ⟨skipS a r, none, 0⟩ W0 w1 hJs (hk0.trans (hb1.mono hk0.size)) ⟨Row.nil _ _, by simp only [skipS]; omega⟩ (by omega); dsimp only [Pt.val, skipS, List.length_nil] at hy)
        refine hR.mono ?_
        rintro e W3 ⟨rfl, hJ3, hk3⟩
        have HK3 : Hid (Below n₀ W W3 ∧ W3.heap[Bn]? = W.heap[Bn]?) := Lib.hid ⟨(HK.out.1.trans (hb1.mono hnr)).trans hk3.1, hk3.2.1.trans ((hb1.block Bn (Nat.lt_of_lt_of_le hlt HK.out.1.size)).trans HK.out.2)⟩
        clear hk3 hb1 hcb HR hnr hy hR hk0 HK
        have hcb : W3.cell? ⟨Bn, 0, none⟩ = some (.slice A xs.length c) := (World.cell?_of_block HK3.out.2).trans HBN.out
        have HR := Lib.hid ((HROW.out.below HK3.out.1).more (Nat.le_trans hn0 HK3.out.1.size))
        have hl3 : (pre ++ [(⟨skipS a r, none, 0⟩ : Pt)]).length < xs.length := by simp; omega
        have hnr : n₀ ≤ W3.heap.size := Nat.le_trans hn0 HK3.out.1.size
        have hltc : Bn < W3.heap.size := Nat.lt_of_lt_of_le hlt HK3.out.1.size
        gi_wp2_with fail
        refine ⟨trivial, ?_⟩
        refine (callsIn_wide.2 (FR.out _ HR.out)).mono ?_
        rintro e w4 ⟨A1, c1, rfl, hrow4, hb4⟩
        have hb5 := hb4.alloc (Nat.le_trans (Nat.le_refl _) hb4.size) (.cells #[.int .i64 r, .int .i64 t.2.1, .bool true, .int .i64 t.1.1, .slice A1 t.1.2.length c1] 41)
        have hrow5 := (hrow4.below ((Below.refl _ _).alloc (Nat.le_refl _) (.cells #[.int .i64 r, .int .i64 t.2.1, .bool true, .int .i64 t.1.1, .slice A1 t.1.2.length c1] 41))).more (Nat.le_of_lt (by simp : w4.heap.size < (w4.alloc (.cells #[.int .i64 r, .int .i64 t.2.1, .bool true, .int .i64 t.1.1, .slice A1 t.1.2.length c1] 41)).heap.size))
        obtain ⟨fn2, tmps2, assign2, body2, hy2, hR2⟩ := HY.out (pre ++ [(⟨skipS a r, none, 0⟩ : Pt)]) ⟨⟨r, t.2.1, true, t.1.1, t.1.2⟩, A1, c1⟩ W3 _ hJ3 ((Below.refl W3.heap.size W3).trans (hb5.mono (Below.refl W3.heap.size W3).size)) ⟨hrow5, hin⟩ hl3
        dsimp only [Pt.val] at hy2
        gi_wp2_with fail
        refine hR2.mono ?_
        rintro e W6 ⟨rfl, hJ6, hk6⟩
        have hz4 : W3.heap.size ≤ w4.heap.size := Nat.le_trans (Below.refl W3.heap.size W3).size hb4.size
        have hpart : Held W6 w4.heap.size 41 #[.int .i64 r, .int .i64 t.2.1, .bool true, .int .i64 t.1.1, .slice A1 t.1.2.length c1] := (hk6.2.2 w4.heap.size hz4 (by simp)).trans (heap_alloc_new w4 _)
        have hp1 := hpart.cell 1
        simp at hp1
        have HK6 : Hid (Below n₀ W W6 ∧ W6.heap[Bn]? = W.heap[Bn]?) := Lib.hid ⟨(HK3.out.1.trans (hb5.mono hnr)).trans hk6.1, hk6.2.1.trans ((hb5.block Bn hltc).trans HK3.out.2)⟩
        have HJ6 := Lib.hid hJ6
        clear hk6 hb5 hb4 hrow4 hrow5 hcb HR hy2 hR2 hpart hJ6
        have hcb : W6.cell? ⟨Bn, 0, none⟩ = some (.slice A xs.length c) := (World.cell?_of_block HK6.out.2).trans HBN.out
        have hn6 : n₀ ≤ W6.heap.size := Nat.le_trans hn0 HK6.out.1.size
        have HR6 := Lib.hid ((HROW.out.below HK6.out.1).more hn6)
        obtain ⟨b, hb⟩ : ∃ b : Nat, r + t.2.1 = b := ⟨_, rfl⟩
        have hbi : (r : Int) + t.2.1 = b := by omega
        have hbl : b ≤ xs.length := by omega
        have hbr : r + 9 ≤ b := by omega
        have HB := Lib.hid hb
        clear hb hin
        gi_wp2_with (refine ⟨trivial, ?_⟩; gi_at_call 7; refine (callsIn_wide.2 (NX.out _ HR6.out b hbl)).mono ?_; rintro e w7 ⟨rfl, hb7⟩)
        go_roundw
        case rel =>
          refine ⟨(pre ++ [(⟨skipS a r, none, 0⟩ : Pt)]) ++ [(⟨⟨r, t.2.1, true, t.1.1, t.1.2⟩, A1, c1⟩ : Pt)], b, W6, by simp, rfl, rfl, hbl, by simp; omega, ?_, HJ6.out, hb7, HK6.out.1.trans (hb7.mono hn6), (hb7.block Bn (Nat.lt_of_lt_of_le hlt HK6.out.1.size)).trans HK6.out.2⟩
          have e1 : frS xs r = ⟨r, t.2.1, true, t.1.1, t.1.2⟩ := by unfold frS; rw [HT.out]
          have e2 := HA.out.gap hgt hrl HNB.out HBG.out
          rw [e1, HT.out, HB.out] at e2
          change Ahead xs (List.map (fun x : Pt => x.s) _) b
          simpa using e2
        case measure => simp [intOf]; omega
      · obtain rfl : r = a := by omega
        clear hnr
        have hnn : ¬ (r : Int) < r := by omega
        gi_wp2_with fail
        refine ⟨trivial, ?_⟩
        gi_wp2_with fail
        refine ⟨fun _ h => (by cases h), ?_⟩
        have hnr : n₀ ≤ wr.heap.size := Nat.le_trans hn0 HK.out.1.size
        have hltc : Bn < wr.heap.size := Nat.lt_of_lt_of_le hlt HK.out.1.size
        gi_wp2_with fail
        refine ⟨trivial, ?_⟩
        refine (callsIn_wide.2 (FR.out _ HR.out)).mono ?_
        rintro e w4 ⟨A1, c1, rfl, hrow4, hb4⟩
        have hb5 := hb4.alloc (Nat.le_trans (Nat.le_refl _) hb4.size) (.cells #[.int .i64 r, .int .i64 t.2.1, .bool true, .int .i64 t.1.1, .slice A1 t.1.2.length c1] 41)
        have hrow5 := (hrow4.below ((Below.refl _ _).alloc (Nat.le_refl _) (.cells #[.int .i64 r, .int .i64 t.2.1, .bool true, .int .i64 t.1.1, .slice A1 t.1.2.length c1] 41))).more (Nat.le_of_lt (by simp : w4.heap.size < (w4.alloc (.cells #[.int .i64 r, .int .i64 t.2.1, .bool true, .int .i64 t.1.1, .slice A1 t.1.2.length c1] 41)).heap.size))
        obtain ⟨fn2, tmps2, assign2, body2, hy2, hR2⟩ := HY.out pre ⟨⟨r, t.2.1, true, t.1.1, t.1.2⟩, A1, c1⟩ W0 _ hJs (hk0.trans (hb5.mono hk0.size)) ⟨hrow5, hin⟩ (by omega)
        dsimp only [Pt.val] at hy2
        gi_wp2_with fail
        refine hR2.mono ?_
        rintro e W6 ⟨rfl, hJ6, hk6⟩
        have hz4 : W0.heap.size ≤ w4.heap.size := Nat.le_trans hk0.size hb4.size
        have hpart : Held W6 w4.heap.size 41 #[.int .i64 r, .int .i64 t.2.1, .bool true, .int .i64 t.1.1, .slice A1 t.1.2.length c1] := (hk6.2.2 w4.heap.size hz4 (by simp)).trans (heap_alloc_new w4 _)
        have hp1 := hpart.cell 1
        simp at hp1
        have HK6 : Hid (Below n₀ W W6 ∧ W6.heap[Bn]? = W.heap[Bn]?) := Lib.hid ⟨(HK.out.1.trans (hb5.mono hnr)).trans hk6.1, hk6.2.1.trans ((hb5.block Bn hltc).trans HK.out.2)⟩
        have HJ6 := Lib.hid hJ6
        clear hk6 hb5 hb4 hrow4 hrow5 hcb HR hy2 hR2 hpart hJ6
        have hcb : W6.cell? ⟨Bn, 0, none⟩ = some (.slice A xs.length c) := (World.cell?_of_block HK6.out.2).trans HBN.out
        have hn6 : n₀ ≤ W6.heap.size := Nat.le_trans hn0 HK6.out.1.size
        have HR6 := Lib.hid ((HROW.out.below HK6.out.1).more hn6)
        obtain ⟨b, hb⟩ : ∃ b : Nat, r + t.2.1 = b := ⟨_, rfl⟩
        have hbi : (r : Int) + t.2.1 = b := by omega
        have hbl : b ≤ xs.length := by omega
        have hbr : r + 9 ≤ b := by omega
        have HB := Lib.hid hb
        clear hb hin
        gi_wp2_with (refine ⟨trivial, ?_⟩; gi_at_call 7; refine (callsIn_wide.2 (NX.out _ HR6.out b hbl)).mono ?_; rintro e w7 ⟨rfl, hb7⟩)
        go_roundw
        case rel =>
          refine ⟨pre ++ [(⟨⟨r, t.2.1, true, t.1.1, t.1.2⟩, A1, c1⟩ : Pt)], b, W6, by simp, rfl, rfl, hbl, by simp; omega, ?_, HJ6.out, hb7, HK6.out.1.trans (hb7.mono hn6), (hb7.block Bn (Nat.lt_of_lt_of_le hlt HK6.out.1.size)).trans HK6.out.2⟩
          have e1 : frS xs r = ⟨r, t.2.1, true, t.1.1, t.1.2⟩ := by unfold frS; rw [HT.out]
          have e2 := HA.out.fr hrl HBG.out
          rw [e1, HT.out, HB.out] at e2
          change Ahead xs (List.map (fun x : Pt => x.s) _) b
          simpa using e2
        case measure => simp [intOf]; omega

/-- segs.parts: the bytes' slice is boxed; the function value has the box. -/
theorem parts_any (A : Option Addr) (n c : Nat) (w : World) :
    Calls Try.prog 35 #[.slice A n c] w fun e w' => e = .returned (.func (.func 55) #[] #[.pointer (some ⟨w.heap.size, 0, none⟩)]) ∧ w' = w.alloc (.cells #[.slice A n c] 22) := by
  go_enter Try.func35, Try.ntmps35
  go_wp2_with fail
  go_ret
  exact ⟨rfl, rfl⟩

/-- What may be ranged over hands on the parts. -/
theorem parts_hands (n : Nat) (hn : 1 ≤ n) (Bn n₀ : Nat) (A : Option Addr) (c : Nat) (xs : List Int) (hsm : xs.length ≤ 1000000000000) (hbx : ∀ x ∈ xs, 0 ≤ x ∧ x < 256) (w : World)
    (hBn : w.cell? ⟨Bn, 0, none⟩ = some (.slice A xs.length c)) (hlt : Bn < w.heap.size) (hn0 : n₀ ≤ w.heap.size) (hrow : Row w n₀ (.slice A xs.length c) xs) :
    Hands Fence.wide n Try.prog 55 #[.pointer (some ⟨Bn, 0, none⟩)] (fun x : Pt => #[x.val]) (PtOk xs) (KeepsB n₀ Bn) (fun ys => PartsS xs 0 (ys.map (·.s))) xs.length w := fun l J W hW hY h0 =>
  parts1_in n hn l Bn n₀ A c xs hsm hbx J W hY ((hW.cell (p := ⟨Bn, 0, none⟩) hlt).trans hBn) (Nat.lt_of_lt_of_le hlt hW.size) (Nat.le_trans hn0 hW.size) (hrow.below (hW.mono hn0)) h0
#print axioms parts_hands
end Go.Proofs.Ytfaedecfpnmnjaa
