/-
  What the theorem of WriteTakes rests on, part 10 of 11.
-/
import Derived.RangeFuncCalls
import Derived.Shelf.Abstract
import Derived.OwnWalkIn
import Derived.TacticsInMore
import Derived.LoopNIn
import Derived.LoopIn
import Derived.Lib.Hide
import Derived.Outline
import Derived.RegionIn
import Derived.Lib.MinMax
import Derived.Test.YtohibmjjhifggaaGreatWriteTakesZ9
namespace Go.Proofs.YtohibmjjhifggaaGreat
open Go.RowKit Go.Shelf
set_option linter.unusedVariables false
attribute [local go_sem] Oper.semAt_some
/-- Bytes that are handed on. -/
structure By where
  A : Option Addr
  c : Nat
  xs : List Int
abbrev By.val (b : By) : Value := .slice b.A b.xs.length b.c
def ByOk (x : By) (w : World) : Prop := Row w w.heap.size x.val x.xs ∧ x.xs.length ≤ 4200
/-- The frames that were not taken. -/
def framesL (sig : List Pr) (bg : Bool) (bs : List Bk) : List (List Int) := (if bg = true then [] else [(frameS sig).1]) ++ bs.map (fun b => frB sig b.ps)
/-- What a round keeps: what lies below n₀, and the blocks B1 and B2. -/
def KeepsF (n₀ B1 B2 m : Nat) (w w' : World) : Prop := Below n₀ w w' ∧ w'.heap[B1]? = w.heap[B1]? ∧ w'.heap[B2]? = w.heap[B2]?
theorem KeepsF.refl (n₀ B1 B2 m : Nat) (w : World) : KeepsF n₀ B1 B2 m w w := ⟨Below.refl _ _, rfl, rfl⟩
theorem KeepsF.trans {n₀ B1 B2 m m' m2 : Nat} {a b c : World} (h : KeepsF n₀ B1 B2 m a b) (k : KeepsF n₀ B1 B2 m' b c) : KeepsF n₀ B1 B2 m2 a c := ⟨h.1.trans k.1, k.2.1.trans h.2.1, k.2.2.trans h.2.2⟩
theorem KeepsF.below {n₀ B1 B2 m : Nat} {a b : World} (h : Below a.heap.size a b) (h0 : n₀ ≤ a.heap.size) (h1 : B1 < a.heap.size) (h2 : B2 < a.heap.size) : KeepsF n₀ B1 B2 m a b := ⟨h.mono h0, h.block _ h1, h.block _ h2⟩
theorem KeepsF.turn {n₀ B1 B2 : Nat} {w : World} (hn : n₀ ≤ w.heap.size) (h1 : B1 < w.heap.size) (h2 : B2 < w.heap.size) (m : Nat) (W : World) (l : Nat) (o o' : Obj) (hl : w.heap.size ≤ l) (hm : l < m) (h : W.heap[l]? = some o) (_ : o.isCells = false) : KeepsF n₀ B1 B2 m W (W.putObj l o') :=
  ⟨(Below.refl n₀ W).grown (grownBy_putObj' W l o') (by have := (Array.getElem?_eq_some_iff.1 h).1; omega) (fun k e => by cases e; omega), World.putObj_heap_other (by omega), World.putObj_heap_other (by omega)⟩
/-- A writer that is read: all of it lies below n₀. -/
structure WRd (w : World) (n₀ g : Nat) (A : Option Addr) (c : Nat) (ds : List Pd) (bg : Bool) (KA : Option Addr) (kc : Nat) (bs : List Bk) : Prop where
  glt : g < n₀
  c0 : w.cell? ⟨g, 0, none⟩ = some (.slice A ds.length c)
  c2 : w.cell? ⟨g, 2, none⟩ = some (.bool bg)
  c3 : w.cell? ⟨g, 3, none⟩ = some (.slice KA bs.length kc)
  sig : PredRow w n₀ (.slice A ds.length c) ds
  row : ERow w n₀ (.slice KA bs.length kc) bs.length (bkVs bs)
  pts : ∀ b ∈ bs, TrRow w n₀ b.val b.ps
theorem WRd.below {w w' : World} {n₀ g c kc : Nat} {A KA : Option Addr} {ds : List Pd} {bg : Bool} {bs : List Bk} (h : WRd w n₀ g A c ds bg KA kc bs) (hb : Below n₀ w w') : WRd w' n₀ g A c ds bg KA kc bs :=
  ⟨h.glt, (hb.cell (p := ⟨g, 0, none⟩) h.glt).trans h.c0, (hb.cell (p := ⟨g, 2, none⟩) h.glt).trans h.c2, (hb.cell (p := ⟨g, 3, none⟩) h.glt).trans h.c3, h.sig.below hb, h.row.below hb, fun b hb2 => (h.pts b hb2).below hb⟩
theorem WAt.rd {w : World} {n g c kc : Nat} {A KA : Option Addr} {ds : List Pd} {most : Int} {bg cl : Bool} {bs : List Bk} (h : WAt w n g A c ds most bg cl KA kc bs) : WRd w w.heap.size g A c ds bg KA kc bs :=
  ⟨h.held.lt, h.cells.1, h.cells.2.2.1, h.cells.2.2.2.1, h.sig.more h.size, ERow.of_own h.blk.1, fun b hb => (h.blk.2 b hb).row⟩
set_option maxRecDepth 100000 in
set_option maxHeartbeats 4000000 in
theorem frames1_in (n : Nat) (hn : 1 ≤ n) (l B1 B2 n₀ g : Nat) (A : Option Addr) (c : Nat) (ds : List Pd) (bg : Bool) (KA : Option Addr) (kc : Nat) (bs : List Bk) (k : Nat) (hk : k ≤ bs.length) (J : List By → World → Prop) (W : World)
    (hY : ∀ pre x W0 W1, J pre W0 → Below W0.heap.size W0 W1 → ByOk x W1 → pre.length < bs.length + 1 → YieldAt Fence.wide (n - 1) Tryz.prog l #[x.val] W1 fun e W' => e = .returned (.bool true) ∧ J (pre ++ [x]) W' ∧ KeepsF n₀ B1 B2 W0.heap.size W1 W')
    (h1 : W.cell? ⟨B1, 0, none⟩ = some (.pointer (some ⟨g, 0, none⟩))) (h2 : W.cell? ⟨B2, 0, none⟩ = some (.int .i64 k)) (hl1 : B1 < W.heap.size) (hl2 : B2 < W.heap.size) (hn0 : n₀ ≤ W.heap.size) (hw : WRd W n₀ g A c ds bg KA kc bs) (h0 : J [] W) :
    CallsIn Fence.wide n Tryz.prog 68 #[.func (.yield l) #[] #[], .pointer (some ⟨B1, 0, none⟩), .pointer (some ⟨B2, 0, none⟩)] W fun e W' => (∃ v, e = .returned v) ∧ ∃ (ys : List By) (W0 : World), ys.map (·.xs) = framesL (ds.map (·.p)) bg (bs.take k) ∧ J ys W0 ∧ Below W0.heap.size W0 W' := by
  refine callsIn_of_wp Tryz.func68 rfl trivial ?_ rfl
  simp only [Tryz.ntmps68, List.size_toArray, List.length_cons, List.length_nil, Nat.reduceAdd, Nat.reduceSub, Array.replicate_succ, Array.replicate_zero, List.push_toArray, List.append_toArray, List.nil_append, List.cons_append]
  have HY := Lib.hid hY
  have HW := Lib.hid hw
  have H1 := Lib.hid h1
  have H2 := Lib.hid h2
  have c0 := hw.c0
  have c2 := hw.c2
  have c3 := hw.c3
  have hglt := hw.glt
  obtain ⟨-, kl1, kl2⟩ := hw.row.len
  have SF := Lib.hid (fun V (hb : Below n₀ W V) => sbframe_any A c ds V ((hw.sig.below hb).more (Nat.le_trans hn0 hb.size)))
  have BF := Lib.hid (fun V (hb : Below n₀ W V) (b : Bk) (hm : b ∈ bs) => bframe_any A c ds b.A b.c b.ps V ((hw.sig.below hb).more (Nat.le_trans hn0 hb.size)) (((hw.pts b hm).below hb).more (Nat.le_trans hn0 hb.size)))
  clear hY hw
  cases bg with
  | true =>
    have HKP := Lib.hid (KeepsF.refl n₀ B1 B2 0 W)
    obtain ⟨P0, hP0⟩ : ∃ P0 : List By, P0 = [] := ⟨_, rfl⟩
    have HPRE : Hid (P0.map (·.xs) = framesL (ds.map (·.p)) true (bs.take 0)) := Lib.hid (by rw [hP0]; rfl)
    have hpl : P0.length ≤ 1 := by rw [hP0]; exact Nat.zero_le _
    rw [← hP0] at h0
    have hJV := h0
    gi_wp2_with fail
    obtain ⟨V, hV⟩ : ∃ V, W = V := ⟨_, rfl⟩
    have hv1 : B1 < V.heap.size := by rw [← hV]; exact hl1
    have hv2 : B2 < V.heap.size := by rw [← hV]; exact hl2
    replace HKP : Hid (KeepsF n₀ B1 B2 0 W V) := by rw [← hV]; exact HKP
    rw [hV] at hJV
    conv => arg 7; rw [hV]
    clear c0 c2 c3 hP0
    have hrn : n₀ ≤ V.heap.size := Nat.le_trans hn0 HKP.out.1.size
    have v1 : V.cell? ⟨B1, 0, none⟩ = some (.pointer (some ⟨g, 0, none⟩)) := (World.cell?_of_block HKP.out.2.1).trans H1.out
    have v2 : V.cell? ⟨B2, 0, none⟩ = some (.int .i64 k) := (World.cell?_of_block HKP.out.2.2).trans H2.out
    have v3 := (HW.out.below HKP.out.1).c3
    have hkc : k ≤ kc := Nat.le_trans hk kl1
    have e1 : ¬ ((k : Int) < 0) := by omega
    have e2 : (0 : Int) ≤ k := by omega
    gi_wp2
    gi_region
    all_goals (
    gi_wp2
    gi_loopw [34] (fun iv wr => ∃ (j : Nat) (pre : List By) (W0 : World), iv = .int .i64 j ∧ j ≤ k ∧ pre.length ≤ j + 1 ∧ Hid (pre.map (·.xs) = framesL (ds.map (·.p)) true (bs.take j)) ∧ J pre W0 ∧ Below W0.heap.size W0 wr ∧ Hid (KeepsF n₀ B1 B2 0 W wr)) (fun iv _ => k - (intOf iv).toNat)
    case atStart => exact ⟨0, P0, V, rfl, Nat.zero_le _, by omega, HPRE, hJV, (Below.refl _ _).drew, Lib.hid (HKP.out.trans (KeepsF.below (m := 0) (Below.refl _ _).drew hrn hv1 hv2))⟩
    case round =>
      obtain ⟨j, pre, W0, rfl, hj, hpl2, HPR, hJs, hk0, HK⟩ := hrel
      have hr1 : wr.cell? ⟨B1, 0, none⟩ = some (.pointer (some ⟨g, 0, none⟩)) := (World.cell?_of_block HK.out.2.1).trans H1.out
      have HWR := Lib.hid (HW.out.below HK.out.1)
      have r0 := HWR.out.c0
      have hnr : n₀ ≤ wr.heap.size := Nat.le_trans hn0 HK.out.1.size
      by_cases hlt : j < k
      · obtain ⟨b, hb⟩ : ∃ b, bs[j]? = some b := ⟨_, List.getElem?_eq_getElem (by omega)⟩
        have hmem := List.mem_of_getElem? hb
        have hkz : 0 < bs.length := by omega
        obtain ⟨q, o, rfl, hq, hcell⟩ := HWR.out.row.block hkz
        have x0 := hcell j _ (bkVs_at hb)
        have HBF := Lib.hid (BF.out wr HK.out.1 b hmem)
        have HTK := Lib.hid (show bs.take (j + 1) = bs.take j ++ [b] by rw [List.take_add_one, hb]; rfl)
        have hpre : pre.length < bs.length + 1 := by omega
        clear hb hmem hcell
        gi_wp2_with (refine ⟨trivial, ?_⟩; gi_at_call 70; refine (callsIn_wide.2 HBF.out).mono ?_; rintro e w4 ⟨A4, c4, rfl, hown4, hb4⟩; obtain ⟨fn, tmps, assign, body, hy, hR⟩ := HY.out pre ⟨A4, c4, (frameB (ds.map (·.p)) b.ps).1⟩ W0 w4 hJs (hk0.trans (hb4.mono hk0.size)) ⟨Row.of_own hown4, frB_length _ _⟩ hpre; dsimp only [By.val] at hy)
        refine hR.mono ?_
        rintro e W6 ⟨rfl, hJ6, hk6⟩
        have HK6 := Lib.hid ((HK.out.trans (m2 := 0) (KeepsF.below (m := 0) hb4 hnr (Nat.lt_of_lt_of_le hl1 HK.out.1.size) (Nat.lt_of_lt_of_le hl2 HK.out.1.size))).trans (m2 := 0) hk6)
        have HJ6 := Lib.hid hJ6
        clear hy hR hown4 hb4 hk6 hJ6
        gi_wp2
        go_roundw
        case rel =>
          refine ⟨j + 1, pre ++ [⟨A4, c4, (frameB (ds.map (·.p)) b.ps).1⟩], W6, by go_num, by omega, by simp; omega, Lib.hid ?_, HJ6.out, Below.refl _ _, HK6⟩
          rw [List.map_append, HPR.out, HTK.out]
          unfold framesL
          rw [List.map_append, List.append_assoc]
          rfl
        case measure => simp [intOf]; omega
      · obtain rfl : j = k := by omega
        gi_wp2
        go_end0
        exact ⟨⟨_, rfl⟩, pre, W0, HPR.out, hJs, hk0⟩)
  | false =>
    gi_wp2_with (refine ⟨trivial, ?_⟩; gi_at_call 69; refine (callsIn_wide.2 (SF.out W (Below.refl _ _))).mono ?_; rintro e w1 ⟨A1, c1, rfl, hown, hb1⟩; obtain ⟨fn, tmps, assign, body, hy, hR⟩ := HY.out [] ⟨A1, c1, (frameS (ds.map (·.p))).1⟩ W w1 h0 hb1 ⟨Row.of_own hown, frameS_length _⟩ (Nat.succ_pos _); dsimp only [By.val] at hy)
    refine hR.mono ?_
    rintro e V ⟨rfl, hJV, hk3⟩
    have HKP := Lib.hid ((KeepsF.below (m := 0) hb1 hn0 hl1 hl2).trans (m2 := 0) hk3)
    obtain ⟨P0, hP0⟩ : ∃ P0 : List By, P0 = [] ++ [⟨A1, c1, (frameS (ds.map (·.p))).1⟩] := ⟨_, rfl⟩
    rw [← hP0] at hJV
    have HPRE : Hid (P0.map (·.xs) = framesL (ds.map (·.p)) false (bs.take 0)) := Lib.hid (by rw [hP0]; rfl)
    have hpl : P0.length ≤ 1 := by rw [hP0]; simp
    have hv1 : B1 < V.heap.size := Nat.lt_of_lt_of_le hl1 HKP.out.1.size
    have hv2 : B2 < V.heap.size := Nat.lt_of_lt_of_le hl2 HKP.out.1.size
    clear hy hR hown hb1 hk3 c0 c2 c3 h0 hP0
    have hrn : n₀ ≤ V.heap.size := Nat.le_trans hn0 HKP.out.1.size
    have v1 : V.cell? ⟨B1, 0, none⟩ = some (.pointer (some ⟨g, 0, none⟩)) := (World.cell?_of_block HKP.out.2.1).trans H1.out
    have v2 : V.cell? ⟨B2, 0, none⟩ = some (.int .i64 k) := (World.cell?_of_block HKP.out.2.2).trans H2.out
    have v3 := (HW.out.below HKP.out.1).c3
    have hkc : k ≤ kc := Nat.le_trans hk kl1
    have e1 : ¬ ((k : Int) < 0) := by omega
    have e2 : (0 : Int) ≤ k := by omega
    gi_wp2
    gi_region
    all_goals (
    gi_wp2
    gi_loopw [34] (fun iv wr => ∃ (j : Nat) (pre : List By) (W0 : World), iv = .int .i64 j ∧ j ≤ k ∧ pre.length ≤ j + 1 ∧ Hid (pre.map (·.xs) = framesL (ds.map (·.p)) false (bs.take j)) ∧ J pre W0 ∧ Below W0.heap.size W0 wr ∧ Hid (KeepsF n₀ B1 B2 0 W wr)) (fun iv _ => k - (intOf iv).toNat)
    case atStart => exact ⟨0, P0, V, rfl, Nat.zero_le _, by omega, HPRE, hJV, (Below.refl _ _).drew, Lib.hid (HKP.out.trans (KeepsF.below (m := 0) (Below.refl _ _).drew hrn hv1 hv2))⟩
    case round =>
      obtain ⟨j, pre, W0, rfl, hj, hpl2, HPR, hJs, hk0, HK⟩ := hrel
      have hr1 : wr.cell? ⟨B1, 0, none⟩ = some (.pointer (some ⟨g, 0, none⟩)) := (World.cell?_of_block HK.out.2.1).trans H1.out
      have HWR := Lib.hid (HW.out.below HK.out.1)
      have r0 := HWR.out.c0
      have hnr : n₀ ≤ wr.heap.size := Nat.le_trans hn0 HK.out.1.size
      by_cases hlt : j < k
      · obtain ⟨b, hb⟩ : ∃ b, bs[j]? = some b := ⟨_, List.getElem?_eq_getElem (by omega)⟩
        have hmem := List.mem_of_getElem? hb
        have hkz : 0 < bs.length := by omega
        obtain ⟨q, o, rfl, hq, hcell⟩ := HWR.out.row.block hkz
        have x0 := hcell j _ (bkVs_at hb)
        have HBF := Lib.hid (BF.out wr HK.out.1 b hmem)
        have HTK := Lib.hid (show bs.take (j + 1) = bs.take j ++ [b] by rw [List.take_add_one, hb]; rfl)
        have hpre : pre.length < bs.length + 1 := by omega
        clear hb hmem hcell
        gi_wp2_with (refine ⟨trivial, ?_⟩; gi_at_call 70; refine (callsIn_wide.2 HBF.out).mono ?_; rintro e w4 ⟨A4, c4, rfl, hown4, hb4⟩; obtain ⟨fn, tmps, assign, body, hy, hR⟩ := HY.out pre ⟨A4, c4, (frameB (ds.map (·.p)) b.ps).1⟩ W0 w4 hJs (hk0.trans (hb4.mono hk0.size)) ⟨Row.of_own hown4, frB_length _ _⟩ hpre; dsimp only [By.val] at hy)
        refine hR.mono ?_
        rintro e W6 ⟨rfl, hJ6, hk6⟩
        have HK6 := Lib.hid ((HK.out.trans (m2 := 0) (KeepsF.below (m := 0) hb4 hnr (Nat.lt_of_lt_of_le hl1 HK.out.1.size) (Nat.lt_of_lt_of_le hl2 HK.out.1.size))).trans (m2 := 0) hk6)
        have HJ6 := Lib.hid hJ6
        clear hy hR hown4 hb4 hk6 hJ6
        gi_wp2
        go_roundw
        case rel =>
          refine ⟨j + 1, pre ++ [⟨A4, c4, (frameB (ds.map (·.p)) b.ps).1⟩], W6, by go_num, by omega, by simp; omega, Lib.hid ?_, HJ6.out, Below.refl _ _, HK6⟩
          rw [List.map_append, HPR.out, HTK.out]
          unfold framesL
          rw [List.map_append, List.append_assoc]
          rfl
        case measure => simp [intOf]; omega
      · obtain rfl : j = k := by omega
        gi_wp2
        go_end0
        exact ⟨⟨_, rfl⟩, pre, W0, HPR.out, hJs, hk0⟩)
end Go.Proofs.YtohibmjjhifggaaGreat

namespace Go.Proofs.YtohibmjjhifggaaGreat
open Go.RowKit Go.Shelf
set_option linter.unusedVariables false
attribute [local go_sem] Oper.semAt_some
theorem frames_hands (n : Nat) (hn : 1 ≤ n) (B1 B2 n₀ g : Nat) (A : Option Addr) (c : Nat) (ds : List Pd) (bg : Bool) (KA : Option Addr) (kc : Nat) (bs : List Bk) (k : Nat) (hk : k ≤ bs.length) (w : World)
    (h1 : w.cell? ⟨B1, 0, none⟩ = some (.pointer (some ⟨g, 0, none⟩))) (h2 : w.cell? ⟨B2, 0, none⟩ = some (.int .i64 k)) (hl1 : B1 < w.heap.size) (hl2 : B2 < w.heap.size) (hn0 : n₀ ≤ w.heap.size) (hw : WRd w n₀ g A c ds bg KA kc bs) :
    Hands Fence.wide n Tryz.prog 68 #[.pointer (some ⟨B1, 0, none⟩), .pointer (some ⟨B2, 0, none⟩)] (fun x : By => #[x.val]) ByOk (KeepsF n₀ B1 B2) (fun ys => ys.map (·.xs) = framesL (ds.map (·.p)) bg (bs.take k)) (bs.length + 1) w := fun l J W hW hY h0 =>
  frames1_in n hn l B1 B2 n₀ g A c ds bg KA kc bs k hk J W hY ((hW.cell (p := ⟨B1, 0, none⟩) hl1).trans h1) ((hW.cell (p := ⟨B2, 0, none⟩) hl2).trans h2) (Nat.lt_of_lt_of_le hl1 hW.size) (Nat.lt_of_lt_of_le hl2 hW.size) (Nat.le_trans hn0 hW.size) (hw.below (hW.mono hn0)) h0
/-- Between two rounds: what was handed on, one behind the other, in a box. -/
def TkI (w : World) (N0 : Nat) (p q : Value) (pre : List By) (W : World) : Prop :=
  (∃ v, Boxed W N0 38 v ∧ W.ownsRow N0 5 1 v (pre.map (·.xs)).flatten.length ((pre.map (·.xs)).flatten.map (.int .u8)) ∧ (pre.map (·.xs)).flatten.length ≤ 4200 * pre.length) ∧ Below N0 w W ∧ Boxed W (N0 + 1) 27 p ∧ Boxed W (N0 + 2) 3 q
def TkA (w : World) (N0 : Nat) (p q : Value) (fr : By → Act) (m : Nat) (pre : List By) (x : By) (a : Act) (W : World) : Prop := a = fr x ∧ TkI w N0 p q pre W ∧ ByOk x W
section
variable {w w' : World} {N0 b m : Nat} {p q : Value} {fr : By → Act} {pre : List By} {x : By}
theorem row_turned {row : Option Nat} {v : Value} {xs : List Int} (h : Row w w.heap.size v xs) (hg : w.grownBy w' row) (hr : ∀ r, row = some r → ∃ o : Obj, w.heap[r]? = some o ∧ o.isCells = false) : Row w' w'.heap.size v xs := by
  obtain ⟨A, c, rfl, h1, h2, h3, h4⟩ := h
  refine ⟨A, c, rfl, h1, h2, h3, fun h0 => ?_⟩
  obtain ⟨b, o, e, hb, hc⟩ := h4 h0
  refine ⟨b, o, e, Nat.lt_of_lt_of_le hb hg.size, fun i hi => hg.cell (hc i hi) fun e2 => ?_⟩
  obtain ⟨ob, h5, h6⟩ := hr b e2.symm
  have h7 := hc i hi
  simp only [World.cell?, h5] at h7
  cases ob <;> simp_all [Obj.isCells]
theorem tkI_own (hn : N0 ≤ w.heap.size) (hb : N0 ≤ b) : OwnFrom b (TkI w N0 p q) :=
  ((holdsRow_own N0 N0 38 5 1 (fun pre : List By => (pre.map (·.xs)).flatten.length) (fun pre => (pre.map (·.xs)).flatten.map (.int .u8)) (fun pre _ => (pre.map (·.xs)).flatten.length ≤ 4200 * pre.length)).from b).and
    ((ownFrom_below hn hb).and (((boxed_own (N0 + 1) 27 (fun _ => p)).from b).and ((boxed_own (N0 + 2) 3 (fun _ => q)).from b)))
theorem tkA_own {a : Act} (hn : N0 ≤ w.heap.size) (hb : N0 ≤ b) : OwnFrom b (fun (_ : Unit) W => TkA w N0 p q fr m pre x a W) := by
  rintro _ X Y row ⟨e, h1, h2, h3⟩ hg hr
  exact ⟨e, tkI_own hn hb pre X Y row h1 hg hr, row_turned h2 hg (fun r e => (hr r e).2), h3⟩
/-- What a round leaves. -/
theorem tk_round {W w1 : World} {v v' : Value} (hn : N0 ≤ w.heap.size) (hv : Boxed W N0 38 v) (ho : W.ownsRow N0 5 1 v (pre.map (·.xs)).flatten.length ((pre.map (·.xs)).flatten.map (.int .u8))) (hl : (pre.map (·.xs)).flatten.length ≤ 4200 * pre.length) (hb : Below N0 w W) (h1 : Boxed W (N0 + 1) 27 p) (h2 : Boxed W (N0 + 2) 3 q) (hx : x.xs.length ≤ 4200)
    (ho' : w1.ownsRow N0 5 1 v' ((pre.map (·.xs)).flatten.length + x.xs.length) ((pre.map (·.xs)).flatten.map (.int .u8) ++ x.xs.map (.int .u8))) (hg : W.grownBy w1 v.ownBlock) :
    Boxed w1 N0 38 v ∧ KeepsFrom b W (w1.setCell ⟨N0, 0, none⟩ v') ∧ KeepsF N0 (N0 + 1) (N0 + 2) m W (w1.setCell ⟨N0, 0, none⟩ v') ∧ TkI w N0 p q (pre ++ [x]) (w1.setCell ⟨N0, 0, none⟩ v') := by
  have hnW : N0 ≤ W.heap.size := Nat.le_trans hn hb.size
  have e1 : 38 ≠ 5 := by decide
  have e2 : 27 ≠ 5 := by decide
  have e3 : 3 ≠ 5 := by decide
  obtain ⟨g1, g2, g3, g4⟩ := boxed_grown hv e1 ho hnW (Nat.le_refl _) ho' hg
  have k1 : Boxed w1 (N0 + 1) 27 p := h1.kept hg (h1.not_row e2 ho)
  have k2 : Boxed w1 (N0 + 2) 3 q := h2.kept hg (h2.not_row e3 ho)
  have k3 : Boxed (w1.setCell ⟨N0, 0, none⟩ v') (N0 + 1) 27 p := k1.other (by omega) v'
  have k4 : Boxed (w1.setCell ⟨N0, 0, none⟩ v') (N0 + 2) 3 q := k2.other (by omega) v'
  have hfl : ((pre ++ [x]).map (·.xs)).flatten = (pre.map (·.xs)).flatten ++ x.xs := by simp
  refine ⟨g1, ?_, ⟨g4, k3.trans (show W.heap[N0 + 1]? = _ from h1).symm, k4.trans (show W.heap[N0 + 2]? = _ from h2).symm⟩, ⟨v', g2, ?_, ?_⟩, hb.trans g4, k3, k4⟩
  · refine ((KeepsOthers.of_grownBy hg fun j o ej hj => ?_).trans (KeepsOthers.setCell _ _ _)).from _
    rcases ho.2 with ⟨rfl, _⟩ | ⟨gg, cap, cur, rfl, _, hgb, _⟩
    · simp [Value.ownBlock] at ej
    · obtain rfl : gg = j := by simpa [Value.ownBlock] using ej
      rw [hgb] at hj
      cases hj
      rfl
  · rw [hfl, List.length_append, List.map_append]; exact g3
  · rw [hfl, List.length_append, List.length_append, List.length_singleton]; omega
end
section
variable {w w' : World} {n g c kc : Nat} {A KA : Option Addr} {ds : List Pd} {most : Int} {bg cl : Bool} {bs : List Bk}
theorem PartN.cut {S : Nat → Prop} (h : PartN (fun j => S j ∨ w.heap.size ≤ j) w w') : PartN S w w' := ⟨h.os, h.tape, h.output, h.size, fun i hi hn => h.block i hi (fun e => e.elim hn (fun e => by omega))⟩
theorem bkVs_drop (k : Nat) : bkVs (bs.drop k) = (bkVs bs).drop k := by unfold bkVs; rw [List.map_drop]
/-- The writer has begun. -/
theorem WAt.begun (h : WAt w n g A c ds most bg cl KA kc bs) : WAt (w.setCell ⟨g, 2, none⟩ (.bool true)) n g A c ds most true cl KA kc bs := by
  have hg := grown_put w g 2 (.bool true)
  refine ⟨h.held.put 2 _, h.low, h.sig.below ((Below.refl n w).grown hg h.size (fun j e => by injection e with e; have := h.low; omega)), h.blk.nott (NotT.of_held h.held tne7) (NotT.of_held h.held tne8) (NotT.of_held h.held tne10) (fun b hb => (NotT.of_held h.held tne9).ne (h.blk.2 b hb).1) hg, h.dif⟩
/-- Some of its blocks are left, in a row of their own. -/
theorem WAt.left {k n' kc' : Nat} {KA' : Option Addr} (h : WAt w n g A c ds most bg cl KA kc bs) (ho : w.ownsRow n' 23 1 (.slice KA' (bs.drop k).length kc') (bs.drop k).length (bkVs (bs.drop k))) (hn : n ≤ n') :
    WAt (w.setCell ⟨g, 3, none⟩ (.slice KA' (bs.drop k).length kc')) n g A c ds most bg cl KA' kc' (bs.drop k) := by
  have hg := grown_put w g 3 (.slice KA' (bs.drop k).length kc')
  have m4 := NotT.of_held h.held tne10
  refine ⟨h.held.put 3 _, h.low, h.sig.below ((Below.refl n w).grown hg h.size (fun j e => by injection e with e; have := h.low; omega)), ⟨own_nott (own_base ho hn) m4 hg, fun b hb => ?_⟩, fun i j x y q hi hj hij => ?_⟩
  · have hb2 := h.blk.2 b (List.mem_of_mem_drop hb)
    exact hb2.nott (NotT.of_held h.held tne7) (NotT.of_held h.held tne8) ((NotT.of_held h.held tne9).ne hb2.1) hg
  · rw [List.getElem?_drop] at hi hj
    exact h.dif (k + i) (k + j) x y q hi hj (by omega)
/-- A record that is no cells is turned. -/
theorem WAt.turned {D : Nat} {o o' : Obj} (h : WAt w n g A c ds most bg cl KA kc bs) (hD : w.heap[D]? = some o) (ho : o.isCells = false) (hn : n ≤ D) : WAt (w.putObj D o') n g A c ds most bg cl KA kc bs := by
  have hg := grownBy_putObj' w D o'
  have hne : ∀ e, NotT w (some D) e := by
    rintro e j c f hj hh
    injection hj with hj
    subst hj
    rw [hD] at hh
    injection hh with hh
    rw [hh] at ho
    cases ho
  have hgd : some g ≠ some D := by
    intro e
    injection e with e
    subst e
    have := h.held
    unfold Held at this
    rw [hD] at this
    injection this with this
    rw [this] at ho
    cases ho
  exact ⟨h.held.grown hg hgd, h.low, h.sig.below ((Below.refl n w).grown hg h.size (fun j e => by injection e with e; omega)), h.blk.nott (hne _) (hne _) (hne _) (fun b hb => (hne _).ne (h.blk.2 b hb).1) hg, h.dif⟩
/-- The blocks from one on. -/
theorem drop_row {B k : Nat} (h : ERow w B (.slice KA bs.length kc) bs.length (bkVs bs)) (hk : k ≤ bs.length) :
    (kc = k → ERow w B (.slice KA 0 0) (bs.drop k).length (bkVs (bs.drop k)) ∧ (bs.drop k).length = 0) ∧ (kc ≠ k → ERow w B (.slice (KA.map (fun x => x.add k)) (bs.length - k) (kc - k)) (bs.length - k) (bkVs (bs.drop k))) := by
  obtain ⟨A1, c1, hv, h1, h2, h3, h4⟩ := h
  injection hv with e1 e2 e3
  subst e1 e3
  refine ⟨fun e => ?_, fun e => ⟨_, _, rfl, by omega, by omega, fun e2 => ?_, fun h0 => ?_⟩⟩
  · have h0 : (bs.drop k).length = 0 := by rw [List.length_drop]; omega
    rw [h0]
    exact ⟨⟨KA, 0, rfl, Nat.le_refl _, Nat.zero_le _, fun _ => rfl, fun h => absurd h (by omega)⟩, rfl⟩
  · cases KA with
    | none => have := h3 rfl; omega
    | some a => cases e2
  · obtain ⟨b, o, rfl, hb, hc⟩ := h4 (by omega)
    refine ⟨b, o + k, by rw [Option.map_some, Go.WideShapes.add_plain], hb, fun i u hi => ?_⟩
    rw [bkVs_drop, List.getElem?_drop] at hi
    have := hc _ u hi
    rwa [← Nat.add_assoc] at this
end
def takeX (sig : List Pr) (bg : Bool) (bs : List Bk) : List Int := (framesL sig bg bs).flatten
def TakeGot (w : World) (n g : Nat) (A : Option Addr) (c : Nat) (ds : List Pd) (most : Int) (bg cl : Bool) (bs : List Bk) (k : Nat) (e : Ending) (w' : World) : Prop :=
  (∃ TA tc, e = .returned (.slice TA (takeX (ds.map (·.p)) bg (bs.take k)).length tc) ∧ w'.ownsRow w.heap.size 5 1 (.slice TA (takeX (ds.map (·.p)) bg (bs.take k)).length tc) (takeX (ds.map (·.p)) bg (bs.take k)).length ((takeX (ds.map (·.p)) bg (bs.take k)).map (.int .u8))) ∧
    (∃ KA' kc', WAt w' n g A c ds most true cl KA' kc' (bs.drop k) ∧ ∀ j, ob KA' = some j → w.heap.size ≤ j) ∧ PartN (fun j => j = g) w w'
set_option maxRecDepth 100000 in
set_option maxHeartbeats 4000000 in
theorem wtake_any {w : World} {n g c kc : Nat} {A KA : Option Addr} {ds : List Pd} {most : Int} {bg cl : Bool} {bs : List Bk} (h : WAt w n g A c ds most bg cl KA kc bs) (k : Nat) (hk : k ≤ bs.length) (hM : bs.length ≤ 1000000000) :
    Calls Tryz.prog 29 #[.pointer (some ⟨g, 0, none⟩), .int .i64 k] w (TakeGot w n g A c ds most bg cl bs k) := by
  obtain ⟨i8, hi8, hb0, hb1, hb2⟩ := info_parts Tryz.infoU8
  obtain ⟨N0, hN0⟩ : ∃ N0, w.heap.size = N0 := ⟨_, rfl⟩
  obtain ⟨w2, hw2⟩ : ∃ w2, ((w.alloc (.cells #[.slice none 0 0] 38)).alloc (.cells #[.pointer (some ⟨g, 0, none⟩)] 27)).alloc (.cells #[.int .i64 k] 3) = w2 := ⟨_, rfl⟩
  have s2 : w2.heap.size = N0 + 3 := by rw [← hw2]; simp [hN0]
  have b2 : Below N0 w w2 := by rw [← hw2, ← hN0]; exact (((Below.refl _ _).alloc (Nat.le_refl _) _).alloc (by simp) _).alloc (by simp; omega) _
  have v0 : Boxed w2 N0 38 (.slice none 0 0) := by rw [← hw2, ← hN0]; exact ((Boxed.new w 38 (.slice none 0 0)).alloc _).alloc _
  have v1 : Boxed w2 (N0 + 1) 27 (.pointer (some ⟨g, 0, none⟩)) := by
    have := (Boxed.new (w.alloc (.cells #[.slice none 0 0] 38)) 27 (.pointer (some ⟨g, 0, none⟩))).alloc (.cells #[.int .i64 k] 3)
    rw [World.size_alloc, hN0] at this
    rw [← hw2]
    exact this
  have v2 : Boxed w2 (N0 + 2) 3 (.int .i64 k) := by
    have := Boxed.new ((w.alloc (.cells #[.slice none 0 0] 38)).alloc (.cells #[.pointer (some ⟨g, 0, none⟩)] 27)) 3 (.int .i64 k)
    rw [World.size_alloc, World.size_alloc, hN0] at this
    rw [← hw2]
    exact this
  have hrd : WRd w2 N0 g A c ds bg KA kc bs := by rw [← hN0]; exact h.rd.below (by rw [hN0]; exact b2)
  have hglt : g < N0 := by rw [← hN0]; exact h.held.lt
  have HW := Lib.hid h
  have HM := Lib.hid hM
  refine (callsIn_wide (n := 5)).1 ?_
  refine callsIn_of_wp_marks Tryz.func29 rfl trivial ?_ rfl
  simp only [Tryz.ntmps29, List.size_toArray, List.length_cons, List.length_nil, Nat.reduceAdd, Nat.reduceSub, Array.replicate_succ, Array.replicate_zero, List.push_toArray, List.append_toArray, List.nil_append, List.cons_append]
  clear h hM
  gi_wp2_with (refine ⟨trivial, ?_⟩; gi_at_call 47; refine (callsIn_wide.2 (wframes_any _ _ _)).mono ?_; rintro e w3 ⟨rfl, rfl⟩)
  have hii : TkI w N0 (.pointer (some ⟨g, 0, none⟩)) (.int .i64 k) [] w2 := ⟨⟨_, v0, World.ownsRow_nil _ _ _ _, Nat.le_refl _⟩, b2, v1, v2⟩
  refine range_told rfl (by omega) (gf := 68) (lb := #[.pointer (some ⟨N0 + 1, 0, none⟩), .pointer (some ⟨N0 + 2, 0, none⟩)]) rfl trivial (enters_of Tryz.func68 (by kernel_rfl) rfl)
    (frames_hands (5 - 1) (by omega) (N0 + 1) (N0 + 2) N0 g A c ds bg KA kc bs k hk w2 v1.cell v2.cell (by omega) (by omega) (by omega) hrd) (fun _ => rfl) (fun h k => h.trans k) (fun m W l o o' hl hm h hc => KeepsF.turn (w := w2) (by omega) (by omega) (by omega) m W l o o' hl hm h hc)
    (TkI w N0 (.pointer (some ⟨g, 0, none⟩)) (.int .i64 k)) (tkI_own (by omega) (by omega)) hii
    (TkA w N0 (.pointer (some ⟨g, 0, none⟩)) (.int .i64 k) (fun x => { tmps := #[.pointer (some ⟨g, 0, none⟩), .int .i64 k, undef, undef, .slice none 0 0, .pointer (some ⟨N0, 0, none⟩), x.val, .pointer (some ⟨g, 0, none⟩), .int .i64 k, .func (.func 68) #[] #[.pointer (some ⟨N0 + 1, 0, none⟩), .pointer (some ⟨N0 + 2, 0, none⟩)], x.val, undef, undef, undef, undef, undef, undef, undef, undef, undef, undef, undef, undef, undef, undef, undef, undef, undef], defers := [] }))
    (fun m pre x a' => tkA_own (by omega) (by omega)) ?take ?body ?done
  case take =>
    rintro l pre x W0 W K hI hb hR _ hK
    have hI2 : TkI w N0 (.pointer (some ⟨g, 0, none⟩)) (.int .i64 k) pre W := ownFrom_below' (tkI_own (b := w2.heap.size) (by omega) (by omega)) hI hb
    have HK := Lib.hid (hK { tmps := #[.pointer (some ⟨g, 0, none⟩), .int .i64 k, undef, undef, .slice none 0 0, .pointer (some ⟨N0, 0, none⟩), x.val, .pointer (some ⟨g, 0, none⟩), .int .i64 k, .func (.func 68) #[] #[.pointer (some ⟨N0 + 1, 0, none⟩), .pointer (some ⟨N0 + 2, 0, none⟩)], x.val, undef, undef, undef, undef, undef, undef, undef, undef, undef, undef, undef, undef, undef, undef, undef, undef, undef], defers := [] } W ((KeepsOthers.refl _).from _) (KeepsF.refl _ _ _ _ _) ⟨rfl, hI2, hR⟩)
    clear hK hI hb hR hI2 hrd
    gi_wp2
    exact HK.out
  case body =>
    rintro l m pre x a' W ⟨rfl, ⟨⟨v, hv, ho, hl⟩, hb, h1, h2⟩, hx, hxl⟩ hlen
    have hR := fun v' w1 ho' hg => tk_round (b := N0 + 3) (m := m) (v' := v') (w1 := w1) (x := x) (by omega) hv ho hl hb h1 h2 hxl ho' hg
    obtain ⟨XL, hXL⟩ : ∃ XL, (pre.map (·.xs)).flatten.length = XL := ⟨_, rfl⟩
    rw [hXL] at hR ho hl
    clear hXL
    have HR := Lib.hid hR
    have HO := Lib.hid ho
    have HX := Lib.hid hx
    have HL := Lib.hid hl
    have HXL := Lib.hid hxl
    have hnW : N0 ≤ W.heap.size := Nat.le_trans (by omega) hb.size
    have hcB := hv.cell
    have HLEN := Lib.hid hlen
    clear hR ho hx hl hxl hb h1 h2 hv hrd hii hlen
    gi_wp2_with (gi_at_builtin; refine wpListIn_append_row _ rfl _ _ 38 rfl N0 5 i8 _ Tryz.underlying38 hi8 hb0 hb1 hb2 rfl v _ _ rfl HO.out _ _ x.xs rfl HX.out (by have := HL.out; have := HXL.out; have := HLEN.out; have := HM.out; omega) hnW ?_
                 intro v' w1 ho1 hg1 _; obtain ⟨q1, q2, q3, q4⟩ := HR.out v' w1 ho1 hg1
                 obtain ⟨A1, c1, ev⟩ := own_form ho1
                 subst ev
                 have hc1' := q1.cell; have hf1' := q1.frozen; have HKF := Lib.hid q2; have HKP := Lib.hid q3; have HBT := Lib.hid q4; clear ho1 hg1 q1 q2 q3 q4)
    exact ⟨by rw [s2]; exact HKF.out, HKP.out, HBT.out⟩
  case done =>
    rintro D ys W hD hS ⟨⟨v, hv, ho, hl⟩, hbe, h1, h2⟩ hK
    obtain ⟨X, hX⟩ : ∃ X, (ys.map (·.xs)).flatten = X := ⟨_, rfl⟩
    have HXE := Lib.hid (show X = takeX (ds.map (·.p)) bg (bs.take k) by rw [← hX, hS]; rfl)
    rw [hX] at ho
    have HWW := Lib.hid (HW.out.below (by rw [hN0]; exact hbe))
    have HBE := Lib.hid hbe
    obtain ⟨TA, tc, rfl⟩ := own_form ho
    have HO := Lib.hid ho
    have hgW : g < W.heap.size := HWW.out.held.lt
    have hfg := HWW.out.held.frozen 2
    have hg2 := HWW.out.cells.2.2.1
    obtain ⟨W5, hW5⟩ : ∃ W5, W.setCell ⟨g, 2, none⟩ (.bool true) = W5 := ⟨_, rfl⟩
    have HW5 : Hid (WAt W5 n g A c ds most true cl KA kc bs) := Lib.hid (by rw [← hW5]; exact HWW.out.begun)
    have gr5 : W.grownBy W5 (some g) := by rw [← hW5]; exact grown_put W g 2 _
    have HGR5 := Lib.hid gr5
    have y3 := HW5.out.cells.2.2.2.1
    have hg5 := HW5.out.held.lt
    have HNB := Lib.hid (show NotT W (some g) 5 from NotT.of_held HWW.out.held (by decide))
    have hv5 : Boxed W5 N0 38 (.slice TA X.length tc) := hv.kept gr5 (fun e => by injection e with e; omega)
    have hK5 : W5.heap[D]? = some (.deferred (some [])) := (gr5.block D (Array.getElem?_eq_some_iff.1 hK).1 (fun e => by injection e with e; omega)).trans hK
    have HO5 := Lib.hid (own_nott ho (NotT.of_held HWW.out.held (by decide)) gr5)
    have HV5 := Lib.hid hv5
    have HK5 := Lib.hid hK5
    obtain ⟨-, kl1, kl2⟩ := (ERow.of_own HW5.out.blk.1).len
    have HDR := Lib.hid (drop_row (ERow.of_own HW5.out.blk.1) hk)
    obtain ⟨r, hr⟩ : ∃ r, (bs.drop k).length = r := ⟨_, rfl⟩
    have HRL := Lib.hid (show r = bs.length - k by rw [← hr, List.length_drop])
    rw [hr] at HDR
    have HBC : Hid (∀ C cc r', ERow W5 W5.heap.size (.slice C r' cc) r (bkVs (bs.drop k)) → r' = r → Calls Tryz.prog 48 #[.slice C r' cc] W5 fun e w' => ∃ C2 c2, e = .returned (.slice C2 r c2) ∧ w'.ownsRow W5.heap.size 23 1 (.slice C2 r c2) r (bkVs (bs.drop k)) ∧ Below W5.heap.size W5 w') := Lib.hid fun C cc r' h1 h => by
      subst h
      have hb := bclone_any W5 C cc (bs.drop k) (by rw [hr]; exact h1) (by have := HM.out; rw [List.length_drop]; omega)
      rw [hr] at hb
      exact hb
    have HRR := Lib.hid hr
    have HLF := Lib.hid (fun (w6 : World) C2 c2 (h : WAt w6 n g A c ds most true cl KA kc bs) (ho : w6.ownsRow W5.heap.size 23 1 (.slice C2 r c2) r (bkVs (bs.drop k))) => show WAt (w6.setCell ⟨g, 3, none⟩ (.slice C2 r c2)) n g A c ds most true cl C2 c2 (bs.drop k) by
      have := h.left (k := k) (n' := W5.heap.size) (KA' := C2) (kc' := c2) (by rw [HRR.out]; exact ho) HW5.out.size
      rw [HRR.out] at this
      exact this)
    clear hr
    have HM2 := Lib.hid HM.out
    clear ho hv hbe h1 h2 hS hX hl gr5 hv5 hK5 hrd hii hK
    rcases (show kc = k ∨ ¬ kc = k by omega) with rfl | hkk
    · have HD1 := Lib.hid (HDR.out.1 rfl)
      gi_wp2_with fail
      refine ⟨trivial, ?_⟩
      refine (callsIn_wide.2 (HBC.out _ _ _ HD1.out.1 HD1.out.2.symm)).mono ?_
      rintro e w6 ⟨C2, c2, rfl, hown6, hb6⟩
      have h6 := HW5.out.below hb6
      have y6 := h6.held.frozen 3
      have z6 := h6.cells.2.2.2.1
      have hg6 := h6.held.lt
      have v6 := (show Boxed w6 N0 38 (.slice TA X.length tc) from (hb6.block N0 HV5.out.lt).trans HV5.out).cell
      have HOWN6 := Lib.hid hown6
      have HB6 := Lib.hid hb6
      have HW6 := Lib.hid h6
      clear hown6 hb6 h6
      gi_wp2
      have HW7 := Lib.hid (HLF.out w6 C2 c2 HW6.out HOWN6.out)
      have gr7 := grown_put w6 g 3 (.slice C2 r c2)
      have hK7 : (w6.setCell ⟨g, 3, none⟩ (.slice C2 r c2)).heap[D]? = some (.deferred (some [])) := (gr7.block D (Nat.lt_of_lt_of_le (Array.getElem?_eq_some_iff.1 HK5.out).1 HB6.out.size) (fun e => by injection e with e; omega)).trans ((HB6.out.block D (Array.getElem?_eq_some_iff.1 HK5.out).1).trans HK5.out)
      refine ⟨by simp, .inl ⟨_, _, rfl, run_takeDeferred hK7, ?_⟩⟩
      refine ⟨_, results_tmp rfl _ _ _, ?_⟩
      refine ⟨⟨TA, tc, by rw [← HXE.out]; rfl, ?_⟩, ⟨C2, c2, HW7.out.turned hK7 rfl (Nat.le_trans (Nat.le_trans HW5.out.low (Nat.le_of_lt hglt)) (by omega)), fun j hj => ?_⟩, PartN.cut ?_⟩
      · rw [← HXE.out]
        rw [hN0]
        exact ownsRow_putObj (own_nott (own_below HO5.out HB6.out) (NotT.of_held HW6.out.held (by decide)) gr7) _ hK7 rfl
      · have h1 := (World.ownsRow.lt HOWN6.out j (by rw [ob_own]; exact hj)).1
        have h2 := HGR5.out.size
        have h3 := HBE.out.size
        omega
      · refine (((((PartN.of_below (by rw [hN0]; exact HBE.out)).trans (PartN.of_grown HGR5.out (S := fun j => j = g ∨ w.heap.size ≤ j) (fun j e => by injection e with e; exact .inl e.symm))).trans (PartN.of_below HB6.out)).trans (PartN.put (.inl rfl) 3 _)).trans (PartN.of_grown (grownBy_putObj' _ D _) (fun j e => by injection e with e; exact .inr (by omega))))
    · have HD1 : Hid (ERow W5 W5.heap.size (.slice (KA.map (fun x => x.add k)) (bs.length - k) (kc - k)) r (bkVs (bs.drop k))) := Lib.hid (by rw [HRL.out]; have := HDR.out.2 hkk; exact this)
      gi_wp2_with fail
      refine ⟨trivial, ?_⟩
      refine (callsIn_wide.2 (HBC.out _ _ _ HD1.out HRL.out.symm)).mono ?_
      rintro e w6 ⟨C2, c2, rfl, hown6, hb6⟩
      have h6 := HW5.out.below hb6
      have y6 := h6.held.frozen 3
      have z6 := h6.cells.2.2.2.1
      have hg6 := h6.held.lt
      have v6 := (show Boxed w6 N0 38 (.slice TA X.length tc) from (hb6.block N0 HV5.out.lt).trans HV5.out).cell
      have HOWN6 := Lib.hid hown6
      have HB6 := Lib.hid hb6
      have HW6 := Lib.hid h6
      clear hown6 hb6 h6
      gi_wp2
      have HW7 := Lib.hid (HLF.out w6 C2 c2 HW6.out HOWN6.out)
      have gr7 := grown_put w6 g 3 (.slice C2 r c2)
      have hK7 : (w6.setCell ⟨g, 3, none⟩ (.slice C2 r c2)).heap[D]? = some (.deferred (some [])) := (gr7.block D (Nat.lt_of_lt_of_le (Array.getElem?_eq_some_iff.1 HK5.out).1 HB6.out.size) (fun e => by injection e with e; omega)).trans ((HB6.out.block D (Array.getElem?_eq_some_iff.1 HK5.out).1).trans HK5.out)
      refine ⟨by simp, .inl ⟨_, _, rfl, run_takeDeferred hK7, ?_⟩⟩
      refine ⟨_, results_tmp rfl _ _ _, ?_⟩
      refine ⟨⟨TA, tc, by rw [← HXE.out]; rfl, ?_⟩, ⟨C2, c2, HW7.out.turned hK7 rfl (Nat.le_trans (Nat.le_trans HW5.out.low (Nat.le_of_lt hglt)) (by omega)), fun j hj => ?_⟩, PartN.cut ?_⟩
      · rw [← HXE.out]
        rw [hN0]
        exact ownsRow_putObj (own_nott (own_below HO5.out HB6.out) (NotT.of_held HW6.out.held (by decide)) gr7) _ hK7 rfl
      · have h1 := (World.ownsRow.lt HOWN6.out j (by rw [ob_own]; exact hj)).1
        have h2 := HGR5.out.size
        have h3 := HBE.out.size
        omega
      · refine (((((PartN.of_below (by rw [hN0]; exact HBE.out)).trans (PartN.of_grown HGR5.out (S := fun j => j = g ∨ w.heap.size ≤ j) (fun j e => by injection e with e; exact .inl e.symm))).trans (PartN.of_below HB6.out)).trans (PartN.put (.inl rfl) 3 _)).trans (PartN.of_grown (grownBy_putObj' _ D _) (fun j e => by injection e with e; exact .inr (by omega))))
end Go.Proofs.YtohibmjjhifggaaGreat

namespace Go.Proofs.YtohibmjjhifggaaGreat
open Go.RowKit
set_option linter.unusedVariables false
theorem cutsC_flat {sig : List Pr} {most : Int} : ∀ n {l : List Pm}, l.length = n → COk sig l most → (cutsC sig l most).flatten = l ∧ ∀ b ∈ cutsC sig l most, 0 < b.length := by
  intro n
  induction n using Nat.strongRecOn with
  | _ n ih =>
    intro l hn h
    rcases Nat.eq_zero_or_pos l.length with h0 | h0
    · rw [List.eq_nil_of_length_eq_zero h0, cutsC_nil]
      simp
    · have hf := h.first h0
      obtain ⟨e1, e2⟩ := ih (l.length - firstC sig l most) (by omega) (l := l.drop (firstC sig l most)) (by rw [List.length_drop]) (h.drop _)
      rw [h.cons h0, List.flatten_cons, e1, List.take_append_drop]
      refine ⟨rfl, fun b hb => ?_⟩
      rcases List.mem_cons.1 hb with rfl | hb
      · rw [List.length_take]; omega
      · exact e2 b hb
theorem frB_same {sig : List Pr} {l l' : List Pm} (h : l.map (·.p) = l'.map (·.p)) : frB sig l = frB sig l' := by unfold frB frameB; rw [putB_same h]
theorem fitB_len {sig : List Pr} {l : List Pm} (h : fitB sig l = true) : l.length ≤ 1024 := by
  have h0 := fitB_yes.1 h
  unfold putB at h0
  by_cases hc : checkB sig l = 0
  · unfold checkB at hc
    by_cases hl : l.length ≤ 1024
    · exact hl
    · exfalso
      revert hc
      split
      · simp
      · split
        · rename_i h2; intro h3; exact h2 h3
        · split
          · simp
          · omega
  · rw [if_neg hc] at h0
    exact absurd h0 hc
theorem room_same {sig : List Pr} {most : Int} {b c : List Pm} {q : Pm} (h : c.map (·.p) = b.map (·.p)) (hb : 0 < b.length) : roomW sig most c q ↔ roomC sig most b q := by
  have hl : c.length = b.length := by have := congrArg List.length h; simpa using this
  have hf : fitB sig (c ++ [q]) = fitB sig (b ++ [q]) := fitB_same (by rw [List.map_append, List.map_append, h])
  unfold roomW roomC
  rw [hl, hf]
  refine ⟨fun ⟨_, h2, h3⟩ => ⟨?_, by omega, h3⟩, fun ⟨_, h2, h3⟩ => ⟨hb, by omega, h3⟩⟩
  have := fitB_len h3
  rw [List.length_append, List.length_singleton] at this
  omega
theorem COk.why {sig : List Pr} {l : List Pm} {most : Int} (h : COk sig l most) : whyC sig l most = 0 := by
  unfold whyC
  rw [if_neg (by have := h.most; omega), if_neg (by rw [h.ok.chk]; simp), if_pos (by unfold aloneC; exact List.all_eq_true.2 fun p hp => h.alone p hp)]
/-- Blocks' points, without where they lie. -/
def plainB (bs : List Bk) : List (List Pn) := bs.map (fun b => b.ps.map (·.p))
/-- What was taken, out, and the blocks that are left, bs, of all points that were added, xs. -/
structure Inv (sig : List Pr) (most : Int) (xs : List Pm) (bg : Bool) (out : List Int) (bs : List Bk) : Prop where
  ok : COk sig xs most
  ex : ∃ T L : List (List Pm), cutsC sig xs most = T ++ L ∧ L.map (List.map (·.p)) = plainB bs ∧ out = (if bg = true then (frameS sig).1 ++ (T.map (frB sig)).flatten else []) ∧ (bg = false → T = []) ∧ (xs ≠ [] → L ≠ [])
section
variable {sig : List Pr} {most : Int} {xs : List Pm} {bg : Bool} {out : List Int} {bs bs' : List Bk} {q : Pm}
theorem Inv.start (h : COk sig [] most) : Inv sig most [] false [] [] := ⟨h, [], [], rfl, rfl, rfl, fun _ => rfl, fun h => absurd rfl h⟩
theorem Inv.two (h : Inv sig most xs bg out bs) : (xs = [] ∧ bs = [] ∧ out = (if bg = true then (frameS sig).1 else [])) ∨
    (∃ (T Li : List (List Pm)) (b : List Pm) (bi : List Bk) (bl : Bk), cutsC sig xs most = (T ++ Li) ++ [b] ∧ bs = bi ++ [bl] ∧ Li.map (List.map (·.p)) = plainB bi ∧ bl.ps.map (·.p) = b.map (·.p) ∧ out = (if bg = true then (frameS sig).1 ++ (T.map (frB sig)).flatten else []) ∧ (bg = false → T = []) ∧ 0 < b.length ∧ xs ≠ []) := by
  obtain ⟨hok, T, L, h1, h2, h3, h4, h5⟩ := h
  by_cases hx : xs = []
  · subst hx
    rw [cutsC_nil] at h1
    obtain ⟨rfl, rfl⟩ := List.append_eq_nil_iff.1 h1.symm
    refine .inl ⟨rfl, List.map_eq_nil_iff.1 h2.symm, by rw [h3]; simp⟩
  · have hL := h5 hx
    rcases List.eq_nil_or_concat L with hl | ⟨Li, b, hl⟩
    · exact absurd hl hL
    · rw [List.concat_eq_append] at hl
      subst hl
      have hbs : bs ≠ [] := fun e => by rw [e] at h2; simp [plainB] at h2
      rcases List.eq_nil_or_concat bs with hb | ⟨bi, bl, hb⟩
      · exact absurd hb hbs
      · rw [List.concat_eq_append] at hb
        subst hb
        unfold plainB at h2
        rw [List.map_append, List.map_append, List.map_cons, List.map_nil, List.map_cons, List.map_nil] at h2
        obtain ⟨e1, e2⟩ := List.append_inj' h2 rfl
        injection e2 with e2 _
        have hpos := (cutsC_flat xs.length rfl hok).2 b (by rw [h1]; simp)
        exact .inr ⟨T, Li, b, bi, bl, by rw [h1, List.append_assoc], rfl, e1, e2.symm, h3, h4, hpos, hx⟩
theorem Inv.why (h : Inv sig most xs bg out bs) : whyW sig false (lastB bs).ps q = addW sig xs q ∨ ¬ (q.Fits ∧ ∀ e ∈ q.evs, ∀ a ∈ e.args, a.Fits) := by
  by_cases hq : q.Fits ∧ ∀ e ∈ q.evs, ∀ a ∈ e.args, a.Fits
  · left
    have key : (((lastB bs).ps.drop ((lastB bs).ps.length - 1)) ++ [q]).map (·.p) = ((xs.drop (xs.length - 1)) ++ [q]).map (·.p) := by
      rw [List.map_append, List.map_append]
      congr 1
      rcases h.two with ⟨rfl, rfl, _⟩ | ⟨T, Li, b, bi, bl, h1, rfl, h3, h4, _, _, hpos, _⟩
      · rfl
      · rw [lastB_snoc, List.map_drop, h4]
        have hl : bl.ps.length = b.length := by have := congrArg List.length h4; simpa using this
        have hx := (cutsC_flat xs.length rfl h.ok).1
        rw [h1, List.flatten_append, List.flatten_cons, List.flatten_nil, List.append_nil] at hx
        rw [← hx, hl, ← List.map_drop]
        congr 1
        have e1 : (T ++ Li).flatten.drop ((T ++ Li).flatten.length + b.length - 1) = [] := List.drop_of_length_le (by omega)
        rw [List.length_append, List.drop_append, e1, List.nil_append]
        congr 1
        omega
    unfold whyW addW
    rw [if_neg (by decide), key]
    by_cases hc : (checkT sig (((xs.drop (xs.length - 1)) ++ [q]).map (·.p))).1 ≠ 0
    · rw [if_pos hc, if_pos hc]
    · rw [if_neg hc, if_neg hc]
      by_cases hf : fitB sig [q] = true
      · rw [if_pos hf]; exact (fitB_yes.1 hf).symm
      · rw [if_neg hf]
        have hc0 : (checkT sig (((xs.drop (xs.length - 1)) ++ [q]).map (·.p))).1 = 0 := by simpa using hc
        have hs : SOk sig [q] := by
          refine ⟨?_, fun p hp => ?_⟩
          · have := checkT_drop hc0 (xs.drop (xs.length - 1)).length
            rw [List.map_append, List.drop_append, List.drop_of_length_le (by rw [List.length_map]; exact Nat.le_refl _), List.length_map, Nat.sub_self] at this
            rw [show [q].map (·.p) = [] ++ List.drop 0 ([q].map (·.p)) by rfl, this]
          · obtain rfl := List.mem_singleton.1 hp
            exact hq
        have := hs.over (n := 1) (Nat.le_refl _) (by omega) (by simp) (by simpa using hf)
        simpa using this.symm
  · exact .inr hq
theorem Inv.add (h : Inv sig most xs bg out bs) (ha : addW sig xs q = 0) (hq : q.Fits ∧ ∀ e ∈ q.evs, ∀ a ∈ e.args, a.Fits) (hr : AddR sig most bs bs' q) : Inv sig most (xs ++ [q]) bg out bs' := by
  have hok := h.ok.snoc ha hq
  refine ⟨hok, ?_⟩
  rcases h.two with ⟨rfl, rfl, h3⟩ | ⟨T, Li, b, bi, bl, h1, rfl, h3, h4, h5, h6, hpos, hx⟩
  · rw [List.nil_append] at hok ⊢
    rcases hr with ⟨bi, b, b', e, _⟩ | ⟨b', _, rfl, e⟩
    · simp at e
    · refine ⟨[], [[q]], by rw [hok.single]; rfl, by unfold plainB; simp [e], by rw [h3]; simp, fun _ => rfl, fun _ => by simp⟩
  · have hl : 0 < xs.length := List.length_pos_iff.2 hx
    obtain ⟨L', b', e0, e1, e2⟩ := cutsC_snoc xs.length rfl hok hl
    rw [h1] at e1
    obtain ⟨rfl, e3⟩ := List.append_inj' e1 rfl
    injection e3 with e3 _
    subst e3
    rcases hr with ⟨bi', bx, by', g1, rfl, g3, g4⟩ | ⟨by', g1, rfl, g4⟩
    · obtain ⟨rfl, g5⟩ := List.append_inj' g1 rfl
      injection g5 with g5 _
      subst g5
      rw [if_pos ((room_same h4 hpos).1 g3), List.append_assoc] at e2
      refine ⟨T, Li ++ [b ++ [q]], e2, ?_, h5, h6, fun _ => by simp⟩
      unfold plainB at h3 ⊢
      rw [List.map_append, List.map_append, h3, List.map_cons, List.map_nil, List.map_cons, List.map_nil, g4, h4, List.map_append]
      rfl
    · rw [lastB_snoc] at g1
      rw [if_neg (fun e => g1 ((room_same h4 hpos).2 e)), List.append_assoc] at e2
      refine ⟨T, Li ++ [b, [q]], e2, ?_, h5, h6, fun _ => by simp⟩
      unfold plainB at h3 ⊢
      rw [List.map_append, List.map_append, List.map_append, h3]
      simp [g4, h4]
theorem frB_plain {Li : List (List Pm)} : ∀ {bi : List Bk}, Li.map (List.map (·.p)) = plainB bi → Li.map (frB sig) = bi.map (fun b => frB sig b.ps) := by
  induction Li with
  | nil =>
    intro bi h
    have : bi = [] := List.map_eq_nil_iff.1 h.symm
    rw [this]; rfl
  | cons a Li ih =>
    intro bi h
    cases bi with
    | nil => simp [plainB] at h
    | cons b bi =>
      unfold plainB at h
      rw [List.map_cons, List.map_cons] at h
      injection h with h1 h2
      rw [List.map_cons, List.map_cons, ih h2, frB_same h1]
theorem Inv.take (h : Inv sig most xs bg out bs) : out ++ takeX sig bg (bs.take (bs.length - 1)) = sureW sig xs most ∧ Inv sig most xs true (out ++ takeX sig bg (bs.take (bs.length - 1))) (bs.drop (bs.length - 1)) := by
  have hok := h.ok
  rcases h.two with ⟨rfl, rfl, h3⟩ | ⟨T, Li, b, bi, bl, h1, rfl, h3, h4, h5, h6, hpos, hx⟩
  · have e : out ++ takeX sig bg (([] : List Bk).take (([] : List Bk).length - 1)) = (frameS sig).1 := by
      rw [h3]
      unfold takeX framesL
      cases bg <;> simp
    rw [e, (sureW_nil sig most).1]
    exact ⟨rfl, hok, [], [], rfl, rfl, by simp, fun h => (by cases h), fun h => absurd rfl h⟩
  · have hl : (bi ++ [bl]).length - 1 = bi.length := by simp
    rw [hl, List.take_left, List.drop_left]
    have e : out ++ takeX sig bg bi = (frameS sig).1 ++ ((T ++ Li).map (frB sig)).flatten := by
      rw [h5]
      unfold takeX framesL
      rw [List.map_append, List.flatten_append, frB_plain h3]
      cases bg with
      | true => simp
      | false => simp [h6 rfl]
    rw [e, (sureW_last h1).1]
    exact ⟨rfl, hok, T ++ Li, [b], h1, by unfold plainB; simp [h4], by simp, fun h => (by cases h), fun _ => by simp⟩
theorem Inv.close (h : Inv sig most xs bg out bs) : out ++ takeX sig bg bs = bytesW sig xs most := by
  rcases h.two with ⟨rfl, rfl, h3⟩ | ⟨T, Li, b, bi, bl, h1, rfl, h3, h4, h5, h6, hpos, hx⟩
  · rw [h3, (sureW_nil sig most).2]
    unfold takeX framesL
    cases bg <;> simp
  · rw [(sureW_last h1).2, (sureW_last h1).1, h5]
    unfold takeX framesL
    rw [List.map_append, List.map_append, List.flatten_append, frB_plain h3, ← frB_same h4]
    cases bg with
    | true => simp
    | false => simp [h6 rfl]
theorem Inv.len (h : Inv sig most xs bg out bs) : bs.length ≤ xs.length ∧ (lastB bs).ps.length ≤ xs.length := by
  rcases h.two with ⟨rfl, rfl, h3⟩ | ⟨T, Li, b, bi, bl, h1, rfl, h3, h4, h5, h6, hpos, hx⟩
  · exact ⟨Nat.le_refl _, Nat.le_refl _⟩
  · have h7 := COk.length h.ok xs.length rfl
    have h8 : (cutsC sig xs most).length = (sizesC sig xs most).length := by unfold cutsC; rw [cutsOf_length]
    rw [h1] at h8
    have h9 := congrArg List.length h3
    unfold plainB at h9
    rw [List.length_map, List.length_map] at h9
    have hl : bl.ps.length = b.length := by have := congrArg List.length h4; simpa using this
    have hx := congrArg List.length (cutsC_flat xs.length rfl h.ok).1
    rw [h1, List.flatten_append, List.length_append] at hx
    simp at h8 hx
    rw [lastB_snoc, hl, List.length_append, List.length_singleton]
    omega
end
end Go.Proofs.YtohibmjjhifggaaGreat

namespace Go.Proofs.YtohibmjjhifggaaGreat
open Go.RowKit
def CloneC : Prop := ∀ (A : Option Addr) (c : Nat) (ds : List Pd) (w : World), PredRow w w.heap.size (.slice A ds.length c) ds → ds.length ≤ 1000000000 → (∀ d ∈ ds, d.p.args.length ≤ 1000000000) →
  Calls Tryz.prog 20 #[.slice A ds.length c] w fun e w' => ∃ A' c' es, e = .returned (.slice A' es.length c') ∧ FreshP w.heap.size w' A' c' es ∧ es.map (·.p) = ds.map (·.p) ∧ Below w.heap.size w w'
end Go.Proofs.YtohibmjjhifggaaGreat

namespace Go.Proofs.YtohibmjjhifggaaGreat
open Go.RowKit
set_option maxRecDepth 100000 in
set_option maxHeartbeats 2000000 in
theorem sclone_any : CloneC := by
  intro A c ds w hrow hlen hargs
  obtain ⟨i0, hi, hz0, hz1, hz2⟩ := info_parts Tryz.infoIntB
  obtain ⟨i1, hi1, hy0, hy1, hy2⟩ := info_parts Tryz.infoPred
  obtain ⟨_, hc1, hc2⟩ : ∃ _ : True, ds.length ≤ c ∧ c ≤ 9223372036854775807 := by
    obtain ⟨A', c', hv, q1, q2⟩ := hrow.form
    injection hv with _ _ e3
    exact ⟨trivial, by omega, by omega⟩
  have HROW := Lib.hid hrow
  have HAR := Lib.hid hargs
  clear hrow hargs
  obtain ⟨n, hn⟩ : ∃ n, w.heap.size = n := ⟨_, rfl⟩
  rw [hn] at HROW ⊢
  have HN := Lib.hid hn
  clear hn
  go_enter Tryz.func20, Tryz.ntmps20
  go_wp2_with fail
  go_loopg [8, 3] ds.length (fun gk i v wr => ∃ (k : Nat) (A1 : Option Addr) (cc : Nat) (es : List Pd), k ≤ ds.length ∧ i = .int .i64 k ∧ v = .slice A1 es.length cc ∧ Hid (ds.length - k = gk) ∧ Hid (OwnP wr n (.slice A1 es.length cc) es) ∧ Hid (es.map (·.p) = (ds.take k).map (·.p)) ∧ Hid (Below n w wr))
  case atStart => exact ⟨0, none, 0, [], Nat.zero_le _, rfl, rfl, Lib.hid rfl, Lib.hid (OwnP.nil _ _), Lib.hid rfl, Lib.hid (Below.refl _ _)⟩
  case round =>
    obtain ⟨k, A1, cc, es, hk, rfl, rfl, HGK, HOW, HES, HBR⟩ := hrel
    by_cases hlt : k < ds.length
    · obtain ⟨d, hd⟩ : ∃ d, ds[k]? = some d := ⟨_, List.getElem?_eq_getElem hlt⟩
      have HTK := Lib.hid (show (ds.take (k + 1)).map (·.p) = (ds.take k).map (·.p) ++ [d.p] by rw [List.take_add_one, hd, List.map_append]; rfl)
      have HEL := Lib.hid (show es.length = k by have := congrArg List.length HES.out; simp at this; omega)
      obtain ⟨b, o, rfl, hb, x0, x1, hir, hfit, ha1, ha2⟩ := (HROW.out.below HBR.out).at hd
      have hda := HAR.out d (List.mem_of_getElem? hd)
      have hnw : n ≤ wr.heap.size := by rw [← HN.out]; exact HBR.out.size
      obtain ⟨⟨nm, ts⟩, dA, dc⟩ := d
      simp only at x0 x1 hir hfit ha1 ha2 hda
      obtain ⟨w1, hw1⟩ : ∃ w1, wr.alloc (.cells #[.string (strOfNums nm), .slice dA ts.length dc] 51) = w1 := ⟨_, rfl⟩
      have s1 : w1.heap.size = wr.heap.size + 1 := by rw [← hw1]; simp
      have b1 : Below wr.heap.size wr w1 := by rw [← hw1]; exact (Below.refl _ _).alloc (Nat.le_refl _) _
      have h1 : Held w1 wr.heap.size 51 #[.string (strOfNums nm), .slice dA ts.length dc] := by rw [← hw1]; exact heap_alloc_new wr _
      have HP1 := Lib.hid h1
      have HO1 := Lib.hid (HOW.out.below b1)
      have HB1 := Lib.hid (HBR.out.trans (b1.mono hnw))
      have HIB := Lib.hid (fun W (h : Below w1.heap.size w1 W) => hir.below ((b1.trans (h.mono (by omega))).mono hnw))
      have HFT := Lib.hid hfit
      have hall : ∀ W, Below w1.heap.size w1 W → W.cell? ⟨wr.heap.size, 0, none⟩ = some (.string (strOfNums nm)) ∧ W.cell? ⟨wr.heap.size, 1, none⟩ = some (.slice dA ts.length dc) := fun W h => by
        have g1 := h1.below h (by omega)
        have e0 := g1.cell 0
        have e1 := g1.cell 1
        exact ⟨by simpa using e0, by simpa using e1⟩
      have HALL := Lib.hid hall
      have HNE := Lib.hid (show some wr.heap.size ≠ (Value.slice A1 es.length cc).ownBlock from fun e => by have := (World.ownsRow.lt HOW.out.1 _ e.symm).2; omega)
      clear h1 b1 hir hfit hd hall
      go_wp2_with fail
      go_region_held3 (fun W => W.cell? ⟨wr.heap.size, 0, none⟩ = some (.string (strOfNums nm)) ∧ W.cell? ⟨wr.heap.size, 1, none⟩ = some (.slice dA ts.length dc))
        (first | exact HALL.out _ (Below.refl _ _) | exact HALL.out _ (Below.refl _ _).drew | exact HALL.out _ b2 | exact HALL.out _ (b2.alloc b2.size _) | exact ⟨(hg4.cell_far ⟨wr.heap.size, 0, none⟩ (by have := b2.size; simp; omega) HNE.out).trans (HALL.out _ (b2.alloc b2.size _)).1, (hg4.cell_far ⟨wr.heap.size, 1, none⟩ (by have := b2.size; simp; omega) HNE.out).trans (HALL.out _ (b2.alloc b2.size _)).2⟩)
        (first
          | (refine step_append_ints (by rfl) (.const (.slice none 0 0)) (.tmp 16) 49 (by rfl) n i0 _ Tryz.underlying49 hi hz0 hz1 hz2 rfl rfl n _ ts (by rfl) (HIB.out _ (by first | exact Below.refl _ _ | exact (Below.refl _ _).drew)) hda (by (try simp) <;> omega) ts.length rfl ?_; intro dA2 dc2 w2 hOA hb2; have b2 : Below w1.heap.size w1 w2 := (Below.refl _ _).drew.trans hb2)
          | (refine step_append_pred (by rfl) (.tmp 12) (.tmp 19) 22 (by rfl) i1 _ Tryz.underlying22 hi1 hy0 hy1 hy2 rfl n (.slice A1 es.length cc) es (by rfl) ((HO1.out.below b2).below ((Below.refl _ _).alloc (Nat.le_refl _) _)) ⟨w2.heap.size, 0, none⟩ 1 ⟨⟨nm, ts⟩, dA2, dc2⟩ (by rfl) (by go_simp) (by go_simp) (World.ownsRow.alloc hOA _) HFT.out (by have := HEL.out; omega) (by have := b2.size; simp; omega) ?_; intro v4 w4 hO4 hg4))
      have hlow : ∀ j, (Value.slice A1 es.length cc).ownBlock = some j → n ≤ j := fun j e => (World.ownsRow.lt HOW.out.1 j e).1
      have b3 := (HB1.out.trans (b2.mono (by omega))).alloc (Nat.le_trans hnw (by have := b2.size; omega)) (.cells #[.string (strOfNums nm), .slice dA2 ts.length dc2] 51)
      have b4 : Below n w w4 := b3.grown hg4 (by have := b2.size; simp; omega) hlow
      obtain ⟨A4, c4, ev, _, _⟩ := hO4.form
      have HO4 := Lib.hid hO4
      have HB4 := Lib.hid b4
      have HES4 := Lib.hid (show (es ++ [(⟨⟨nm, ts⟩, dA2, dc2⟩ : Pd)]).map (·.p) = (ds.take (k + 1)).map (·.p) by rw [HTK.out, List.map_append, HES.out]; rfl)
      subst ev
      clear hOA hb2 b2 hO4 hg4 hlow b3 b4 hw1 s1 x0 x1
      generalize es ++ [(⟨⟨nm, ts⟩, dA2, dc2⟩ : Pd)] = es4 at HO4 HES4 ⊢
      go_wp2_with fail
      go_roundg (ds.length - (k + 1))
      case measure => have := HGK.out; omega
      case rel => exact ⟨k + 1, A4, c4, es4, by omega, by go_num, rfl, Lib.hid rfl, HO4, HES4, HB4⟩
    · obtain rfl : k = ds.length := by omega
      go_wp2_with fail
      go_ret
      exact ⟨A1, cc, es, rfl, HOW.out.fresh, by rw [HES.out, List.take_length], HBR.out⟩
end Go.Proofs.YtohibmjjhifggaaGreat

namespace Go.Proofs.YtohibmjjhifggaaGreat
open Go.RowKit Go.ChangeShapes Go.WideShapes
set_option linter.unusedVariables false
theorem pred_nil (w : World) (n : Nat) : PredRow w n (.slice none 0 0) [] := ⟨none, 0, rfl, Nat.le_refl _, Nat.zero_le _, fun _ => rfl, fun h => absurd h (by simp), by simp⟩
section
variable {w : World} {n g c kc : Nat} {A KA : Option Addr} {ds : List Pd} {most : Int} {bg cl : Bool} {bs : List Bk}
set_option maxRecDepth 100000 in
set_option maxHeartbeats 1000000 in
theorem wTake_any (h : WAt w n g A c ds most bg cl KA kc bs) (hM : bs.length ≤ 1000000000) :
    Calls Tryz.prog 10 #[.pointer (some ⟨g, 0, none⟩)] w (TakeGot w n g A c ds most bg cl bs (bs.length - 1)) := by
  obtain ⟨-, -, -, h3, -⟩ := h.cells
  have hlt := h.held.lt
  obtain ⟨k, hk⟩ : ∃ k, bs.length - 1 = k := ⟨_, rfl⟩
  have hmax : max (0 : Int) ((bs.length : Int) - 1) = (k : Int) := by omega
  have HT := Lib.hid (wtake_any h k (by omega) hM)
  rw [hk]
  clear hk
  unfold TakeGot at HT ⊢
  generalize takeX (ds.map (·.p)) bg (bs.take k) = X at HT ⊢
  clear h
  go_enter Tryz.func10, Tryz.ntmps10
  go_wp2_with fail
  refine HT.out.mono ?_
  rintro e w1 ⟨⟨TA, tc, rfl, hown⟩, hrest⟩
  have HO := Lib.hid hown
  have HR := Lib.hid hrest
  clear hown hrest
  go_wp2_with fail
  go_ret
  exact ⟨⟨TA, tc, rfl, HO.out⟩, HR.out⟩
set_option maxRecDepth 100000 in
set_option maxHeartbeats 1000000 in
theorem wClose_any (h : WAt w n g A c ds most bg cl KA kc bs) (hM : bs.length ≤ 1000000000) :
    Calls Tryz.prog 13 #[.pointer (some ⟨g, 0, none⟩)] w fun e w' =>
      (∃ TA tc, e = .returned (.slice TA (takeX (ds.map (·.p)) bg bs).length tc) ∧ w'.ownsRow w.heap.size 5 1 (.slice TA (takeX (ds.map (·.p)) bg bs).length tc) (takeX (ds.map (·.p)) bg bs).length ((takeX (ds.map (·.p)) bg bs).map (.int .u8))) ∧
      WAt w' n g none 0 [] 0 true true none 0 [] ∧ PartN (fun j => j = g) w w' := by
  obtain ⟨-, -, -, h3, -⟩ := h.cells
  have hlt := h.held.lt
  have ht := wtake_any h bs.length (Nat.le_refl _) hM
  unfold TakeGot at ht
  rw [List.take_length] at ht
  have HT := Lib.hid ht
  have hlow := h.low
  clear h ht
  generalize takeX (ds.map (·.p)) bg bs = X at HT ⊢
  go_enter Tryz.func13, Tryz.ntmps13
  go_wp2_with fail
  refine HT.out.mono ?_
  rintro e w1 ⟨⟨TA, tc, rfl, hown⟩, ⟨KA', kc', hw, hob⟩, hp⟩
  have hh := hw.held
  have HO := Lib.hid hown
  have HW := Lib.hid hw
  have HP := Lib.hid hp
  have c0 := hw.cells.1
  have c1 := hw.cells.2.1
  have c2 := hw.cells.2.2.1
  have c3 := hw.cells.2.2.2.1
  have c4 := hw.cells.2.2.2.2
  have f0 := hh.frozen 0
  have f1 := hh.frozen 1
  have f2 := hh.frozen 2
  have f3 := hh.frozen 3
  have f4 := hh.frozen 4
  have hgl := hh.lt
  clear hown hw hob hp hh
  go_wp2_with fail
  go_ret
  have hh := HW.out.held
  have gr : w1.grownBy (((((w1.setCell ⟨g, 0, none⟩ (.slice none 0 0)).setCell ⟨g, 1, none⟩ (.int .i64 0)).setCell ⟨g, 2, none⟩ (.bool true)).setCell ⟨g, 3, none⟩ (.slice none 0 0)).setCell ⟨g, 4, none⟩ (.bool true)) (some g) :=
    grown_trans (grown_trans (grown_trans (grown_trans (grown_put _ _ _ _) (grown_put _ _ _ _)) (grown_put _ _ _ _)) (grown_put _ _ _ _)) (grown_put _ _ _ _)
  exact ⟨⟨TA, tc, rfl, own_nott HO.out (NotT.of_held hh (by decide)) gr⟩, ⟨((((hh.put 0 _).put 1 _).put 2 _).put 3 _).put 4 _, hlow, pred_nil _ _, OwnK.nil _ _, fun i j x y k hi => by simp at hi⟩, HP.out.trans (PartN.of_grown gr (fun j e => by injection e with e; exact e.symm))⟩
/-- Why there is no writer. -/
def newE (sig : List Pr) (most : Int) : Int := if most < 1 then 1 else checkP sig
def NewGot (w : World) (ds : List Pd) (most : Int) (V : Int) (e : Ending) (w' : World) : Prop :=
  (V ≠ 0 → e = .returned (.tuple #[.pointer none, .int .i64 V])) ∧ (V = 0 → ∃ n g A c es, e = .returned (.tuple #[.pointer (some ⟨g, 0, none⟩), .int .i64 0]) ∧ WAt w' n g A c es most false false none 0 [] ∧ es.map (·.p) = ds.map (·.p) ∧ w.heap.size ≤ n) ∧ Below w.heap.size w w'
set_option maxRecDepth 100000 in
set_option maxHeartbeats 1000000 in
theorem wnew_any (w : World) (A : Option Addr) (c : Nat) (ds : List Pd) (most : Int) (hrow : PredRow w w.heap.size (.slice A ds.length c) ds) (hl : ds.length ≤ 1000000000) (ha : ∀ d ∈ ds, d.p.args.length ≤ 1000000000) :
    Calls Tryz.prog 6 #[.slice A ds.length c, .int .i64 most] w (NewGot w ds most (newE (ds.map (·.p)) most)) := by
  unfold newE
  by_cases hm : most < 1
  · rw [if_pos hm]
    unfold NewGot
    clear hrow
    go_enter Tryz.func6, Tryz.ntmps6
    go_wp2_with fail
    go_ret2
    exact ⟨fun _ => rfl, fun h => absurd h (by decide), Below.refl _ _⟩
  · rw [if_neg hm]
    have HCK := Lib.hid (scheck_any A c ds w hrow)
    have HCL := Lib.hid (fun W (hb : Below w.heap.size w W) => sclone_any A c ds W ((hrow.below hb).more hb.size) hl ha)
    generalize checkP (ds.map (·.p)) = V at HCK ⊢
    clear hrow ha
    by_cases hv : V = 0
    · subst hv
      unfold NewGot
      go_enter Tryz.func6, Tryz.ntmps6
      go_wp2_with fail
      refine HCK.out.mono ?_
      rintro e w1 ⟨rfl, hb1⟩
      have HC1 := Lib.hid (HCL.out w1 hb1)
      have HB1 := Lib.hid hb1
      clear hb1
      go_wp2_with fail
      refine HC1.out.mono ?_
      rintro e w2 ⟨A2, c2, es, rfl, hf, hep, hb2⟩
      have HF := Lib.hid hf.1
      have HEP := Lib.hid hep
      have HB2 := Lib.hid (HB1.out.trans (hb2.mono HB1.out.size))
      clear hf hep hb2
      obtain ⟨u, hu⟩ : ∃ u, w2.alloc (.cells #[.slice A2 es.length c2, .int .i64 most, .bool false, .slice none 0 0, .bool false] 59) = u := ⟨_, rfl⟩
      have bu : Below w2.heap.size w2 u := by rw [← hu]; exact (Below.refl _ _).alloc (Nat.le_refl _) _
      have HU : Hid (WAt u w2.heap.size w2.heap.size A2 c2 es most false false none 0 []) := Lib.hid ⟨by rw [← hu]; exact heap_alloc_new w2 _, Nat.le_refl _, HF.out.below bu, OwnK.nil _ _, fun i j x y k hi => by simp at hi⟩
      have HBU := Lib.hid (HB2.out.trans (bu.mono HB2.out.size))
      clear bu
      go_wp2_with fail
      go_ret2
      exact ⟨fun h => absurd rfl h, fun _ => ⟨_, _, A2, c2, es, rfl, HU.out, HEP.out, HB2.out.size⟩, HBU.out⟩
    · have hvb : (V != 0) = true := bne_iff_ne.2 hv
      unfold NewGot
      clear HCL
      go_enter Tryz.func6, Tryz.ntmps6
      go_wp2_with fail
      refine HCK.out.mono ?_
      rintro e w1 ⟨rfl, hb1⟩
      go_wp2_with fail
      go_ret2
      exact ⟨fun _ => rfl, fun h => absurd h hv, hb1⟩
end
end Go.Proofs.YtohibmjjhifggaaGreat
