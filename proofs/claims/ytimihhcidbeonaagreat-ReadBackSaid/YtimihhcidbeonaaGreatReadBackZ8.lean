/-
  What the theorem of ReadBack rests on, part 8 of 15.
-/
import Derived.Test.YtimihhcidbeonaaGreatRows
import Derived.WalkKit
import Derived.WalkSpells
import Derived.WalkLawsBesides
import Derived.LoopTactic
import Derived.Lib.Hide
import Derived.Outline
import Derived.Shelf.RegionOpen
import Derived.RegionIn
import Derived.Deep.RegionWith
import Derived.Deep.RegionHeld3
import Derived.Deep.QuietTactic
import Derived.BigQuiet
import Derived.Lib.SliceRun
import Derived.Deep.LoopGhost
import Derived.RangeFuncCalls
import Derived.Shelf.Abstract
import Derived.OwnWalkIn
import Derived.TacticsInMore
import Derived.LoopNIn
import Derived.LoopIn
import Derived.Test.YtimihhcidbeonaaGreatReadBackZ7
namespace Go.Proofs.YtimihhcidbeonaaGreat
open Go.RowKit
theorem last_any (i : Nat) (x : Int) (hi : i ≤ 9) (hx0 : 0 ≤ x) (hx : x < 256) (w : World) :
    Calls Tryz.prog 155 #[.int .i64 i, .int .u8 x] w fun e w' => e = .returned (.int .i64 (lastI i x)) ∧ w = w' := by
  by_cases h9 : i = 9
  · subst h9
    by_cases h1 : 1 < x
    · have e1 : lastI 9 x = 3 := by unfold lastI; rw [if_pos ⟨rfl, h1⟩]
      have E1 := Lib.hid e1; clear e1
      go_enter Tryz.func155, Tryz.ntmps155
      go_wp2
      go_ret
      exact ⟨by rw [E1.out]; rfl, rfl⟩
    · by_cases h0 : x = 0
      · subst h0
        go_enter Tryz.func155, Tryz.ntmps155
        go_wp2
        go_ret
        exact ⟨rfl, rfl⟩
      · obtain rfl : x = 1 := by omega
        go_enter Tryz.func155, Tryz.ntmps155
        go_wp2
        go_ret
        exact ⟨rfl, rfl⟩
  · have b9 : ((i : Int) == 9) = false := beq_eq_false_iff_ne.2 (by omega)
    by_cases h0 : 0 < i
    · by_cases hz : x = 0
      · subst hz
        have e1 : lastI i 0 = 4 := by unfold lastI; rw [if_neg (by omega), if_pos ⟨h0, rfl⟩]
        have E1 := Lib.hid e1; clear e1
        go_enter Tryz.func155, Tryz.ntmps155
        go_wp2
        go_ret
        exact ⟨by rw [E1.out]; rfl, rfl⟩
      · have e1 : lastI i x = 0 := by unfold lastI; rw [if_neg (by omega), if_neg (by omega)]
        have E1 := Lib.hid e1; clear e1
        have bz : (x == 0) = false := beq_eq_false_iff_ne.2 hz
        go_enter Tryz.func155, Tryz.ntmps155
        go_wp2
        go_ret
        exact ⟨by rw [E1.out]; rfl, rfl⟩
    · obtain rfl : i = 0 := by omega
      have e1 : lastI 0 x = 0 := by unfold lastI; rw [if_neg (by omega), if_neg (by omega)]
      have E1 := Lib.hid e1; clear e1
      go_enter Tryz.func155, Tryz.ntmps155
      go_wp2
      go_ret
      exact ⟨by rw [E1.out]; rfl, rfl⟩
set_option maxHeartbeats 800000 in
theorem length_any (A : Option Addr) (c : Nat) (xs : List Int) (w : World) (hrow : Row w w.heap.size (.slice A xs.length c) xs) (hb : ∀ x ∈ xs, 0 ≤ x ∧ x < 256) :
    Calls Tryz.prog 105 #[.slice A xs.length c] w fun e w' => e = .returned (.tuple #[.int .i64 (lenI 0 xs).1, .int .i64 (lenI 0 xs).2]) ∧ w = w' := by
  obtain ⟨A', c', hv, hlc, hcm, _, hcells⟩ := hrow
  injection hv with h1 h2 h3
  subst h1 h3
  unfold maxLen at hcm
  have hsz : xs.length ≤ 9223372036854775807 := by omega
  obtain ⟨M, hM, hM1, hM2, hM3⟩ : ∃ M : Nat, min (xs.length : Int) 10 = M ∧ M ≤ xs.length ∧ M ≤ 10 ∧ (M = xs.length ∨ M = 10) := by
    by_cases h : xs.length ≤ 10
    · exact ⟨xs.length, by omega, by omega, by omega, .inl rfl⟩
    · exact ⟨10, by omega, by omega, by omega, .inr rfl⟩
  have HM3 := Lib.hid hM3; clear hM3
  have HC := Lib.hid hcells; clear hcells
  have HB := Lib.hid hb; clear hb
  go_enter Tryz.func105, Tryz.ntmps105
  go_wp2
  have HM := Lib.hid hM; clear hM
  go_loop [8] (fun i => ∃ k : Nat, k ≤ M ∧ i = .int .i64 k ∧ Hid (∀ j, j < k → 128 ≤ xs.getD j 0)) (fun i => M - (intOf i).toNat)
  case atStart => exact ⟨0, Nat.zero_le _, rfl, Lib.hid (fun j h => absurd h (Nat.not_lt_zero _))⟩
  case round =>
    obtain ⟨k, hk, rfl, HJ⟩ := hrel
    by_cases hlt : k < M
    · obtain ⟨b, o, rfl, _, hc⟩ := HC.out (by omega)
      have hck := hc k (by omega)
      clear hc
      have hin : xs.getD k 0 ∈ xs := by rw [List.getD, List.getElem?_eq_getElem (by omega)]; simp
      obtain ⟨y0, y1⟩ := HB.out _ hin
      clear hin
      obtain ⟨y, hy⟩ : ∃ y, xs.getD k 0 = y := ⟨_, rfl⟩
      rw [hy] at hck y0 y1
      have HY := Lib.hid hy; clear hy
      by_cases hs : y < 128
      · have hfin : lenI 0 xs = (k + 1, lastI k y) := by rw [← HY.out]; exact lenI_found xs k (by omega) HJ.out (by omega) (by rw [HY.out]; exact hs)
        have HF := Lib.hid hfin; clear hfin
        go_wp2_with (go_at_call 155; refine (last_any k y (by omega) y0 y1 _).mono ?_; rintro e w' ⟨rfl, rfl⟩)
        go_ret2
        exact ⟨by rw [HF.out]; simp, rfl⟩
      · go_wp2_with fail
        go_round
        case rel => exact ⟨k + 1, by omega, by go_num, Lib.hid (fun j hj => by
          rcases Nat.lt_or_ge j k with h | h
          · exact HJ.out j h
          · obtain rfl : j = k := by omega
            rw [HY.out]; omega)⟩
        case measure => simp [intOf]; omega
    · obtain rfl : k = M := by omega
      rcases Nat.lt_or_ge xs.length 10 with h10 | h10
      · have hfin : lenI 0 xs = (0, 2) := lenI_short xs h10 (fun j hj => HJ.out j (by rcases HM3.out with h | h <;> omega))
        have HF := Lib.hid hfin; clear hfin
        go_wp2_with fail
        go_ret2
        exact ⟨by rw [HF.out]; rfl, rfl⟩
      · have hfin : lenI 0 xs = (0, 3) := lenI_long xs h10 (fun j hj => HJ.out j (by rcases HM3.out with h | h <;> omega))
        have HF := Lib.hid hfin; clear hfin
        go_wp2_with fail
        go_ret2
        exact ⟨by rw [HF.out]; rfl, rfl⟩
end Go.Proofs.YtimihhcidbeonaaGreat
namespace Go.Proofs.YtimihhcidbeonaaGreat
open Go.RowKit Go.Shelf
attribute [local go_sem] Oper.semAt_some
/-- What comes in a round: how far up, and the group. -/
abbrev Grp := { p : Int × Int // 0 ≤ p.1 ∧ p.1 ≤ 63 ∧ 0 ≤ p.2 ∧ p.2 ≤ 127 }
/-- What comes in round k. -/
def grp (xs : List Int) (k : Nat) : Grp := if h : k ≤ 9 then ⟨(7 * (k : Int), xs.getD k 0 % 128), by constructor <;> simp <;> omega⟩ else ⟨(0, 0), by simp⟩
/-- What has come when k rounds are over. -/
def grps (xs : List Int) (k : Nat) : List Grp := (List.range k).map (grp xs)
theorem grps_succ (xs : List Int) (k : Nat) : grps xs (k + 1) = grps xs k ++ [grp xs k] := by simp [grps, List.range_succ]
theorem grps_length (xs : List Int) (k : Nat) : (grps xs k).length = k := by simp [grps]
set_option maxRecDepth 100000 in
set_option maxHeartbeats 2000000 in
/-- The function that is ranged over, which hands on the groups of bytes that lie below n₀. -/
theorem groups1_in (F : Fence) (m : Nat) (hf : F.fn 156) (hro : F.round = none) (hm : 1 ≤ m) (l Bs n₀ : Nat) (A : Option Addr) (c : Nat) (xs : List Int) (h10 : xs.length ≤ 10) (hb : ∀ x ∈ xs, 0 ≤ x ∧ x < 256) (J Jx : List Grp → World → Prop)
    (hY : ∀ pre (x : Grp) W, J pre W → pre.length < xs.length → YieldAt F (m - 1) Tryz.prog l #[.int .i64 x.1.1, .int .u64 x.1.2] W fun e W' =>
      (e = .returned (.bool true) ∧ J (pre ++ [x]) W' ∧ Below n₀ W W') ∨ (e = .returned (.bool false) ∧ Jx (pre ++ [x]) W'))
    (W : World) (hBs : W.cell? ⟨Bs, 0, none⟩ = some (.slice A xs.length c)) (hrow : Row W n₀ (.slice A xs.length c) xs) (h0 : J [] W) :
    CallsIn F m Tryz.prog 156 #[.func (.yield l) #[] #[], .pointer (some ⟨Bs, 0, none⟩)] W fun e W' => (∃ v, e = .returned v) ∧
      ((∃ ys, ys = grps xs xs.length ∧ J ys W') ∨ (∃ pre, (∃ k, pre = grps xs k) ∧ Jx pre W')) := by
  have HR := Lib.hid hrow; clear hrow
  have HB := Lib.hid hb; clear hb
  refine callsIn_of_wp Tryz.func156 rfl hf ?_ hro
  simp only [Tryz.ntmps156, List.size_toArray, List.length_cons, List.length_nil, Nat.reduceAdd, Nat.reduceSub, Array.replicate_succ, Array.replicate_zero, List.push_toArray, List.append_toArray, List.nil_append, List.cons_append]
  gi_wp2
  gi_loopw [7] (fun i wr => ∃ k : Nat, k ≤ xs.length ∧ i = .int .i64 k ∧ J (grps xs k) wr ∧ Below n₀ W wr)
    (fun i _ => xs.length - (intOf i).toNat)
  case atStart => exact ⟨0, Nat.zero_le _, rfl, h0, Below.refl _ _⟩
  case round =>
    obtain ⟨k, hk, rfl, hJs, hnx⟩ := hrel
    by_cases hlt : k < xs.length
    · obtain ⟨A', c', hv, _, _, _, hcells⟩ := HR.out.below hnx
      injection hv with e1 e2 e3
      subst e1 e3
      obtain ⟨b, o, rfl, _, hc⟩ := hcells (by omega)
      have hck := hc k hlt
      clear hc hcells e2
      have hin : xs.getD k 0 ∈ xs := by rw [List.getD, List.getElem?_eq_getElem hlt]; simp
      obtain ⟨y0, y1⟩ := HB.out _ hin
      clear hin
      obtain ⟨y, hy⟩ : ∃ y, xs.getD k 0 = y := ⟨_, rfl⟩
      rw [hy] at hck y0 y1
      have hg : (grp xs k).1 = (7 * (k : Int), y % 128) := by rw [← hy]; unfold grp; rw [dif_pos (by omega)]
      clear hy
      obtain ⟨fn, tmps, assign, body, hy, hR⟩ := hY _ (grp xs k) wr hJs (by rw [grps_length]; exact hlt)
      simp only [hg] at hy
      clear hg
      gi_wp2
      refine hR.mono ?_
      rintro e W3 (⟨rfl, hJ3, hk3⟩ | ⟨rfl, hJx3⟩)
      · gi_wp2
        go_roundw
        case rel => exact ⟨k + 1, by omega, by go_num, by rw [grps_succ]; exact hJ3, hnx.trans hk3⟩
        case measure => simp [intOf]; omega
      · gi_wp2
        refine bodyPost_ret (results_none rfl _ _ _) rfl ?_
        exact ⟨⟨_, rfl⟩, .inr ⟨_, ⟨k + 1, (grps_succ _ _).symm⟩, hJx3⟩⟩
    · obtain rfl : k = xs.length := by omega
      gi_wp2
      go_end0
      exact ⟨⟨_, rfl⟩, .inl ⟨_, rfl, hJs⟩⟩
set_option maxHeartbeats 1000000 in
theorem groups_in (F : Fence) (m : Nat) (hf : F.fn 106) (hro : F.round = none) (A : Option Addr) (k c : Nat) (w : World) :
    CallsIn F m Tryz.prog 106 #[.slice A k c] w fun e w' => e = .returned (.func (.func 156) #[] #[.pointer (some ⟨w.heap.size, 0, none⟩)]) ∧ w' = w.alloc (.cells #[.slice A k c] 23) := by
  refine callsIn_of_wp Tryz.func106 rfl hf ?_ hro
  simp only [Tryz.ntmps106, List.size_toArray, List.length_cons, List.length_nil, Nat.reduceAdd, Nat.reduceSub, Array.replicate_succ, Array.replicate_zero, List.push_toArray, List.append_toArray, List.nil_append, List.cons_append]
  gi_wp2
  go_ret
  exact ⟨rfl, rfl⟩
theorem groups_stops (F : Fence) (m : Nat) (hf : F.fn 156) (hro : F.round = none) (hm : 1 ≤ m) (Bs n₀ : Nat) (A : Option Addr) (c : Nat) (xs : List Int) (h10 : xs.length ≤ 10) (hb : ∀ x ∈ xs, 0 ≤ x ∧ x < 256) (w : World) (hBs : Bs < w.heap.size) (hn₀ : n₀ ≤ w.heap.size)
    (hc : w.cell? ⟨Bs, 0, none⟩ = some (.slice A xs.length c)) (hrow : Row w n₀ (.slice A xs.length c) xs) :
    SeqStopsK F m Tryz.prog 156 #[.pointer (some ⟨Bs, 0, none⟩)] (fun x : Grp => #[Value.int .i64 x.1.1, Value.int .u64 x.1.2]) (Below n₀) (fun ys => ys = grps xs xs.length) (fun pre => ∃ k, pre = grps xs k) xs.length w := fun l J Jx W hW _ _ hY h0 =>
  groups1_in F m hf hro hm l Bs n₀ A c xs h10 hb J Jx hY W ((hW.cell (p := ⟨Bs, 0, none⟩) hBs).trans hc) (hrow.below (hW.mono hn₀)) h0
/-- What a round makes of the number. -/
def orStep (n : Int) (x : Grp) : Int := bits .or .u64 n (IntKind.u64.wrap (x.1.2 * 2 ^ x.1.1.toNat))
def orAll (xs : List Grp) : Int := xs.foldl orStep 0
theorem orAll_snoc (pre : List Grp) (x : Grp) : orAll (pre ++ [x]) = bits .or .u64 (orAll pre) (IntKind.u64.wrap (x.1.2 * 2 ^ x.1.1.toNat)) := by simp [orAll, orStep]
set_option maxRecDepth 100000 in
set_option maxHeartbeats 2000000 in
theorem get_in (F : Fence) (m : Nat) (h0 : F.fn 55) (h1 : F.fn 105) (h2 : F.fn 106) (h3 : F.fn 156) (hro : F.round = none) (hm : 5 ≤ m)
    (hlenC : ∀ (A : Option Addr) (c : Nat) (xs : List Int) (w : World), Row w w.heap.size (.slice A xs.length c) xs → (∀ x ∈ xs, 0 ≤ x ∧ x < 256) → CallsIn F (m - 1) Tryz.prog 105 #[.slice A xs.length c] w fun e w' => e = .returned (.tuple #[.int .i64 (lenI 0 xs).1, .int .i64 (lenI 0 xs).2]) ∧ w = w')
    (A : Option Addr) (c : Nat) (xs : List Int) (w : World) (hrow : Row w w.heap.size (.slice A xs.length c) xs) (hb : ∀ x ∈ xs, 0 ≤ x ∧ x < 256) (hok : (lenI 0 xs).2 = 0) :
    CallsIn F m Tryz.prog 55 #[.slice A xs.length c] w fun e W' => e = .returned (.tuple #[.int .u64 (orAll (grps (xs.take (lenI 0 xs).1) (lenI 0 xs).1)), .int .i64 (lenI 0 xs).1, .int .i64 0]) ∧ Below w.heap.size w W' := by
  have hm1 : 1 ≤ m := by omega
  obtain ⟨k1, k2, k3, h5, h6⟩ := getI_back xs hb hok
  clear h5 h6
  have hcon := hlenC A c xs w hrow hb
  rw [hok] at hcon
  clear hok hlenC
  generalize (lenI 0 xs).1 = s at hcon k1 k2 k3 ⊢
  have hr2 := hrow.take k2
  have hl2 : (xs.take s).length = s := by simp; omega
  rw [hl2] at hr2
  have HC := Lib.hid hcon; clear hcon
  have hsm : xs.length ≤ 9223372036854775807 ∧ xs.length ≤ c ∧ c ≤ 9223372036854775807 := by
    obtain ⟨_, _, hv, q1, q2, _, _⟩ := hrow
    injection hv with e1 e2 e3
    subst e3
    unfold maxLen at q2
    omega
  obtain ⟨s1, s2, s3⟩ := hsm
  refine callsIn_of_wp_marks Tryz.func55 rfl h0 ?_ hro
  simp only [Tryz.ntmps55, List.size_toArray, List.length_cons, List.length_nil, Nat.reduceAdd, Nat.reduceSub, Array.replicate_succ, Array.replicate_zero, List.push_toArray, List.append_toArray, List.nil_append, List.cons_append]
  gi_wp2_with (first
    | (gi_at_call 105; refine HC.out.mono ?_; rintro e w1 ⟨rfl, rfl⟩)
    | (gi_at_call 106; refine (groups_in F (m - 1) h2 hro _ _ _ _).mono ?_; rintro e w' ⟨rfl, rfl⟩))
  have bO := Boxed.new w 32 (.int .u64 0)
  have bN := Boxed.new (w.alloc (.cells #[.int .u64 0] 32)) 23 (.slice A s c)
  rw [World.size_alloc] at bN
  have hB0 : Below w.heap.size w ((w.alloc (.cells #[.int .u64 0] 32)).alloc (.cells #[.slice A s c] 23)) := ((Below.refl _ w).alloc (Nat.le_refl _) _).alloc (by simp) _
  have hst := groups_stops F (m - 1) h3 hro (by omega) (w.heap.size + 1) w.heap.size A c (xs.take s) (by omega) (fun x hx => hb x (List.mem_of_mem_take hx)) ((w.alloc (.cells #[.int .u64 0] 32)).alloc (.cells #[.slice A s c] 23)) (by simp) (by simp; omega) (by rw [hl2]; exact bN.cell) (by rw [hl2]; exact hr2.below hB0)
  refine wpIn_rangeFunc_ownG hro hm1 (gf := 156) (lb := #[.pointer (some ⟨w.heap.size + 1, 0, none⟩)]) rfl h3 (enters_of Tryz.func156 (by kernel_rfl) rfl)
    hst belowK_t (belowK_b (by simp; omega)) (Below.refl _ _) (fun _ => rfl)
    (fun pre W => Boxed W w.heap.size 32 (.int .u64 (orAll pre)) ∧ Below w.heap.size w W)
    (fun _ _ _ => False)
    (OwnFrom.and (Own.from (boxed_own w.heap.size 32 (fun pre : List Grp => .int .u64 (orAll pre))) _) (ownFrom_below (Nat.le_refl _) (by simp; omega)))
    (fun _ _ _ _ _ hs _ _ => hs)
    ⟨bO.alloc _, hB0⟩
    (fun x => { tmps := #[.slice A xs.length c, undef, .int .u64 0, .int .i64 0, .int .i64 0, .int .i64 s, .int .i64 0, .pointer (some ⟨w.heap.size, 0, none⟩), .int .i64 x.1.1, .int .u64 x.1.2, .tuple #[.int .i64 s, .int .i64 0], .slice A xs.length c, .tuple #[.int .i64 s, .int .i64 0], .int .i64 s, .int .i64 0, .int .i64 0, .bool false, undef, .slice A xs.length c, .int .i64 s, .slice A s c, .func (.func 156) #[] #[.pointer (some ⟨w.heap.size + 1, 0, none⟩)], .int .i64 x.1.1, .int .u64 x.1.2, undef, undef, undef, undef, undef, undef, undef], defers := [] }) ?assign ?body ?done ?stop
  case assign =>
    intro l x W K hK
    gi_wp2
    exact hK
  case body =>
    rintro l pre x W ⟨hv, hB⟩ hlt
    have hc := hv.cell
    have hfz := hv.frozen
    obtain ⟨⟨sh, g⟩, hs0, hs1, hg0, hg1⟩ := x
    simp only at hs0 hs1 hg0 hg1 ⊢
    gi_wp2
    gi_region
    all_goals gi_wp2
    all_goals exact ⟨((KeepsOthers.setCell _ _ _).trans (KeepsOthers.drew _)).from _, ((Below.refl w.heap.size W).setCell (p := ⟨w.heap.size, 0, none⟩) (Nat.le_refl _) _).drew, by rw [orAll_snoc]; exact hv.set _, (hB.setCell (p := ⟨w.heap.size, 0, none⟩) (Nat.le_refl _) _).drew⟩
  case done =>
    rintro D ys W hD rfl ⟨hv, hB⟩ hK
    have hc := hv.cell
    gi_wp2
    refine ⟨by simp, .inl ⟨_, _, rfl, run_takeDeferred hK, ?_⟩⟩
    exact ⟨_, results_tmp3 rfl _ _ _, rfl, hB.trans (belowK_b (w := w) (Nat.le_refl _) W D _ _ (by simp at hD; omega) hK rfl rfl)⟩
  case stop =>
    rintro D c pre W _ _ h _
    exact h.elim
theorem val_append (b : List Int) : ∀ a : List Int, val (a ++ b) = val a + 128 ^ a.length * val b
  | [] => by simp [val]
  | x :: r => by
    have h := val_append b r
    simp only [List.cons_append, val, h, List.length_cons]
    rw [Int.pow_succ, Int.mul_add, Int.mul_comm ((128 : Int) ^ r.length) 128, Int.mul_assoc]
    omega
theorem val_take_le (ys : List Int) (k : Nat) : val (ys.take k) ≤ val ys := by
  have h := val_append (ys.drop k) (ys.take k)
  rw [List.take_append_drop] at h
  have h1 : 0 ≤ (128 : Int) ^ (ys.take k).length * val (ys.drop k) := Int.mul_nonneg (Int.le_of_lt (Int.pow_pos (by omega))) (val_nonneg _)
  omega
/-- A group that is put above what is there already: a sum. -/
theorem or_step (a : Int) (k : Nat) (g : Int) (ha : 0 ≤ a) (hg : 0 ≤ g) (hk : a < 128 ^ k) (hs : a + 128 ^ k * g < 18446744073709551616) :
    bits .or .u64 a (IntKind.u64.wrap (g * 2 ^ (7 * k))) = a + 128 ^ k * g := by
  obtain ⟨A, rfl⟩ := Int.eq_ofNat_of_zero_le ha
  obtain ⟨G, rfl⟩ := Int.eq_ofNat_of_zero_le hg
  have e2 : (2 : Nat) ^ (7 * k) = 128 ^ k := by rw [Nat.pow_mul]
  have e2i : (2 : Int) ^ (7 * k) = ((128 ^ k : Nat) : Int) := by rw [Int.pow_mul]; simp
  have hk' : A < 128 ^ k := by
    have : ((128 : Int) ^ k) = ((128 ^ k : Nat) : Int) := by simp
    rw [this] at hk
    omega
  have hs' : A + 128 ^ k * G < 18446744073709551616 := by
    have : ((128 : Int) ^ k * (G : Int)) = ((128 ^ k * G : Nat) : Int) := by simp
    rw [this] at hs
    omega
  have hw : IntKind.u64.wrap ((G : Int) * 2 ^ (7 * k)) = ((128 ^ k * G : Nat) : Int) := by
    rw [e2i, ← Int.natCast_mul, Nat.mul_comm, IntKind.wrap_u64]
    omega
  rw [hw, u64_or_nat A (128 ^ k * G) (by omega) (by omega)]
  have := Nat.two_pow_add_eq_or_of_lt (i := 7 * k) (b := A) (by rw [e2]; exact hk') G
  rw [e2] at this
  rw [Nat.or_comm, ← this]
  simp [Int.add_comm]
theorem orAll_val (ys : List Int) (h10 : ys.length ≤ 10) (hv : val ys < 18446744073709551616) : ∀ k : Nat, k ≤ ys.length → orAll (grps ys k) = val (ys.take k) := by
  intro k
  induction k with
  | zero => intro _; simp [grps, orAll, val]
  | succ k ih =>
    intro hk
    have hkl : k < ys.length := by omega
    rw [grps_succ, orAll_snoc, ih (by omega), List.take_succ_eq_append_getElem hkl, val_snoc]
    have hl : (ys.take k).length = k := by simp; omega
    have hg : (grp ys k).1 = (7 * (k : Int), ys[k] % 128) := by
      unfold grp; rw [dif_pos (by omega)]; simp [List.getD, List.getElem?_eq_getElem hkl]
    rw [hg, hl]
    have h1 := val_lt (ys.take k)
    rw [hl] at h1
    have h2 := val_take_le ys (k + 1)
    rw [List.take_succ_eq_append_getElem hkl, val_snoc, hl] at h2
    have e7 : (7 * (k : Int)).toNat = 7 * k := by omega
    simp only [e7]
    exact or_step _ k _ (val_nonneg _) (by omega) h1 (by omega)
set_option maxRecDepth 100000 in
set_option maxHeartbeats 1000000 in
theorem get_no (A : Option Addr) (c : Nat) (xs : List Int) (w : World) (hrow : Row w w.heap.size (.slice A xs.length c) xs) (hb : ∀ x ∈ xs, 0 ≤ x ∧ x < 256) (hno : (lenI 0 xs).2 ≠ 0) :
    Calls Tryz.prog 55 #[.slice A xs.length c] w fun e W' => e = .returned (.tuple #[.int .u64 0, .int .i64 0, .int .i64 (lenI 0 xs).2]) ∧ w = W' := by
  have hcon := length_any A c xs w hrow hb
  clear hrow hb
  generalize (lenI 0 xs).1 = s at hcon
  generalize (lenI 0 xs).2 = er at hcon hno ⊢
  have HC := Lib.hid hcon; clear hcon
  have hne : (er != 0) = true := by simpa using hno
  clear hno
  go_enter Tryz.func55, Tryz.ntmps55
  go_wp2_with (go_at_call 105; refine HC.out.mono ?_; rintro e w1 ⟨rfl, rfl⟩)
  go_ret3
  exact ⟨rfl, rfl⟩
/-- wire.Get. -/
theorem get_any (A : Option Addr) (c : Nat) (xs : List Int) (w : World) (hrow : Row w w.heap.size (.slice A xs.length c) xs) (hb : ∀ x ∈ xs, 0 ≤ x ∧ x < 256) :
    Calls Tryz.prog 55 #[.slice A xs.length c] w fun e W' => e = .returned (.tuple #[.int .u64 (getI xs).1, .int .i64 (getI xs).2.1, .int .i64 (getI xs).2.2]) ∧ Below w.heap.size w W' := by
  by_cases hok : (lenI 0 xs).2 = 0
  · have h := callsIn_wide.1 (get_in Fence.wide 5 trivial trivial trivial trivial rfl (by omega) (fun A c xs w h1 h2 => callsIn_wide.2 (length_any A c xs w h1 h2)) A c xs w hrow hb hok)
    obtain ⟨k1, k2, k3, _, h6⟩ := getI_back xs hb hok
    have hl : (xs.take (lenI 0 xs).1).length = (lenI 0 xs).1 := by simp; omega
    have hv := orAll_val (xs.take (lenI 0 xs).1) (by omega) h6 (lenI 0 xs).1 (by omega)
    rw [List.take_take, Nat.min_self] at hv
    rw [hv] at h
    have e : getI xs = (val (xs.take (lenI 0 xs).1), (lenI 0 xs).1, 0) := by unfold getI; rw [if_pos hok]
    rw [e]
    exact h
  · have e : getI xs = (0, 0, (lenI 0 xs).2) := by unfold getI; rw [if_neg hok]
    rw [e]
    refine (get_no A c xs w hrow hb hok).mono ?_
    rintro e W' ⟨rfl, rfl⟩
    exact ⟨rfl, Below.refl _ _⟩
end Go.Proofs.YtimihhcidbeonaaGreat

namespace Go.Proofs.YtimihhcidbeonaaGreat
open Go.RowKit
theorem below_drewN {B : Nat} {w w' : World} (h : Below B w w') (n : Nat) : Below B w (w'.drewN n) := ⟨h.os, h.tape, h.output, h.size, h.block⟩
set_option maxRecDepth 100000 in
set_option maxHeartbeats 1000000 in
/-- blob.Get. -/
theorem bget_any (A : Option Addr) (c : Nat) (xs : List Int) (most : Int) (hm0 : -9223372036854775808 ≤ most) (hm1 : most ≤ 9223372036854775807) (w : World) (hrow : Row w w.heap.size (.slice A xs.length c) xs) (hb : ∀ x ∈ xs, 0 ≤ x ∧ x < 256) :
    Calls Tryz.prog 194 #[.slice A xs.length c, .int .i64 most] w fun e W' => e = .returned (.tuple #[.string (strOfNums (getT most xs).1), .int .i64 (getT most xs).2.1, .int .i64 (getT most xs).2.2]) ∧ Below w.heap.size w W' := by
  have hg := get_any A c xs w hrow hb
  by_cases he : (getI xs).2.2 = 0
  · obtain ⟨n, s, hgi, h1, h2, h3, h4, h5⟩ := getI_ok xs hb he
    rw [hgi] at hg
    obtain ⟨M, hM, hMb⟩ : ∃ M : Nat, max most 0 = M ∧ M ≤ 9223372036854775807 := ⟨(max most 0).toNat, by omega, by omega⟩
    have hsm : xs.length ≤ 9223372036854775807 ∧ xs.length ≤ c ∧ c ≤ 9223372036854775807 := by
      obtain ⟨_, _, hv, q1, q2, _, _⟩ := hrow
      injection hv with e1 e2 e3
      subst e3
      unfold maxLen at q2
      omega
    obtain ⟨s1, s2, s3⟩ := hsm
    by_cases hl : M < n
    · have ht : getT most xs = ([], 0, 6) := getT_limit hgi (by omega)
      rw [ht]
      have HG := Lib.hid hg; clear hg hgi ht he hrow hb h4
      go_enter Tryz.func194, Tryz.ntmps194
      go_wp2_with (go_at_call 55; refine HG.out.mono ?_; rintro e w1 ⟨rfl, hb1⟩)
      go_ret3
      exact ⟨rfl, hb1⟩
    · by_cases hs : xs.length - s < n
      · have ht : getT most xs = ([], 0, 2) := getT_short hgi (by omega) hs
        rw [ht]
        have HG := Lib.hid hg; clear hg hgi ht he hrow hb h4
        go_enter Tryz.func194, Tryz.ntmps194
        go_wp2_with (go_at_call 55; refine HG.out.mono ?_; rintro e w1 ⟨rfl, hb1⟩)
        go_quiet (fail)
        go_wp2_with fail
        all_goals go_ret3
        all_goals exact ⟨rfl, below_drewN hb1 _⟩
      · have ht : getT most xs = ((xs.drop s).take n, s + n, 0) := getT_ok hgi (by omega) hs
        rw [ht]
        have hr2 := (hrow.drop h2).take (k := n) (by simp; omega)
        have hl2 : ((xs.drop s).take n).length = n := by simp; omega
        rw [hl2] at hr2
        generalize (xs.drop s).take n = ys at hr2 hl2
        have HG := Lib.hid hg; clear hg hgi ht he hrow hb h4
        have HL2 := Lib.hid hl2; clear hl2
        by_cases hcs : c = s
        · subst hcs
          rw [if_pos rfl, Nat.sub_self] at hr2
          obtain rfl : n = 0 := by omega
          have HR2 := Lib.hid hr2; clear hr2
          go_enter Tryz.func194, Tryz.ntmps194
          go_wp2_with (go_at_call 55; refine HG.out.mono ?_; rintro e w1 ⟨rfl, hb1⟩)
          go_quiet (fail)
          have hcv := (HR2.out.below (below_drewN hb1 nq)).convert (P := Tryz.prog) 23 5 9 Tryz.underlying23 Tryz.underlying5 Tryz.underlying9
          go_wp2_with fail
          go_ret3
          exact ⟨rfl, below_drewN hb1 _⟩
        · rw [if_neg hcs] at hr2
          have HR2 := Lib.hid hr2; clear hr2
          go_enter Tryz.func194, Tryz.ntmps194
          go_wp2_with (go_at_call 55; refine HG.out.mono ?_; rintro e w1 ⟨rfl, hb1⟩)
          go_quiet (fail)
          generalize Option.map (fun x : Addr => x.add s) A = A2 at HR2 ⊢
          have hcv := (HR2.out.below (below_drewN hb1 nq)).convert (P := Tryz.prog) 23 5 9 Tryz.underlying23 Tryz.underlying5 Tryz.underlying9
          have i1 : (0 : Int) ≤ (n : Int) := by omega
          have i2 : (n : Int) ≤ ((c - s : Nat) : Int) := by omega
          go_wp2_with fail
          go_ret3
          exact ⟨rfl, below_drewN hb1 _⟩
  · have ht : getT most xs = ([], 0, (getI xs).2.2) := getT_err rfl he
    rw [ht]
    clear ht hrow hb
    generalize (getI xs).2.2 = er at hg he
    have HG := Lib.hid hg; clear hg
    have hne : (er != 0) = true := by simpa using he
    clear he
    go_enter Tryz.func194, Tryz.ntmps194
    go_wp2_with (go_at_call 55; refine HG.out.mono ?_; rintro e w1 ⟨rfl, hb1⟩)
    go_ret3
    exact ⟨rfl, hb1⟩
end Go.Proofs.YtimihhcidbeonaaGreat

namespace Go.Proofs.YtimihhcidbeonaaGreat
open Go.RowKit
/-- A copy in memory of its own. -/
def Copied (w : World) (xs : List Int) (e : Ending) (W' : World) : Prop :=
  ∃ A c, e = .returned (.slice A xs.length c) ∧ Row W' W'.heap.size (.slice A xs.length c) xs ∧ (∀ a, A = some a → w.heap.size ≤ a.block) ∧ Below w.heap.size w W'
set_option maxRecDepth 100000 in
set_option maxHeartbeats 1000000 in
theorem clone_any (A : Option Addr) (c : Nat) (xs : List Int) (hsm : xs.length ≤ 100000000000) (w : World) (hrow : Row w w.heap.size (.slice A xs.length c) xs) :
    Calls Tryz.prog 93 #[.slice A xs.length c] w (Copied w xs) := by
  obtain ⟨i0, hi, hz0, hz1, hz2⟩ := info_parts Tryz.infoU8
  cases A with
  | none =>
    obtain rfl : xs = [] := by
      obtain ⟨_, _, hv, _, _, _, h4⟩ := hrow
      injection hv with e1
      rcases Nat.eq_zero_or_pos xs.length with h | h
      · exact List.eq_nil_of_length_eq_zero h
      · obtain ⟨b, o, e2, _⟩ := h4 h
        rw [e2] at e1
        cases e1
    obtain rfl : c = 0 := by
      obtain ⟨_, _, hv, _, _, h3, _⟩ := hrow
      injection hv with e1 _ e3
      rw [e3]; exact h3 e1.symm
    have heq : ∀ W : World, (binOp .eql 23 (.slice none 0 0) (.slice none 0 0)).run Tryz.prog W = .ok (.bool true) W := fun W => Lib.run_eql_slice_nil W 23 5 none 0 0 0 0 Tryz.underlying23
    go_enter Tryz.func93, Tryz.ntmps93
    go_wp2_with fail
    go_ret
    exact ⟨none, 0, rfl, Row.nil _ _, by simp, Below.refl _ _⟩
  | some ad =>
    have HR := Lib.hid hrow; clear hrow
    have heq : ∀ W : World, (binOp .eql 23 (.slice (some ad) xs.length c) (.slice none 0 0)).run Tryz.prog W = .ok (.bool false) W := fun W => Lib.run_eql_slice_nil W 23 5 (some ad) xs.length c 0 0 Tryz.underlying23
    go_enter Tryz.func93, Tryz.ntmps93
    go_wp2_with (at_builtin; refine wpList_append_row _ rfl _ _ 23 rfl w.heap.size 5 i0 (.int .u8 0) Tryz.underlying23 hi hz0 hz1 hz2 rfl (.slice (some ⟨w.heap.size, 0, none⟩) 0 0) 0 [] (by rfl) (own_none1 _ _ _ (Nat.le_refl _)) w.heap.size _ xs rfl (HR.out.below ((Below.refl _ _).alloc (Nat.le_refl _) _)) (by omega) (by simp) ?_; intro v2 w2 hown2 hg2 hn2)
    go_ret
    have hne : v2 ≠ .slice none 0 0 := fun h => by have := (hn2.1 h).1; simp at this
    rw [Nat.zero_add, List.nil_append] at hown2
    obtain ⟨g, cap, rfl⟩ := ownsRow_some hown2 hne
    have hr := Row.of_own hown2
    refine ⟨_, _, rfl, hr, fun a ha => ?_, ((Below.refl _ _).alloc (Nat.le_refl _) _).grown hg2 (by simp) (fun k hk => ?_)⟩
    · injection ha with ha
      subst ha
      exact (hown2.lt g rfl).1
    · simp [Value.ownBlock] at hk
      omega
/-- A new cursor. -/
def Fresh (w : World) (xs : List Int) (e : Ending) (W' : World) : Prop :=
  ∃ g, e = .returned (.pointer (some ⟨g, 0, none⟩)) ∧ w.heap.size ≤ g ∧ Cur 174 W' w.heap.size g xs 0 0 ∧ Below w.heap.size w W'
set_option maxHeartbeats 1000000 in
theorem new_any (A : Option Addr) (c : Nat) (xs : List Int) (hsm : xs.length ≤ 100000000000) (w : World) (hrow : Row w w.heap.size (.slice A xs.length c) xs) :
    Calls Tryz.prog 44 #[.slice A xs.length c] w (Fresh w xs) := by
  have HC := Lib.hid (clone_any A c xs hsm w hrow); clear hrow
  go_enter Tryz.func44, Tryz.ntmps44
  go_wp2_with fail
  refine HC.out.mono ?_
  rintro e w1 ⟨A1, c1, rfl, hr1, hK1, hb1⟩
  go_wp2_with fail
  go_ret
  refine ⟨w1.heap.size, rfl, hb1.size, ⟨A1, c1, heap_alloc_new w1 _, hr1.below ((Below.refl _ _).alloc (Nat.le_refl _) _), hK1⟩, hb1.alloc hb1.size _⟩
/-- The error behind Stop. -/
def stopI (e q : Int) : Int := if e = 0 then q else e
theorem stopI_zero (q : Int) : stopI 0 q = q := rfl
theorem stopI_kept {e : Int} (h : e ≠ 0) (q : Int) : stopI e q = e := if_neg h
section
variable {K g : Nat} {xs : List Int} {p : Nat} {e : Int} {w : World}
/-- Err. -/
theorem err_any (h : Cur 174 w K g xs p e) :
    Calls Tryz.prog 49 #[.pointer (some ⟨g, 0, none⟩)] w fun r w' => r = .returned (.int .i64 e) ∧ w = w' := by
  obtain ⟨A, c, c0, c1, c2, f1, f2, hr, _, _⟩ := h.cells
  clear h hr
  go_enter Tryz.func49, Tryz.ntmps49
  go_wp2_with fail
  go_ret
  exact ⟨rfl, rfl⟩
/-- Stop. -/
theorem stop_any (q : Int) (h : Cur 174 w K g xs p e) :
    Calls Tryz.prog 47 #[.pointer (some ⟨g, 0, none⟩), .int .i64 q] w fun r w' => r = .returned (.tuple #[]) ∧ Cur 174 w' K g xs p (stopI e q) ∧ w.grownBy w' (some g) := by
  obtain ⟨A, c, c0, c1, c2, f1, f2, hr, _, _⟩ := h.cells
  have HC := Lib.hid h; clear h hr
  by_cases he : e = 0
  · subst he
    go_enter Tryz.func47, Tryz.ntmps47
    go_wp2_with fail
    go_end0
    exact ⟨rfl, HC.out.err q, grown_put _ _ _ _⟩
  · have hb : (e == 0) = false := beq_eq_false_iff_ne.2 he
    go_enter Tryz.func47, Tryz.ntmps47
    go_wp2_with fail
    go_end0
    exact ⟨rfl, by rw [stopI_kept he]; exact HC.out, World.grownBy.refl _ _⟩
end
end Go.Proofs.YtimihhcidbeonaaGreat

namespace Go.Proofs.YtimihhcidbeonaaGreat
open Go.RowKit
set_option maxRecDepth 100000 in
set_option maxHeartbeats 2000000 in
theorem bpp_any (A : Option Addr) (c : Nat) (xs : List Int) (p : Pr) (hp : Small p) (A2 : Option Addr) (c2 : Nat) (hsm : xs.length ≤ 1000000) (w : World) (hrow : Row w w.heap.size (.slice A xs.length c) xs) (hir : IRow w w.heap.size (.slice A2 p.args.length c2) p.args) :
    Calls Tryz.prog 207 #[.slice A xs.length c, .agg #[.string (strOfNums p.name), .slice A2 p.args.length c2]] w fun e W' => ∃ A' c', e = .returned (.slice A' (xs ++ encP p).length c') ∧ W'.ownsRow w.heap.size 5 1 (.slice A' (xs ++ encP p).length c') (xs ++ encP p).length ((xs ++ encP p).map (.int .u8)) ∧ Below w.heap.size w W' := by
  obtain ⟨i0, hi, hz0, hz1, hz2⟩ := info_parts Tryz.infoU8
  obtain ⟨hn1, hn2, hnb, hab⟩ := hp
  obtain ⟨hc1, hc2⟩ : p.args.length ≤ c2 ∧ c2 ≤ 9223372036854775807 := by
    obtain ⟨A', c', hv, q1, q2, _⟩ := hir
    injection hv with _ _ e3
    rw [List.length_map] at q1
    unfold maxLen at q2
    exact ⟨by omega, by omega⟩
  have he1 : (encT p.name).length ≤ 33 := by rw [encT_length, encI_one (by omega)]; omega
  have he2 : (encI p.args.length).length = 1 := encI_one (by omega)
  unfold encP
  obtain ⟨nm, ar⟩ := p
  simp only at hn1 hn2 hnb hab hc1 he1 he2 hir ⊢
  have ba : Below w.heap.size w (w.alloc (.cells #[.string (strOfNums nm), .slice A2 ar.length c2] 88)) := (Below.refl _ _).alloc (Nat.le_refl _) _
  have HBX := Lib.hid (show Held (w.alloc (.cells #[.string (strOfNums nm), .slice A2 ar.length c2] 88)) w.heap.size 88 #[.string (strOfNums nm), .slice A2 ar.length c2] from heap_alloc_new w _)
  have HIR := Lib.hid (hir.below ba)
  have HPN := Lib.hid (bput_any A c xs nm hnb (by omega) (by omega) (w.alloc (.cells #[.string (strOfNums nm), .slice A2 ar.length c2] 88)) ((hrow.below ba).more ba.size))
  have HB := Lib.hid ba
  have HAB := Lib.hid hab
  generalize hE : encT nm = E at HPN he1 ⊢
  clear hE
  obtain ⟨Z, hZ⟩ : ∃ Z, xs ++ (E ++ (encI ar.length ++ ar)) = Z := ⟨_, rfl⟩
  rw [hZ]
  have HZ := Lib.hid (show xs ++ E ++ encI ar.length ++ ar = Z by rw [← hZ]; simp)
  clear hZ
  obtain ⟨w1, hw1⟩ : ∃ w1, w.alloc (.cells #[.string (strOfNums nm), .slice A2 ar.length c2] 88) = w1 := ⟨_, rfl⟩
  have hz1w : w1.heap.size = w.heap.size + 1 := by rw [← hw1]; simp
  rw [hw1] at HBX HIR HPN HB
  have hx0 := HBX.out.cell 0
  simp at hx0
  clear hrow hir ba hnb hab
  go_enter Tryz.func207, Tryz.ntmps207
  go_wp2_with fail
  refine HPN.out.mono ?_
  rintro e w2 ⟨v2, rfl, hown2, hb2⟩
  rw [← List.length_append] at hown2
  obtain ⟨A3, c3, rfl⟩ := own_form hown2
  have hxl : (xs ++ E).length ≤ 1000100 := by rw [List.length_append]; omega
  generalize xs ++ E = X at hown2 hxl HZ
  have hn2 := hb2.size
  have hbx2 := HBX.out.below hb2 (by omega)
  have hx1 := hbx2.cell 1
  simp at hx1
  have HPU := Lib.hid (put_any A3 c3 X ar.length (by omega) (by omega) w2 (Row.of_own hown2))
  have HIR2 := Lib.hid (HIR.out.below (hb2.mono (by omega)))
  have HB2 := Lib.hid (HB.out.trans (hb2.mono (by omega)))
  have HBX2 := Lib.hid hbx2
  clear hown2 hb2 hx0 hbx2
  go_wp2_with fail
  refine HPU.out.mono ?_
  rintro e w3 ⟨v3, rfl, hown3, hb3⟩
  rw [← List.length_append] at hown3
  have hyl : (X ++ encI ar.length).length ≤ 1000101 := by rw [List.length_append]; omega
  generalize X ++ encI ar.length = Y at hown3 hyl HZ
  obtain ⟨A4, c4, rfl⟩ := own_form hown3
  have hbx3 := HBX2.out.below hb3 (by omega)
  have hx1 := hbx3.cell 1
  simp at hx1
  have HO3 := Lib.hid (own_base hown3 (show w.heap.size ≤ w2.heap.size by omega))
  have HIR3 := Lib.hid (HIR2.out.below (hb3.mono (show w.heap.size ≤ w2.heap.size by omega)))
  have HB3 := Lib.hid (HB2.out.trans (hb3.mono (show w.heap.size ≤ w2.heap.size by omega)))
  clear hown3 hb3 hbx3
  go_wp2_with fail
  go_loopg [0, 20] ar.length (fun gk v i wr => ∃ (k : Nat) (A : Option Addr) (c : Nat), k ≤ ar.length ∧ i = .int .i64 k ∧ v = .slice A (Y.length + k) c ∧ Hid (ar.length - k = gk) ∧ Hid (wr.ownsRow w.heap.size 5 1 (.slice A (Y.length + k) c) (Y.length + k) ((Y ++ ar.take k).map (.int .u8))) ∧ Hid (IRow wr w.heap.size (.slice A2 ar.length c2) ar) ∧ Hid (Below w.heap.size w wr))
  case atStart => exact ⟨0, A4, c4, Nat.zero_le _, rfl, rfl, Lib.hid rfl, by simpa using HO3, HIR3, HB3⟩
  case round =>
    obtain ⟨k, A, c, hk, rfl, rfl, HGK, HO, HI, HBW⟩ := hrel
    by_cases hlt : k < ar.length
    · obtain ⟨b, o, rfl, hb, ht⟩ := HI.out.at hlt
      have hbt : 0 ≤ ar.getD k 0 ∧ ar.getD k 0 < 256 := HAB.out _ (by rw [List.getD, List.getElem?_eq_getElem hlt]; exact List.getElem_mem hlt)
      have hnx : ar.take (k + 1) = ar.take k ++ [ar.getD k 0] := by rw [List.take_add_one, List.getD, List.getElem?_eq_getElem hlt]; rfl
      generalize ar.getD k 0 = t at ht hbt hnx
      obtain ⟨t0, t1⟩ := hbt
      have HNX := Lib.hid hnx
      have hzw := HBW.out.size
      clear hnx
      go_wp2_with (at_builtin; refine wpList_append_own _ rfl _ _ 23 rfl w.heap.size 5 i0 (.int .u8 0) 1 1 Tryz.underlying23 hi hz0 hz1 hz2 rfl (by decide) _ _ _ rfl (HO.out.alloc _) ⟨wr.heap.size, 0, none⟩ 1 1 [.int .u8 t] rfl rfl (cell_one_new _ _ _) (by simp [Value.oneCell']) (by simp only [maxLen]; omega) (by omega) (by simp; omega) ?_; intro v5 w5 hown5 hg5 hn5)
      have hlow : ∀ i, (Value.slice A (Y.length + k) c).ownBlock = some i → w.heap.size ≤ i := fun i e => (World.ownsRow.lt HO.out i e).1
      have hb5 : Below w.heap.size w w5 := (HBW.out.alloc hzw _).grown hg5 (by simp; omega) hlow
      have HI5 := Lib.hid ((HI.out.below ((Below.refl _ _).alloc hzw _)).below (((Below.refl _ _).grown hg5 (by simp; omega) hlow)))
      have HB5 := Lib.hid hb5
      have hmap : (Y ++ ar.take k).map (Value.int .u8) ++ [.int .u8 t] = (Y ++ ar.take (k + 1)).map (.int .u8) := by rw [HNX.out]; simp
      rw [hmap, Nat.add_assoc] at hown5
      obtain ⟨A5, c5, rfl⟩ := own_form hown5
      have HO5 := Lib.hid hown5
      clear hown5 hg5 hn5 hlow hmap hb5
      go_roundg (ar.length - (k + 1))
      case measure => have := HGK.out; omega
      case rel => exact ⟨k + 1, A5, c5, by omega, by go_num, rfl, Lib.hid rfl, HO5, HI5, HB5⟩
    · obtain rfl : k = ar.length := by omega
      have hz := HZ.out
      have ho := HO.out
      rw [List.take_length, ← List.length_append, hz] at ho
      have HO' := Lib.hid ho
      have HZl := Lib.hid (show Y.length + ar.length = Z.length by rw [← hz, List.length_append])
      clear hz ho
      go_wp2_with fail
      go_ret
      exact ⟨A, c, by rw [HZl.out]; rfl, HO'.out, HBW.out⟩
/-- What Put answers, and where. -/
def PutGot (w : World) (r : List Int × Int) (e : Ending) (W' : World) : Prop :=
  ∃ A c, e = .returned (.tuple #[.slice A r.1.length c, .int .i64 r.2]) ∧ W'.ownsRow w.heap.size 5 1 (.slice A r.1.length c) r.1.length (r.1.map (.int .u8)) ∧ Below w.heap.size w W'
set_option maxRecDepth 100000 in
set_option maxHeartbeats 2000000 in
theorem sbput_any (A : Option Addr) (c : Nat) (ds : List Pd) (w : World) (hrow : PredRow w w.heap.size (.slice A ds.length c) ds) :
    Calls Tryz.prog 184 #[.slice A ds.length c] w (PutGot w (putS (ds.map (·.p)))) := by
  obtain ⟨hc1, hc2⟩ : ds.length ≤ c ∧ c ≤ 9223372036854775807 := by
    obtain ⟨A', c', hv, q1, q2⟩ := hrow.form
    injection hv with _ _ e3
    exact ⟨by omega, by omega⟩
  have hck := scheck_any A c ds w hrow
  by_cases h0 : checkP (ds.map (·.p)) = 0
  · obtain ⟨hs1, hs2⟩ := check_small h0
    rw [List.length_map] at hs1
    have hput : putS (ds.map (·.p)) = (encS (ds.map (·.p)), 0) := if_pos h0
    rw [hput]
    clear hput
    rw [h0] at hck
    obtain ⟨F, hF⟩ : ∃ F : Nat → List Int, F = fun k => encI ds.length ++ catP ((ds.map (·.p)).take k) := ⟨_, rfl⟩
    have hF0 : F 0 = encI ds.length := by rw [hF]; simp [catP]
    have hFn : F ds.length = encS (ds.map (·.p)) := by rw [hF]; simp only [encS, List.length_map]; rw [List.take_of_length_le (by rw [List.length_map]; exact Nat.le_refl _)]
    have hFs : ∀ k d, ds[k]? = some d → F (k + 1) = F k ++ encP d.p := by
      intro k d hd
      rw [hF]
      simp only
      rw [catP_take_succ _ (at_pr hd), List.append_assoc]
    have hFl : ∀ k, (F k).length ≤ 3000 := by
      intro k
      rw [hF]
      simp only [List.length_append]
      have h1 := catP_le ((ds.map (·.p)).take k) (fun p hp => hs2 p (List.mem_of_mem_take hp))
      rw [List.length_take, List.length_map] at h1
      rw [encI_one (by omega)]
      omega
    rw [← hFn]
    have HPN := Lib.hid (fun W => put_nil ds.length (by omega) W)
    rw [← hF0] at HPN
    clear hF hF0 hFn h0
    have HS := Lib.hid (fun (k : Nat) (d : Pd) (hd : ds[k]? = some d) => hs2 d.p (List.mem_map.2 ⟨d, List.mem_of_getElem? hd, rfl⟩))
    have HFS := Lib.hid hFs
    have HFL := Lib.hid hFl
    have HCK := Lib.hid hck
    have HROW := Lib.hid hrow
    clear hck hrow hs2 hFs hFl
    go_enter Tryz.func184, Tryz.ntmps184
    go_wp2_with fail
    refine HCK.out.mono ?_
    rintro e w1 ⟨rfl, hb1⟩
    go_wp2_with fail
    refine (HPN.out w1).mono ?_
    rintro e w2 ⟨v2, rfl, hown2, hb2⟩
    have hz1 := hb1.size
    obtain ⟨A2, c2, rfl⟩ := own_form hown2
    have HO2 := Lib.hid (own_base hown2 hz1)
    have HB2 := Lib.hid (hb1.trans (hb2.mono hz1))
    clear hown2 hb2 hb1
    go_wp2_with fail
    go_loopg [5, 19] ds.length (fun gk v i wr => ∃ (k : Nat) (A : Option Addr) (c : Nat), k ≤ ds.length ∧ i = .int .i64 k ∧ v = .slice A (F k).length c ∧ Hid (ds.length - k = gk) ∧ Hid (wr.ownsRow w.heap.size 5 1 (.slice A (F k).length c) (F k).length ((F k).map (.int .u8))) ∧ Hid (Below w.heap.size w wr))
    case atStart => exact ⟨0, A2, c2, Nat.zero_le _, rfl, rfl, Lib.hid rfl, HO2, HB2⟩
    case round =>
      obtain ⟨k, A3, c3, hk, rfl, rfl, HGK, HO, HBW⟩ := hrel
      by_cases hlt : k < ds.length
      · obtain ⟨d, hd⟩ : ∃ d, ds[k]? = some d := ⟨_, List.getElem?_eq_getElem hlt⟩
        obtain ⟨b, o, rfl, hb, x0, x1, hir, hfit, ha1, ha2⟩ := (HROW.out.below HBW.out).at hd
        have hzw := HBW.out.size
        have ba : Below wr.heap.size wr (wr.alloc (.cells #[.string (strOfNums d.p.name), .slice d.A d.p.args.length d.c] 88)) := (Below.refl _ _).alloc (Nat.le_refl _) _
        have HCALL := Lib.hid (bpp_any A3 c3 (F k) d.p (HS.out k d hd) d.A d.c (by have := HFL.out k; omega) _ (((Row.of_own HO.out).below ba).more ba.size) ((hir.below (ba.mono hzw)).more (by have := ba.size; omega)))
        rw [← HFS.out k d hd] at HCALL
        have HBA := Lib.hid (HBW.out.trans (ba.mono hzw))
        clear hir hfit hd ba
        go_wp2_with fail
        refine HCALL.out.mono ?_
        rintro e w4 ⟨A5, c5, rfl, hown5, hb5⟩
        have hza : w.heap.size ≤ (wr.alloc (.cells #[.string (strOfNums d.p.name), .slice d.A d.p.args.length d.c] 88)).heap.size := HBA.out.size
        have HO5 := Lib.hid (own_base hown5 hza)
        have HB5 := Lib.hid (HBA.out.trans (hb5.mono hza))
        clear hown5 hb5 hza
        go_wp2_with fail
        go_roundg (ds.length - (k + 1))
        case measure => have := HGK.out; omega
        case rel => exact ⟨k + 1, A5, c5, by omega, by go_num, rfl, Lib.hid rfl, HO5, HB5⟩
      · obtain rfl : k = ds.length := by omega
        go_wp2_with fail
        go_ret2
        exact ⟨A3, c3, rfl, HO.out, HBW.out⟩
  · have hne : (checkP (ds.map (·.p)) != 0) = true := bne_iff_ne.2 h0
    have hput : putS (ds.map (·.p)) = ([], checkP (ds.map (·.p))) := if_neg h0
    rw [hput]
    clear hput
    generalize checkP (ds.map (·.p)) = C at hck hne ⊢
    have HCK := Lib.hid hck
    clear hck h0
    go_enter Tryz.func184, Tryz.ntmps184
    go_wp2_with fail
    refine HCK.out.mono ?_
    rintro e w1 ⟨rfl, hb1⟩
    go_wp2_with fail
    go_ret2
    exact ⟨none, 0, rfl, World.ownsRow_nil _ _ _ _, hb1⟩
end Go.Proofs.YtimihhcidbeonaaGreat

namespace Go.Proofs.YtimihhcidbeonaaGreat
open Go.RowKit
set_option maxRecDepth 100000 in
set_option maxHeartbeats 1000000 in
theorem framed_any (A : Option Addr) (c : Nat) (p : List Int) (hp : p.length ≤ 4096) (hb : ∀ x ∈ p, 0 ≤ x ∧ x < 256) (w : World) (hrow : Row w w.heap.size (.slice A p.length c) p) :
    Calls Tryz.prog 185 #[.slice A p.length c] w (PutGot w (encFr 1 p, 0)) := by
  have HP := Lib.hid (fput_any 1 (.inl rfl) A c p hp hb w hrow)
  have hpi : (p.length : Int) ≤ 4096 := by omega
  clear hrow hb
  go_enter Tryz.func185, Tryz.ntmps185
  go_wp2_with fail
  refine HP.out.mono ?_
  rintro e w1 ⟨cap, g, rfl, hown, hb1⟩
  have HO := Lib.hid hown
  clear hown
  go_wp2_with fail
  go_ret2
  exact ⟨_, _, rfl, HO.out, hb1⟩
set_option maxRecDepth 100000 in
set_option maxHeartbeats 1000000 in
theorem sbframe_any (A : Option Addr) (c : Nat) (ds : List Pd) (w : World) (hrow : PredRow w w.heap.size (.slice A ds.length c) ds) :
    Calls Tryz.prog 140 #[.slice A ds.length c] w (PutGot w (frameS (ds.map (·.p)))) := by
  have hput := sbput_any A c ds w hrow
  clear hrow
  unfold frameS
  unfold putS at hput
  by_cases h0 : checkP (ds.map (·.p)) = 0
  · rw [if_pos h0] at hput ⊢
    obtain ⟨_, hl⟩ := encS_le h0
    have hby := encS_bytes h0
    generalize encS (ds.map (·.p)) = p at hput hl hby ⊢
    have HP := Lib.hid hput
    have HBY := Lib.hid hby
    clear hput hby h0
    go_enter Tryz.func140, Tryz.ntmps140
    go_wp2_with fail
    refine HP.out.mono ?_
    rintro e w1 ⟨A1, c1, rfl, hown, hb1⟩
    have HF := Lib.hid (framed_any A1 c1 p (by omega) HBY.out w1 (Row.of_own hown))
    have HB1 := Lib.hid hb1
    clear hown hb1
    go_wp2_with fail
    refine HF.out.mono ?_
    rintro e w2 ⟨A2, c2, rfl, hown2, hb2⟩
    have HO2 := Lib.hid (own_base hown2 HB1.out.size)
    have HB2 := Lib.hid (HB1.out.trans (hb2.mono HB1.out.size))
    clear hown2 hb2
    go_wp2_with fail
    go_ret2
    exact ⟨A2, c2, rfl, HO2.out, HB2.out⟩
  · rw [if_neg h0] at hput ⊢
    have hne : (checkP (ds.map (·.p)) != 0) = true := bne_iff_ne.2 h0
    generalize checkP (ds.map (·.p)) = C at hput hne ⊢
    have HP := Lib.hid hput
    clear hput h0
    go_enter Tryz.func140, Tryz.ntmps140
    go_wp2_with fail
    refine HP.out.mono ?_
    rintro e w1 ⟨A1, c1, rfl, hown, hb1⟩
    have HB1 := Lib.hid hb1
    clear hown hb1
    go_wp2_with fail
    go_ret2
    exact ⟨none, 0, rfl, World.ownsRow_nil _ _ _ _, HB1.out⟩
end Go.Proofs.YtimihhcidbeonaaGreat

namespace Go.Proofs.YtimihhcidbeonaaGreat
open Go.RowKit Go.Shelf
set_option linter.unusedVariables false
attribute [local go_sem] Oper.semAt_some
/-- Bytes that are handed on. -/
structure By where
  A : Option Addr
  c : Nat
  xs : List Int
abbrev By.val (b : By) : Value := .slice b.A b.xs.length b.c
def ByOk (x : By) (w : World) : Prop := Row w w.heap.size x.val x.xs ∧ x.xs.length ≤ 4200 ∧ ∀ y ∈ x.xs, 0 ≤ y ∧ y < 256
/-- The frames that were not taken. -/
def framesL (sig : List Pr) (bg : Bool) (bs : List Bk) : List (List Int) := (if bg = true then [] else [(frameS sig).1]) ++ bs.map (fun b => frB sig b.ps)
/-- What a round keeps: what lies below n₀, and the blocks B1 and B2. -/
def KeepsF (n₀ B1 B2 m : Nat) (w w' : World) : Prop := Below n₀ w w' ∧ w'.heap[B1]? = w.heap[B1]? ∧ w'.heap[B2]? = w.heap[B2]?
theorem KeepsF.refl (n₀ B1 B2 m : Nat) (w : World) : KeepsF n₀ B1 B2 m w w := ⟨Below.refl _ _, rfl, rfl⟩
theorem KeepsF.trans {n₀ B1 B2 m m' m2 : Nat} {a b c : World} (h : KeepsF n₀ B1 B2 m a b) (k : KeepsF n₀ B1 B2 m' b c) : KeepsF n₀ B1 B2 m2 a c := ⟨h.1.trans k.1, k.2.1.trans h.2.1, k.2.2.trans h.2.2⟩
theorem KeepsF.below {n₀ B1 B2 m : Nat} {a b : World} (h : Below a.heap.size a b) (h0 : n₀ ≤ a.heap.size) (h1 : B1 < a.heap.size) (h2 : B2 < a.heap.size) : KeepsF n₀ B1 B2 m a b := ⟨h.mono h0, h.block _ h1, h.block _ h2⟩
theorem KeepsF.turn {n₀ B1 B2 : Nat} {w : World} (hn : n₀ ≤ w.heap.size) (h1 : B1 < w.heap.size) (h2 : B2 < w.heap.size) (m : Nat) (W : World) (l : Nat) (o o' : Obj) (hl : w.heap.size ≤ l) (hm : l < m) (h : W.heap[l]? = some o) (_ : o.isCells = false) : KeepsF n₀ B1 B2 m W (W.putObj l o') :=
  ⟨(Below.refl n₀ W).grown (grownBy_putObj' W l o') (by have := (Array.getElem?_eq_some_iff.1 h).1; omega) (fun k e => by cases e; omega), World.putObj_heap_other (by omega), World.putObj_heap_other (by omega)⟩
/-- A writer that is read: all of it lies below n₀. -/
structure WRd (w : World) (n₀ g : Nat) (A : Option Addr) (c : Nat) (ds : List Pd) (bg : Bool) (KA : Option Addr) (kc : Nat) (bs : List Bk) : Prop where
  glt : g < n₀
  c0 : w.cell? ⟨g, 0, none⟩ = some (.slice A ds.length c)
  c2 : w.cell? ⟨g, 2, none⟩ = some (.bool bg)
  c3 : w.cell? ⟨g, 3, none⟩ = some (.slice KA bs.length kc)
  sig : PredRow w n₀ (.slice A ds.length c) ds
  row : ERow w n₀ (.slice KA bs.length kc) bs.length (bkVs bs)
  pts : ∀ b ∈ bs, TrRow w n₀ b.val b.ps
theorem WRd.below {w w' : World} {n₀ g c kc : Nat} {A KA : Option Addr} {ds : List Pd} {bg : Bool} {bs : List Bk} (h : WRd w n₀ g A c ds bg KA kc bs) (hb : Below n₀ w w') : WRd w' n₀ g A c ds bg KA kc bs :=
  ⟨h.glt, (hb.cell (p := ⟨g, 0, none⟩) h.glt).trans h.c0, (hb.cell (p := ⟨g, 2, none⟩) h.glt).trans h.c2, (hb.cell (p := ⟨g, 3, none⟩) h.glt).trans h.c3, h.sig.below hb, h.row.below hb, fun b hb2 => (h.pts b hb2).below hb⟩
theorem WAt.rd {w : World} {n g c kc : Nat} {A KA : Option Addr} {ds : List Pd} {most : Int} {bg cl : Bool} {bs : List Bk} (h : WAt w n g A c ds most bg cl KA kc bs) : WRd w w.heap.size g A c ds bg KA kc bs :=
  ⟨h.held.lt, h.cells.1, h.cells.2.2.1, h.cells.2.2.2.1, h.sig.more h.size, ERow.of_own h.blk.1, fun b hb => (h.blk.2 b hb).row⟩
set_option maxRecDepth 100000 in
set_option maxHeartbeats 4000000 in
theorem frames1_in (n : Nat) (hn : 1 ≤ n) (l B1 B2 n₀ g : Nat) (A : Option Addr) (c : Nat) (ds : List Pd) (bg : Bool) (KA : Option Addr) (kc : Nat) (bs : List Bk) (k : Nat) (hk : k ≤ bs.length) (J : List By → World → Prop) (W : World)
    (hY : ∀ pre x W0 W1, J pre W0 → Below W0.heap.size W0 W1 → ByOk x W1 → pre.length < bs.length + 1 → YieldAt Fence.wide (n - 1) Tryz.prog l #[x.val] W1 fun e W' => e = .returned (.bool true) ∧ J (pre ++ [x]) W' ∧ KeepsF n₀ B1 B2 W0.heap.size W1 W')
    (h1 : W.cell? ⟨B1, 0, none⟩ = some (.pointer (some ⟨g, 0, none⟩))) (h2 : W.cell? ⟨B2, 0, none⟩ = some (.int .i64 k)) (hl1 : B1 < W.heap.size) (hl2 : B2 < W.heap.size) (hn0 : n₀ ≤ W.heap.size) (hw : WRd W n₀ g A c ds bg KA kc bs) (h0 : J [] W) :
    CallsIn Fence.wide n Tryz.prog 139 #[.func (.yield l) #[] #[], .pointer (some ⟨B1, 0, none⟩), .pointer (some ⟨B2, 0, none⟩)] W fun e W' => (∃ v, e = .returned v) ∧ ∃ (ys : List By) (W0 : World), ys.map (·.xs) = framesL (ds.map (·.p)) bg (bs.take k) ∧ J ys W0 ∧ Below W0.heap.size W0 W' := by
  refine callsIn_of_wp Tryz.func139 rfl trivial ?_ rfl
  simp only [Tryz.ntmps139, List.size_toArray, List.length_cons, List.length_nil, Nat.reduceAdd, Nat.reduceSub, Array.replicate_succ, Array.replicate_zero, List.push_toArray, List.append_toArray, List.nil_append, List.cons_append]
  have HY := Lib.hid hY
  have HW := Lib.hid hw
  have H1 := Lib.hid h1
  have H2 := Lib.hid h2
  have c0 := hw.c0
  have c2 := hw.c2
  have c3 := hw.c3
  have hglt := hw.glt
  obtain ⟨-, kl1, kl2⟩ := hw.row.len
  have SF := Lib.hid (fun V (hb : Below n₀ W V) => sbframe_any A c ds V ((hw.sig.below hb).more (Nat.le_trans hn0 hb.size)))
  have BF := Lib.hid (fun V (hb : Below n₀ W V) (b : Bk) (hm : b ∈ bs) => bframe_any A c ds b.A b.c b.ps V ((hw.sig.below hb).more (Nat.le_trans hn0 hb.size)) (((hw.pts b hm).below hb).more (Nat.le_trans hn0 hb.size)))
  clear hY hw
  cases bg with
  | true =>
    have HKP := Lib.hid (KeepsF.refl n₀ B1 B2 0 W)
    obtain ⟨P0, hP0⟩ : ∃ P0 : List By, P0 = [] := ⟨_, rfl⟩
    have HPRE : Hid (P0.map (·.xs) = framesL (ds.map (·.p)) true (bs.take 0)) := Lib.hid (by rw [hP0]; rfl)
    have hpl : P0.length ≤ 1 := by rw [hP0]; exact Nat.zero_le _
    rw [← hP0] at h0
    have hJV := h0
    gi_wp2_with fail
    obtain ⟨V, hV⟩ : ∃ V, W = V := ⟨_, rfl⟩
    have hv1 : B1 < V.heap.size := by rw [← hV]; exact hl1
    have hv2 : B2 < V.heap.size := by rw [← hV]; exact hl2
    replace HKP : Hid (KeepsF n₀ B1 B2 0 W V) := by rw [← hV]; exact HKP
    rw [hV] at hJV
    conv => arg 7; rw [hV]
    clear c0 c2 c3 hP0
    have hrn : n₀ ≤ V.heap.size := Nat.le_trans hn0 HKP.out.1.size
    have v1 : V.cell? ⟨B1, 0, none⟩ = some (.pointer (some ⟨g, 0, none⟩)) := (World.cell?_of_block HKP.out.2.1).trans H1.out
    have v2 : V.cell? ⟨B2, 0, none⟩ = some (.int .i64 k) := (World.cell?_of_block HKP.out.2.2).trans H2.out
    have v3 := (HW.out.below HKP.out.1).c3
    have hkc : k ≤ kc := Nat.le_trans hk kl1
    have e1 : ¬ ((k : Int) < 0) := by omega
    have e2 : (0 : Int) ≤ k := by omega
    gi_wp2
    gi_region
    all_goals (
    gi_wp2
    gi_loopw [34] (fun iv wr => ∃ (j : Nat) (pre : List By) (W0 : World), iv = .int .i64 j ∧ j ≤ k ∧ pre.length ≤ j + 1 ∧ Hid (pre.map (·.xs) = framesL (ds.map (·.p)) true (bs.take j)) ∧ J pre W0 ∧ Below W0.heap.size W0 wr ∧ Hid (KeepsF n₀ B1 B2 0 W wr)) (fun iv _ => k - (intOf iv).toNat)
    case atStart => exact ⟨0, P0, V, rfl, Nat.zero_le _, by omega, HPRE, hJV, (Below.refl _ _).drew, Lib.hid (HKP.out.trans (KeepsF.below (m := 0) (Below.refl _ _).drew hrn hv1 hv2))⟩
    case round =>
      obtain ⟨j, pre, W0, rfl, hj, hpl2, HPR, hJs, hk0, HK⟩ := hrel
      have hr1 : wr.cell? ⟨B1, 0, none⟩ = some (.pointer (some ⟨g, 0, none⟩)) := (World.cell?_of_block HK.out.2.1).trans H1.out
      have HWR := Lib.hid (HW.out.below HK.out.1)
      have r0 := HWR.out.c0
      have hnr : n₀ ≤ wr.heap.size := Nat.le_trans hn0 HK.out.1.size
      by_cases hlt : j < k
      · obtain ⟨b, hb⟩ : ∃ b, bs[j]? = some b := ⟨_, List.getElem?_eq_getElem (by omega)⟩
        have hmem := List.mem_of_getElem? hb
        have hkz : 0 < bs.length := by omega
        obtain ⟨q, o, rfl, hq, hcell⟩ := HWR.out.row.block hkz
        have x0 := hcell j _ (bkVs_at hb)
        have HBF := Lib.hid (BF.out wr HK.out.1 b hmem)
        have HBY : Hid (∀ y ∈ (frameB (ds.map (·.p)) b.ps).1, 0 ≤ y ∧ y < 256) := Lib.hid (show ∀ y ∈ frB (ds.map (fun x : Pd => x.p)) b.ps, 0 ≤ y ∧ y < 256 from frB_bytes _ (HWR.out.pts b hmem).fits)
        have HTK := Lib.hid (show bs.take (j + 1) = bs.take j ++ [b] by rw [List.take_add_one, hb]; rfl)
        have hpre : pre.length < bs.length + 1 := by omega
        clear hb hmem hcell
        gi_wp2_with (refine ⟨trivial, ?_⟩; gi_at_call 141; refine (callsIn_wide.2 HBF.out).mono ?_; rintro e w4 ⟨A4, c4, rfl, hown4, hb4⟩; obtain ⟨fn, tmps, assign, body, hy, hR⟩ := HY.out pre ⟨A4, c4, (frameB (ds.map (·.p)) b.ps).1⟩ W0 w4 hJs (hk0.trans (hb4.mono hk0.size)) ⟨Row.of_own hown4, frB_length _ _, HBY.out⟩ hpre; dsimp only [By.val] at hy)
        refine hR.mono ?_
        rintro e W6 ⟨rfl, hJ6, hk6⟩
        have HK6 := Lib.hid ((HK.out.trans (m2 := 0) (KeepsF.below (m := 0) hb4 hnr (Nat.lt_of_lt_of_le hl1 HK.out.1.size) (Nat.lt_of_lt_of_le hl2 HK.out.1.size))).trans (m2 := 0) hk6)
        have HJ6 := Lib.hid hJ6
        clear hy hR hown4 hb4 hk6 hJ6
        gi_wp2
        go_roundw
        case rel =>
          refine ⟨j + 1, pre ++ [⟨A4, c4, (frameB (ds.map (·.p)) b.ps).1⟩], W6, by go_num, by omega, by simp; omega, Lib.hid ?_, HJ6.out, Below.refl _ _, HK6⟩
          rw [List.map_append, HPR.out, HTK.out]
          unfold framesL
          rw [List.map_append, List.append_assoc]
          rfl
        case measure => simp [intOf]; omega
      · obtain rfl : j = k := by omega
        gi_wp2
        go_end0
        exact ⟨⟨_, rfl⟩, pre, W0, HPR.out, hJs, hk0⟩)
  | false =>
    gi_wp2_with (refine ⟨trivial, ?_⟩; gi_at_call 140; refine (callsIn_wide.2 (SF.out W (Below.refl _ _))).mono ?_; rintro e w1 ⟨A1, c1, rfl, hown, hb1⟩; obtain ⟨fn, tmps, assign, body, hy, hR⟩ := HY.out [] ⟨A1, c1, (frameS (ds.map (·.p))).1⟩ W w1 h0 hb1 ⟨Row.of_own hown, frameS_length _, frameS_bytes _⟩ (Nat.succ_pos _); dsimp only [By.val] at hy)
    refine hR.mono ?_
    rintro e V ⟨rfl, hJV, hk3⟩
    have HKP := Lib.hid ((KeepsF.below (m := 0) hb1 hn0 hl1 hl2).trans (m2 := 0) hk3)
    obtain ⟨P0, hP0⟩ : ∃ P0 : List By, P0 = [] ++ [⟨A1, c1, (frameS (ds.map (·.p))).1⟩] := ⟨_, rfl⟩
    rw [← hP0] at hJV
    have HPRE : Hid (P0.map (·.xs) = framesL (ds.map (·.p)) false (bs.take 0)) := Lib.hid (by rw [hP0]; rfl)
    have hpl : P0.length ≤ 1 := by rw [hP0]; simp
    have hv1 : B1 < V.heap.size := Nat.lt_of_lt_of_le hl1 HKP.out.1.size
    have hv2 : B2 < V.heap.size := Nat.lt_of_lt_of_le hl2 HKP.out.1.size
    clear hy hR hown hb1 hk3 c0 c2 c3 h0 hP0
    have hrn : n₀ ≤ V.heap.size := Nat.le_trans hn0 HKP.out.1.size
    have v1 : V.cell? ⟨B1, 0, none⟩ = some (.pointer (some ⟨g, 0, none⟩)) := (World.cell?_of_block HKP.out.2.1).trans H1.out
    have v2 : V.cell? ⟨B2, 0, none⟩ = some (.int .i64 k) := (World.cell?_of_block HKP.out.2.2).trans H2.out
    have v3 := (HW.out.below HKP.out.1).c3
    have hkc : k ≤ kc := Nat.le_trans hk kl1
    have e1 : ¬ ((k : Int) < 0) := by omega
    have e2 : (0 : Int) ≤ k := by omega
    gi_wp2
    gi_region
    all_goals (
    gi_wp2
    gi_loopw [34] (fun iv wr => ∃ (j : Nat) (pre : List By) (W0 : World), iv = .int .i64 j ∧ j ≤ k ∧ pre.length ≤ j + 1 ∧ Hid (pre.map (·.xs) = framesL (ds.map (·.p)) false (bs.take j)) ∧ J pre W0 ∧ Below W0.heap.size W0 wr ∧ Hid (KeepsF n₀ B1 B2 0 W wr)) (fun iv _ => k - (intOf iv).toNat)
    case atStart => exact ⟨0, P0, V, rfl, Nat.zero_le _, by omega, HPRE, hJV, (Below.refl _ _).drew, Lib.hid (HKP.out.trans (KeepsF.below (m := 0) (Below.refl _ _).drew hrn hv1 hv2))⟩
    case round =>
      obtain ⟨j, pre, W0, rfl, hj, hpl2, HPR, hJs, hk0, HK⟩ := hrel
      have hr1 : wr.cell? ⟨B1, 0, none⟩ = some (.pointer (some ⟨g, 0, none⟩)) := (World.cell?_of_block HK.out.2.1).trans H1.out
      have HWR := Lib.hid (HW.out.below HK.out.1)
      have r0 := HWR.out.c0
      have hnr : n₀ ≤ wr.heap.size := Nat.le_trans hn0 HK.out.1.size
      by_cases hlt : j < k
      · obtain ⟨b, hb⟩ : ∃ b, bs[j]? = some b := ⟨_, List.getElem?_eq_getElem (by omega)⟩
        have hmem := List.mem_of_getElem? hb
        have hkz : 0 < bs.length := by omega
        obtain ⟨q, o, rfl, hq, hcell⟩ := HWR.out.row.block hkz
        have x0 := hcell j _ (bkVs_at hb)
        have HBF := Lib.hid (BF.out wr HK.out.1 b hmem)
        have HBY : Hid (∀ y ∈ (frameB (ds.map (·.p)) b.ps).1, 0 ≤ y ∧ y < 256) := Lib.hid (show ∀ y ∈ frB (ds.map (fun x : Pd => x.p)) b.ps, 0 ≤ y ∧ y < 256 from frB_bytes _ (HWR.out.pts b hmem).fits)
        have HTK := Lib.hid (show bs.take (j + 1) = bs.take j ++ [b] by rw [List.take_add_one, hb]; rfl)
        have hpre : pre.length < bs.length + 1 := by omega
        clear hb hmem hcell
        gi_wp2_with (refine ⟨trivial, ?_⟩; gi_at_call 141; refine (callsIn_wide.2 HBF.out).mono ?_; rintro e w4 ⟨A4, c4, rfl, hown4, hb4⟩; obtain ⟨fn, tmps, assign, body, hy, hR⟩ := HY.out pre ⟨A4, c4, (frameB (ds.map (·.p)) b.ps).1⟩ W0 w4 hJs (hk0.trans (hb4.mono hk0.size)) ⟨Row.of_own hown4, frB_length _ _, HBY.out⟩ hpre; dsimp only [By.val] at hy)
        refine hR.mono ?_
        rintro e W6 ⟨rfl, hJ6, hk6⟩
        have HK6 := Lib.hid ((HK.out.trans (m2 := 0) (KeepsF.below (m := 0) hb4 hnr (Nat.lt_of_lt_of_le hl1 HK.out.1.size) (Nat.lt_of_lt_of_le hl2 HK.out.1.size))).trans (m2 := 0) hk6)
        have HJ6 := Lib.hid hJ6
        clear hy hR hown4 hb4 hk6 hJ6
        gi_wp2
        go_roundw
        case rel =>
          refine ⟨j + 1, pre ++ [⟨A4, c4, (frameB (ds.map (·.p)) b.ps).1⟩], W6, by go_num, by omega, by simp; omega, Lib.hid ?_, HJ6.out, Below.refl _ _, HK6⟩
          rw [List.map_append, HPR.out, HTK.out]
          unfold framesL
          rw [List.map_append, List.append_assoc]
          rfl
        case measure => simp [intOf]; omega
      · obtain rfl : j = k := by omega
        gi_wp2
        go_end0
        exact ⟨⟨_, rfl⟩, pre, W0, HPR.out, hJs, hk0⟩)
end Go.Proofs.YtimihhcidbeonaaGreat

namespace Go.Proofs.YtimihhcidbeonaaGreat
open Go.RowKit Go.Shelf
set_option linter.unusedVariables false
attribute [local go_sem] Oper.semAt_some
theorem frames_hands (n : Nat) (hn : 1 ≤ n) (B1 B2 n₀ g : Nat) (A : Option Addr) (c : Nat) (ds : List Pd) (bg : Bool) (KA : Option Addr) (kc : Nat) (bs : List Bk) (k : Nat) (hk : k ≤ bs.length) (w : World)
    (h1 : w.cell? ⟨B1, 0, none⟩ = some (.pointer (some ⟨g, 0, none⟩))) (h2 : w.cell? ⟨B2, 0, none⟩ = some (.int .i64 k)) (hl1 : B1 < w.heap.size) (hl2 : B2 < w.heap.size) (hn0 : n₀ ≤ w.heap.size) (hw : WRd w n₀ g A c ds bg KA kc bs) :
    Hands Fence.wide n Tryz.prog 139 #[.pointer (some ⟨B1, 0, none⟩), .pointer (some ⟨B2, 0, none⟩)] (fun x : By => #[x.val]) ByOk (KeepsF n₀ B1 B2) (fun ys => ys.map (·.xs) = framesL (ds.map (·.p)) bg (bs.take k)) (bs.length + 1) w := fun l J W hW hY h0 =>
  frames1_in n hn l B1 B2 n₀ g A c ds bg KA kc bs k hk J W hY ((hW.cell (p := ⟨B1, 0, none⟩) hl1).trans h1) ((hW.cell (p := ⟨B2, 0, none⟩) hl2).trans h2) (Nat.lt_of_lt_of_le hl1 hW.size) (Nat.lt_of_lt_of_le hl2 hW.size) (Nat.le_trans hn0 hW.size) (hw.below (hW.mono hn0)) h0
/-- Between two rounds: what was handed on, one behind the other, in a box. -/
def TkI (w : World) (N0 : Nat) (p q : Value) (pre : List By) (W : World) : Prop :=
  (∃ v, Boxed W N0 23 v ∧ W.ownsRow N0 5 1 v (pre.map (·.xs)).flatten.length ((pre.map (·.xs)).flatten.map (.int .u8)) ∧ (pre.map (·.xs)).flatten.length ≤ 4200 * pre.length) ∧ Below N0 w W ∧ Boxed W (N0 + 1) 45 p ∧ Boxed W (N0 + 2) 3 q
def TkA (w : World) (N0 : Nat) (p q : Value) (fr : By → Act) (m : Nat) (pre : List By) (x : By) (a : Act) (W : World) : Prop := a = fr x ∧ TkI w N0 p q pre W ∧ ByOk x W
section
variable {w w' : World} {N0 b m : Nat} {p q : Value} {fr : By → Act} {pre : List By} {x : By}
theorem row_turned {row : Option Nat} {v : Value} {xs : List Int} (h : Row w w.heap.size v xs) (hg : w.grownBy w' row) (hr : ∀ r, row = some r → ∃ o : Obj, w.heap[r]? = some o ∧ o.isCells = false) : Row w' w'.heap.size v xs := by
  obtain ⟨A, c, rfl, h1, h2, h3, h4⟩ := h
  refine ⟨A, c, rfl, h1, h2, h3, fun h0 => ?_⟩
  obtain ⟨b, o, e, hb, hc⟩ := h4 h0
  refine ⟨b, o, e, Nat.lt_of_lt_of_le hb hg.size, fun i hi => hg.cell (hc i hi) fun e2 => ?_⟩
  obtain ⟨ob, h5, h6⟩ := hr b e2.symm
  have h7 := hc i hi
  simp only [World.cell?, h5] at h7
  cases ob <;> simp_all [Obj.isCells]
theorem tkI_own (hn : N0 ≤ w.heap.size) (hb : N0 ≤ b) : OwnFrom b (TkI w N0 p q) :=
  ((holdsRow_own N0 N0 23 5 1 (fun pre : List By => (pre.map (·.xs)).flatten.length) (fun pre => (pre.map (·.xs)).flatten.map (.int .u8)) (fun pre _ => (pre.map (·.xs)).flatten.length ≤ 4200 * pre.length)).from b).and
    ((ownFrom_below hn hb).and (((boxed_own (N0 + 1) 45 (fun _ => p)).from b).and ((boxed_own (N0 + 2) 3 (fun _ => q)).from b)))
theorem tkA_own {a : Act} (hn : N0 ≤ w.heap.size) (hb : N0 ≤ b) : OwnFrom b (fun (_ : Unit) W => TkA w N0 p q fr m pre x a W) := by
  rintro _ X Y row ⟨e, h1, h2, h3⟩ hg hr
  exact ⟨e, tkI_own hn hb pre X Y row h1 hg hr, row_turned h2 hg (fun r e => (hr r e).2), h3⟩
/-- What a round leaves. -/
theorem tk_round {W w1 : World} {v v' : Value} (hn : N0 ≤ w.heap.size) (hv : Boxed W N0 23 v) (ho : W.ownsRow N0 5 1 v (pre.map (·.xs)).flatten.length ((pre.map (·.xs)).flatten.map (.int .u8))) (hl : (pre.map (·.xs)).flatten.length ≤ 4200 * pre.length) (hb : Below N0 w W) (h1 : Boxed W (N0 + 1) 45 p) (h2 : Boxed W (N0 + 2) 3 q) (hx : x.xs.length ≤ 4200)
    (ho' : w1.ownsRow N0 5 1 v' ((pre.map (·.xs)).flatten.length + x.xs.length) ((pre.map (·.xs)).flatten.map (.int .u8) ++ x.xs.map (.int .u8))) (hg : W.grownBy w1 v.ownBlock) :
    Boxed w1 N0 23 v ∧ KeepsFrom b W (w1.setCell ⟨N0, 0, none⟩ v') ∧ KeepsF N0 (N0 + 1) (N0 + 2) m W (w1.setCell ⟨N0, 0, none⟩ v') ∧ TkI w N0 p q (pre ++ [x]) (w1.setCell ⟨N0, 0, none⟩ v') := by
  have hnW : N0 ≤ W.heap.size := Nat.le_trans hn hb.size
  have e1 : 23 ≠ 5 := by decide
  have e2 : 45 ≠ 5 := by decide
  have e3 : 3 ≠ 5 := by decide
  obtain ⟨g1, g2, g3, g4⟩ := boxed_grown hv e1 ho hnW (Nat.le_refl _) ho' hg
  have k1 : Boxed w1 (N0 + 1) 45 p := h1.kept hg (h1.not_row e2 ho)
  have k2 : Boxed w1 (N0 + 2) 3 q := h2.kept hg (h2.not_row e3 ho)
  have k3 : Boxed (w1.setCell ⟨N0, 0, none⟩ v') (N0 + 1) 45 p := k1.other (by omega) v'
  have k4 : Boxed (w1.setCell ⟨N0, 0, none⟩ v') (N0 + 2) 3 q := k2.other (by omega) v'
  have hfl : ((pre ++ [x]).map (·.xs)).flatten = (pre.map (·.xs)).flatten ++ x.xs := by simp
  refine ⟨g1, ?_, ⟨g4, k3.trans (show W.heap[N0 + 1]? = _ from h1).symm, k4.trans (show W.heap[N0 + 2]? = _ from h2).symm⟩, ⟨v', g2, ?_, ?_⟩, hb.trans g4, k3, k4⟩
  · refine ((KeepsOthers.of_grownBy hg fun j o ej hj => ?_).trans (KeepsOthers.setCell _ _ _)).from _
    rcases ho.2 with ⟨rfl, _⟩ | ⟨gg, cap, cur, rfl, _, hgb, _⟩
    · simp [Value.ownBlock] at ej
    · obtain rfl : gg = j := by simpa [Value.ownBlock] using ej
      rw [hgb] at hj
      cases hj
      rfl
  · rw [hfl, List.length_append, List.map_append]; exact g3
  · rw [hfl, List.length_append, List.length_append, List.length_singleton]; omega
end
section
variable {w w' : World} {n g c kc : Nat} {A KA : Option Addr} {ds : List Pd} {most : Int} {bg cl : Bool} {bs : List Bk}
theorem PartN.cut {S : Nat → Prop} (h : PartN (fun j => S j ∨ w.heap.size ≤ j) w w') : PartN S w w' := ⟨h.os, h.tape, h.output, h.size, fun i hi hn => h.block i hi (fun e => e.elim hn (fun e => by omega))⟩
theorem bkVs_drop (k : Nat) : bkVs (bs.drop k) = (bkVs bs).drop k := by unfold bkVs; rw [List.map_drop]
/-- The writer has begun. -/
theorem WAt.begun (h : WAt w n g A c ds most bg cl KA kc bs) : WAt (w.setCell ⟨g, 2, none⟩ (.bool true)) n g A c ds most true cl KA kc bs := by
  have hg := grown_put w g 2 (.bool true)
  refine ⟨h.held.put 2 _, h.low, h.sig.below ((Below.refl n w).grown hg h.size (fun j e => by injection e with e; have := h.low; omega)), h.blk.nott (NotT.of_held h.held tne7) (NotT.of_held h.held tne8) (NotT.of_held h.held tne10) (fun b hb => (NotT.of_held h.held tne9).ne (h.blk.2 b hb).1) hg, h.dif⟩
/-- Some of its blocks are left, in a row of their own. -/
theorem WAt.left {k n' kc' : Nat} {KA' : Option Addr} (h : WAt w n g A c ds most bg cl KA kc bs) (ho : w.ownsRow n' 26 1 (.slice KA' (bs.drop k).length kc') (bs.drop k).length (bkVs (bs.drop k))) (hn : n ≤ n') :
    WAt (w.setCell ⟨g, 3, none⟩ (.slice KA' (bs.drop k).length kc')) n g A c ds most bg cl KA' kc' (bs.drop k) := by
  have hg := grown_put w g 3 (.slice KA' (bs.drop k).length kc')
  have m4 := NotT.of_held h.held tne10
  refine ⟨h.held.put 3 _, h.low, h.sig.below ((Below.refl n w).grown hg h.size (fun j e => by injection e with e; have := h.low; omega)), ⟨own_nott (own_base ho hn) m4 hg, fun b hb => ?_⟩, fun i j x y q hi hj hij => ?_⟩
  · have hb2 := h.blk.2 b (List.mem_of_mem_drop hb)
    exact hb2.nott (NotT.of_held h.held tne7) (NotT.of_held h.held tne8) ((NotT.of_held h.held tne9).ne hb2.1) hg
  · rw [List.getElem?_drop] at hi hj
    exact h.dif (k + i) (k + j) x y q hi hj (by omega)
/-- A record that is no cells is turned. -/
theorem WAt.turned {D : Nat} {o o' : Obj} (h : WAt w n g A c ds most bg cl KA kc bs) (hD : w.heap[D]? = some o) (ho : o.isCells = false) (hn : n ≤ D) : WAt (w.putObj D o') n g A c ds most bg cl KA kc bs := by
  have hg := grownBy_putObj' w D o'
  have hne : ∀ e, NotT w (some D) e := by
    rintro e j c f hj hh
    injection hj with hj
    subst hj
    rw [hD] at hh
    injection hh with hh
    rw [hh] at ho
    cases ho
  have hgd : some g ≠ some D := by
    intro e
    injection e with e
    subst e
    have := h.held
    unfold Held at this
    rw [hD] at this
    injection this with this
    rw [this] at ho
    cases ho
  exact ⟨h.held.grown hg hgd, h.low, h.sig.below ((Below.refl n w).grown hg h.size (fun j e => by injection e with e; omega)), h.blk.nott (hne _) (hne _) (hne _) (fun b hb => (hne _).ne (h.blk.2 b hb).1) hg, h.dif⟩
/-- The blocks from one on. -/
theorem drop_row {B k : Nat} (h : ERow w B (.slice KA bs.length kc) bs.length (bkVs bs)) (hk : k ≤ bs.length) :
    (kc = k → ERow w B (.slice KA 0 0) (bs.drop k).length (bkVs (bs.drop k)) ∧ (bs.drop k).length = 0) ∧ (kc ≠ k → ERow w B (.slice (KA.map (fun x => x.add k)) (bs.length - k) (kc - k)) (bs.length - k) (bkVs (bs.drop k))) := by
  obtain ⟨A1, c1, hv, h1, h2, h3, h4⟩ := h
  injection hv with e1 e2 e3
  subst e1 e3
  refine ⟨fun e => ?_, fun e => ⟨_, _, rfl, by omega, by omega, fun e2 => ?_, fun h0 => ?_⟩⟩
  · have h0 : (bs.drop k).length = 0 := by rw [List.length_drop]; omega
    rw [h0]
    exact ⟨⟨KA, 0, rfl, Nat.le_refl _, Nat.zero_le _, fun _ => rfl, fun h => absurd h (by omega)⟩, rfl⟩
  · cases KA with
    | none => have := h3 rfl; omega
    | some a => cases e2
  · obtain ⟨b, o, rfl, hb, hc⟩ := h4 (by omega)
    refine ⟨b, o + k, by rw [Option.map_some, Go.WideShapes.add_plain], hb, fun i u hi => ?_⟩
    rw [bkVs_drop, List.getElem?_drop] at hi
    have := hc _ u hi
    rwa [← Nat.add_assoc] at this
end
def takeX (sig : List Pr) (bg : Bool) (bs : List Bk) : List Int := (framesL sig bg bs).flatten
def TakeGot (w : World) (n g : Nat) (A : Option Addr) (c : Nat) (ds : List Pd) (most : Int) (bg cl : Bool) (bs : List Bk) (k : Nat) (e : Ending) (w' : World) : Prop :=
  (∃ TA tc, e = .returned (.slice TA (takeX (ds.map (·.p)) bg (bs.take k)).length tc) ∧ w'.ownsRow w.heap.size 5 1 (.slice TA (takeX (ds.map (·.p)) bg (bs.take k)).length tc) (takeX (ds.map (·.p)) bg (bs.take k)).length ((takeX (ds.map (·.p)) bg (bs.take k)).map (.int .u8))) ∧
    (∃ KA' kc', WAt w' n g A c ds most true cl KA' kc' (bs.drop k) ∧ ∀ j, ob KA' = some j → w.heap.size ≤ j) ∧ PartN (fun j => j = g) w w'
set_option maxRecDepth 100000 in
set_option maxHeartbeats 4000000 in
theorem wtake_any {w : World} {n g c kc : Nat} {A KA : Option Addr} {ds : List Pd} {most : Int} {bg cl : Bool} {bs : List Bk} (h : WAt w n g A c ds most bg cl KA kc bs) (k : Nat) (hk : k ≤ bs.length) (hM : bs.length ≤ 1000000000) :
    Calls Tryz.prog 74 #[.pointer (some ⟨g, 0, none⟩), .int .i64 k] w (TakeGot w n g A c ds most bg cl bs k) := by
  obtain ⟨i8, hi8, hb0, hb1, hb2⟩ := info_parts Tryz.infoU8
  obtain ⟨N0, hN0⟩ : ∃ N0, w.heap.size = N0 := ⟨_, rfl⟩
  obtain ⟨w2, hw2⟩ : ∃ w2, ((w.alloc (.cells #[.slice none 0 0] 23)).alloc (.cells #[.pointer (some ⟨g, 0, none⟩)] 45)).alloc (.cells #[.int .i64 k] 3) = w2 := ⟨_, rfl⟩
  have s2 : w2.heap.size = N0 + 3 := by rw [← hw2]; simp [hN0]
  have b2 : Below N0 w w2 := by rw [← hw2, ← hN0]; exact (((Below.refl _ _).alloc (Nat.le_refl _) _).alloc (by simp) _).alloc (by simp; omega) _
  have v0 : Boxed w2 N0 23 (.slice none 0 0) := by rw [← hw2, ← hN0]; exact ((Boxed.new w 23 (.slice none 0 0)).alloc _).alloc _
  have v1 : Boxed w2 (N0 + 1) 45 (.pointer (some ⟨g, 0, none⟩)) := by
    have := (Boxed.new (w.alloc (.cells #[.slice none 0 0] 23)) 45 (.pointer (some ⟨g, 0, none⟩))).alloc (.cells #[.int .i64 k] 3)
    rw [World.size_alloc, hN0] at this
    rw [← hw2]
    exact this
  have v2 : Boxed w2 (N0 + 2) 3 (.int .i64 k) := by
    have := Boxed.new ((w.alloc (.cells #[.slice none 0 0] 23)).alloc (.cells #[.pointer (some ⟨g, 0, none⟩)] 45)) 3 (.int .i64 k)
    rw [World.size_alloc, World.size_alloc, hN0] at this
    rw [← hw2]
    exact this
  have hrd : WRd w2 N0 g A c ds bg KA kc bs := by rw [← hN0]; exact h.rd.below (by rw [hN0]; exact b2)
  have hglt : g < N0 := by rw [← hN0]; exact h.held.lt
  have HW := Lib.hid h
  have HM := Lib.hid hM
  refine (callsIn_wide (n := 5)).1 ?_
  refine callsIn_of_wp_marks Tryz.func74 rfl trivial ?_ rfl
  simp only [Tryz.ntmps74, List.size_toArray, List.length_cons, List.length_nil, Nat.reduceAdd, Nat.reduceSub, Array.replicate_succ, Array.replicate_zero, List.push_toArray, List.append_toArray, List.nil_append, List.cons_append]
  clear h hM
  gi_wp2_with (refine ⟨trivial, ?_⟩; gi_at_call 87; refine (callsIn_wide.2 (wframes_any _ _ _)).mono ?_; rintro e w3 ⟨rfl, rfl⟩)
  have hii : TkI w N0 (.pointer (some ⟨g, 0, none⟩)) (.int .i64 k) [] w2 := ⟨⟨_, v0, World.ownsRow_nil _ _ _ _, Nat.le_refl _⟩, b2, v1, v2⟩
  refine range_told rfl (by omega) (gf := 139) (lb := #[.pointer (some ⟨N0 + 1, 0, none⟩), .pointer (some ⟨N0 + 2, 0, none⟩)]) rfl trivial (enters_of Tryz.func139 (by kernel_rfl) rfl)
    (frames_hands (5 - 1) (by omega) (N0 + 1) (N0 + 2) N0 g A c ds bg KA kc bs k hk w2 v1.cell v2.cell (by omega) (by omega) (by omega) hrd) (fun _ => rfl) (fun h k => h.trans k) (fun m W l o o' hl hm h hc => KeepsF.turn (w := w2) (by omega) (by omega) (by omega) m W l o o' hl hm h hc)
    (TkI w N0 (.pointer (some ⟨g, 0, none⟩)) (.int .i64 k)) (tkI_own (by omega) (by omega)) hii
    (TkA w N0 (.pointer (some ⟨g, 0, none⟩)) (.int .i64 k) (fun x => { tmps := #[.pointer (some ⟨g, 0, none⟩), .int .i64 k, undef, undef, .slice none 0 0, .pointer (some ⟨N0, 0, none⟩), x.val, .pointer (some ⟨g, 0, none⟩), .int .i64 k, .func (.func 139) #[] #[.pointer (some ⟨N0 + 1, 0, none⟩), .pointer (some ⟨N0 + 2, 0, none⟩)], x.val, undef, undef, undef, undef, undef, undef, undef, undef, undef, undef, undef, undef, undef, undef, undef, undef, undef], defers := [] }))
    (fun m pre x a' => tkA_own (by omega) (by omega)) ?take ?body ?done
  case take =>
    rintro l pre x W0 W K hI hb hR _ hK
    have hI2 : TkI w N0 (.pointer (some ⟨g, 0, none⟩)) (.int .i64 k) pre W := ownFrom_below' (tkI_own (b := w2.heap.size) (by omega) (by omega)) hI hb
    have HK := Lib.hid (hK { tmps := #[.pointer (some ⟨g, 0, none⟩), .int .i64 k, undef, undef, .slice none 0 0, .pointer (some ⟨N0, 0, none⟩), x.val, .pointer (some ⟨g, 0, none⟩), .int .i64 k, .func (.func 139) #[] #[.pointer (some ⟨N0 + 1, 0, none⟩), .pointer (some ⟨N0 + 2, 0, none⟩)], x.val, undef, undef, undef, undef, undef, undef, undef, undef, undef, undef, undef, undef, undef, undef, undef, undef, undef], defers := [] } W ((KeepsOthers.refl _).from _) (KeepsF.refl _ _ _ _ _) ⟨rfl, hI2, hR⟩)
    clear hK hI hb hR hI2 hrd
    gi_wp2
    exact HK.out
  case body =>
    rintro l m pre x a' W ⟨rfl, ⟨⟨v, hv, ho, hl⟩, hb, h1, h2⟩, hx, hxl, -⟩ hlen
    have hR := fun v' w1 ho' hg => tk_round (b := N0 + 3) (m := m) (v' := v') (w1 := w1) (x := x) (by omega) hv ho hl hb h1 h2 hxl ho' hg
    obtain ⟨XL, hXL⟩ : ∃ XL, (pre.map (·.xs)).flatten.length = XL := ⟨_, rfl⟩
    rw [hXL] at hR ho hl
    clear hXL
    have HR := Lib.hid hR
    have HO := Lib.hid ho
    have HX := Lib.hid hx
    have HL := Lib.hid hl
    have HXL := Lib.hid hxl
    have hnW : N0 ≤ W.heap.size := Nat.le_trans (by omega) hb.size
    have hcB := hv.cell
    have HLEN := Lib.hid hlen
    clear hR ho hx hl hxl hb h1 h2 hv hrd hii hlen
    gi_wp2_with (gi_at_builtin; refine wpListIn_append_row _ rfl _ _ 23 rfl N0 5 i8 _ Tryz.underlying23 hi8 hb0 hb1 hb2 rfl v _ _ rfl HO.out _ _ x.xs rfl HX.out (by have := HL.out; have := HXL.out; have := HLEN.out; have := HM.out; omega) hnW ?_
                 intro v' w1 ho1 hg1 _; obtain ⟨q1, q2, q3, q4⟩ := HR.out v' w1 ho1 hg1
                 obtain ⟨A1, c1, ev⟩ := own_form ho1
                 subst ev
                 have hc1' := q1.cell; have hf1' := q1.frozen; have HKF := Lib.hid q2; have HKP := Lib.hid q3; have HBT := Lib.hid q4; clear ho1 hg1 q1 q2 q3 q4)
    exact ⟨by rw [s2]; exact HKF.out, HKP.out, HBT.out⟩
  case done =>
    rintro D ys W hD hS ⟨⟨v, hv, ho, hl⟩, hbe, h1, h2⟩ hK
    obtain ⟨X, hX⟩ : ∃ X, (ys.map (·.xs)).flatten = X := ⟨_, rfl⟩
    have HXE := Lib.hid (show X = takeX (ds.map (·.p)) bg (bs.take k) by rw [← hX, hS]; rfl)
    rw [hX] at ho
    have HWW := Lib.hid (HW.out.below (by rw [hN0]; exact hbe))
    have HBE := Lib.hid hbe
    obtain ⟨TA, tc, rfl⟩ := own_form ho
    have HO := Lib.hid ho
    have hgW : g < W.heap.size := HWW.out.held.lt
    have hfg := HWW.out.held.frozen 2
    have hg2 := HWW.out.cells.2.2.1
    obtain ⟨W5, hW5⟩ : ∃ W5, W.setCell ⟨g, 2, none⟩ (.bool true) = W5 := ⟨_, rfl⟩
    have HW5 : Hid (WAt W5 n g A c ds most true cl KA kc bs) := Lib.hid (by rw [← hW5]; exact HWW.out.begun)
    have gr5 : W.grownBy W5 (some g) := by rw [← hW5]; exact grown_put W g 2 _
    have HGR5 := Lib.hid gr5
    have y3 := HW5.out.cells.2.2.2.1
    have hg5 := HW5.out.held.lt
    have HNB := Lib.hid (show NotT W (some g) 5 from NotT.of_held HWW.out.held (by decide))
    have hv5 : Boxed W5 N0 23 (.slice TA X.length tc) := hv.kept gr5 (fun e => by injection e with e; omega)
    have hK5 : W5.heap[D]? = some (.deferred (some [])) := (gr5.block D (Array.getElem?_eq_some_iff.1 hK).1 (fun e => by injection e with e; omega)).trans hK
    have HO5 := Lib.hid (own_nott ho (NotT.of_held HWW.out.held (by decide)) gr5)
    have HV5 := Lib.hid hv5
    have HK5 := Lib.hid hK5
    obtain ⟨-, kl1, kl2⟩ := (ERow.of_own HW5.out.blk.1).len
    have HDR := Lib.hid (drop_row (ERow.of_own HW5.out.blk.1) hk)
    obtain ⟨r, hr⟩ : ∃ r, (bs.drop k).length = r := ⟨_, rfl⟩
    have HRL := Lib.hid (show r = bs.length - k by rw [← hr, List.length_drop])
    rw [hr] at HDR
    have HBC : Hid (∀ C cc r', ERow W5 W5.heap.size (.slice C r' cc) r (bkVs (bs.drop k)) → r' = r → Calls Tryz.prog 127 #[.slice C r' cc] W5 fun e w' => ∃ C2 c2, e = .returned (.slice C2 r c2) ∧ w'.ownsRow W5.heap.size 26 1 (.slice C2 r c2) r (bkVs (bs.drop k)) ∧ Below W5.heap.size W5 w') := Lib.hid fun C cc r' h1 h => by
      subst h
      have hb := bclone_any W5 C cc (bs.drop k) (by rw [hr]; exact h1) (by have := HM.out; rw [List.length_drop]; omega)
      rw [hr] at hb
      exact hb
    have HRR := Lib.hid hr
    have HLF := Lib.hid (fun (w6 : World) C2 c2 (h : WAt w6 n g A c ds most true cl KA kc bs) (ho : w6.ownsRow W5.heap.size 26 1 (.slice C2 r c2) r (bkVs (bs.drop k))) => show WAt (w6.setCell ⟨g, 3, none⟩ (.slice C2 r c2)) n g A c ds most true cl C2 c2 (bs.drop k) by
      have := h.left (k := k) (n' := W5.heap.size) (KA' := C2) (kc' := c2) (by rw [HRR.out]; exact ho) HW5.out.size
      rw [HRR.out] at this
      exact this)
    clear hr
    have HM2 := Lib.hid HM.out
    clear ho hv hbe h1 h2 hS hX hl gr5 hv5 hK5 hrd hii hK
    rcases (show kc = k ∨ ¬ kc = k by omega) with rfl | hkk
    · have HD1 := Lib.hid (HDR.out.1 rfl)
      gi_wp2_with fail
      refine ⟨trivial, ?_⟩
      refine (callsIn_wide.2 (HBC.out _ _ _ HD1.out.1 HD1.out.2.symm)).mono ?_
      rintro e w6 ⟨C2, c2, rfl, hown6, hb6⟩
      have h6 := HW5.out.below hb6
      have y6 := h6.held.frozen 3
      have z6 := h6.cells.2.2.2.1
      have hg6 := h6.held.lt
      have v6 := (show Boxed w6 N0 23 (.slice TA X.length tc) from (hb6.block N0 HV5.out.lt).trans HV5.out).cell
      have HOWN6 := Lib.hid hown6
      have HB6 := Lib.hid hb6
      have HW6 := Lib.hid h6
      clear hown6 hb6 h6
      gi_wp2
      have HW7 := Lib.hid (HLF.out w6 C2 c2 HW6.out HOWN6.out)
      have gr7 := grown_put w6 g 3 (.slice C2 r c2)
      have hK7 : (w6.setCell ⟨g, 3, none⟩ (.slice C2 r c2)).heap[D]? = some (.deferred (some [])) := (gr7.block D (Nat.lt_of_lt_of_le (Array.getElem?_eq_some_iff.1 HK5.out).1 HB6.out.size) (fun e => by injection e with e; omega)).trans ((HB6.out.block D (Array.getElem?_eq_some_iff.1 HK5.out).1).trans HK5.out)
      refine ⟨by simp, .inl ⟨_, _, rfl, run_takeDeferred hK7, ?_⟩⟩
      refine ⟨_, results_tmp rfl _ _ _, ?_⟩
      refine ⟨⟨TA, tc, by rw [← HXE.out]; rfl, ?_⟩, ⟨C2, c2, HW7.out.turned hK7 rfl (Nat.le_trans (Nat.le_trans HW5.out.low (Nat.le_of_lt hglt)) (by omega)), fun j hj => ?_⟩, PartN.cut ?_⟩
      · rw [← HXE.out]
        rw [hN0]
        exact ownsRow_putObj (own_nott (own_below HO5.out HB6.out) (NotT.of_held HW6.out.held (by decide)) gr7) _ hK7 rfl
      · have h1 := (World.ownsRow.lt HOWN6.out j (by rw [ob_own]; exact hj)).1
        have h2 := HGR5.out.size
        have h3 := HBE.out.size
        omega
      · refine (((((PartN.of_below (by rw [hN0]; exact HBE.out)).trans (PartN.of_grown HGR5.out (S := fun j => j = g ∨ w.heap.size ≤ j) (fun j e => by injection e with e; exact .inl e.symm))).trans (PartN.of_below HB6.out)).trans (PartN.put (.inl rfl) 3 _)).trans (PartN.of_grown (grownBy_putObj' _ D _) (fun j e => by injection e with e; exact .inr (by omega))))
    · have HD1 : Hid (ERow W5 W5.heap.size (.slice (KA.map (fun x => x.add k)) (bs.length - k) (kc - k)) r (bkVs (bs.drop k))) := Lib.hid (by rw [HRL.out]; have := HDR.out.2 hkk; exact this)
      gi_wp2_with fail
      refine ⟨trivial, ?_⟩
      refine (callsIn_wide.2 (HBC.out _ _ _ HD1.out HRL.out.symm)).mono ?_
      rintro e w6 ⟨C2, c2, rfl, hown6, hb6⟩
      have h6 := HW5.out.below hb6
      have y6 := h6.held.frozen 3
      have z6 := h6.cells.2.2.2.1
      have hg6 := h6.held.lt
      have v6 := (show Boxed w6 N0 23 (.slice TA X.length tc) from (hb6.block N0 HV5.out.lt).trans HV5.out).cell
      have HOWN6 := Lib.hid hown6
      have HB6 := Lib.hid hb6
      have HW6 := Lib.hid h6
      clear hown6 hb6 h6
      gi_wp2
      have HW7 := Lib.hid (HLF.out w6 C2 c2 HW6.out HOWN6.out)
      have gr7 := grown_put w6 g 3 (.slice C2 r c2)
      have hK7 : (w6.setCell ⟨g, 3, none⟩ (.slice C2 r c2)).heap[D]? = some (.deferred (some [])) := (gr7.block D (Nat.lt_of_lt_of_le (Array.getElem?_eq_some_iff.1 HK5.out).1 HB6.out.size) (fun e => by injection e with e; omega)).trans ((HB6.out.block D (Array.getElem?_eq_some_iff.1 HK5.out).1).trans HK5.out)
      refine ⟨by simp, .inl ⟨_, _, rfl, run_takeDeferred hK7, ?_⟩⟩
      refine ⟨_, results_tmp rfl _ _ _, ?_⟩
      refine ⟨⟨TA, tc, by rw [← HXE.out]; rfl, ?_⟩, ⟨C2, c2, HW7.out.turned hK7 rfl (Nat.le_trans (Nat.le_trans HW5.out.low (Nat.le_of_lt hglt)) (by omega)), fun j hj => ?_⟩, PartN.cut ?_⟩
      · rw [← HXE.out]
        rw [hN0]
        exact ownsRow_putObj (own_nott (own_below HO5.out HB6.out) (NotT.of_held HW6.out.held (by decide)) gr7) _ hK7 rfl
      · have h1 := (World.ownsRow.lt HOWN6.out j (by rw [ob_own]; exact hj)).1
        have h2 := HGR5.out.size
        have h3 := HBE.out.size
        omega
      · refine (((((PartN.of_below (by rw [hN0]; exact HBE.out)).trans (PartN.of_grown HGR5.out (S := fun j => j = g ∨ w.heap.size ≤ j) (fun j e => by injection e with e; exact .inl e.symm))).trans (PartN.of_below HB6.out)).trans (PartN.put (.inl rfl) 3 _)).trans (PartN.of_grown (grownBy_putObj' _ D _) (fun j e => by injection e with e; exact .inr (by omega))))
end Go.Proofs.YtimihhcidbeonaaGreat

namespace Go.Proofs.YtimihhcidbeonaaGreat
open Go.RowKit
def SameC : Prop := ∀ (A1 : Option Addr) (c1 : Nat) (ds1 : List Pd) (A2 : Option Addr) (c2 : Nat) (ds2 : List Pd) (w : World), PredRow w w.heap.size (.slice A1 ds1.length c1) ds1 → PredRow w w.heap.size (.slice A2 ds2.length c2) ds2 →
  Calls Tryz.prog 179 #[.slice A1 ds1.length c1, .slice A2 ds2.length c2] w fun e w' => e = .returned (.bool (decide (ds1.map (·.p) = ds2.map (·.p)))) ∧ Below w.heap.size w w'
end Go.Proofs.YtimihhcidbeonaaGreat

namespace Go.Proofs.YtimihhcidbeonaaGreat
open Go.RowKit
set_option maxRecDepth 100000 in
set_option maxHeartbeats 2000000 in
theorem rsigsame_any (A1 : Option Addr) (c1 : Nat) (ds1 : List Pd) (A2 : Option Addr) (c2 : Nat) (ds2 : List Pd) (w : World) (hrow1 : PredRow w w.heap.size (.slice A1 ds1.length c1) ds1) (hrow2 : PredRow w w.heap.size (.slice A2 ds2.length c2) ds2) :
    Calls Tryz.prog 34 #[.slice A1 ds1.length c1, .slice A2 ds2.length c2] w fun e w' => e = .returned (.bool (decide (ds1.map (·.p) = ds2.map (·.p)))) ∧ Below w.heap.size w w' := by
  obtain ⟨_, hc1, hc2⟩ : ∃ _ : True, ds1.length ≤ c1 ∧ c1 ≤ 9223372036854775807 := by
    obtain ⟨A', c', hv, q1, q2⟩ := hrow1.form
    injection hv with _ _ e3
    exact ⟨trivial, by omega, by omega⟩
  obtain ⟨_, hc3, hc4⟩ : ∃ _ : True, ds2.length ≤ c2 ∧ c2 ≤ 9223372036854775807 := by
    obtain ⟨A', c', hv, q1, q2⟩ := hrow2.form
    injection hv with _ _ e3
    exact ⟨trivial, by omega, by omega⟩
  by_cases hl : ds1.length = ds2.length
  · have hyes := fun h => decide_eq_true (prs_ext (l := ds1.map (·.p)) (m := ds2.map (·.p)) (by simpa using hl) h)
    have hno := fun (i : Nat) (h : (ds1.map (·.p)).getD i default ≠ (ds2.map (·.p)).getD i default) => decide_eq_false (p := ds1.map (·.p) = ds2.map (·.p)) (fun e => h (by rw [e]))
    generalize decide (ds1.map (·.p) = ds2.map (·.p)) = R at hyes hno ⊢
    have HY := Lib.hid hyes
    have HN := Lib.hid hno
    have HR1 := Lib.hid hrow1
    have HR2 := Lib.hid hrow2
    clear hyes hno hrow1 hrow2
    rw [← hl] at hc3
    have HL := Lib.hid hl
    rw [← hl] at HR2 ⊢
    clear hl
    obtain ⟨N, hN⟩ : ∃ N, ds1.length = N := ⟨_, rfl⟩
    have HN1 := Lib.hid hN
    rw [hN] at HR1 HR2 hc1 hc3 HL ⊢
    clear hN
    go_enter Tryz.func34, Tryz.ntmps34
    go_wp2_with fail
    go_loopg [5] N (fun gk i wr => ∃ k : Nat, k ≤ N ∧ i = .int .i64 k ∧ Hid (N - k = gk) ∧ Hid (∀ j, j < k → (ds1.map (·.p)).getD j default = (ds2.map (·.p)).getD j default) ∧ Below w.heap.size w wr)
    case atStart => exact ⟨0, Nat.zero_le _, rfl, Lib.hid rfl, Lib.hid (fun j h => absurd h (Nat.not_lt_zero _)), Below.refl _ _⟩
    case round =>
      obtain ⟨k, hk, rfl, HGK, HJ, hbw⟩ := hrel
      by_cases hlt : k < N
      · obtain ⟨d1, hd1⟩ : ∃ d, ds1[k]? = some d := ⟨_, List.getElem?_eq_getElem (by rw [HN1.out]; exact hlt)⟩
        obtain ⟨d2, hd2⟩ : ∃ d, ds2[k]? = some d := ⟨_, List.getElem?_eq_getElem (by rw [← HL.out]; exact hlt)⟩
        obtain ⟨b1, o1, rfl, hb1, x0, x1, hir1, hfit1, ha1, ha2⟩ := (HR1.out.below hbw).at hd1
        obtain ⟨b2, o2, rfl, hb2, y0, y1, hir2, hfit2, ha3, ha4⟩ := (HR2.out.below hbw).at hd2
        have e1 := getD_pr (at_pr hd1)
        have e2 := getD_pr (at_pr hd2)
        have hno := HN.out k
        rw [e1, e2] at hno
        have hst := fun (h : d1.p = d2.p) => step_lt (P := fun j => (ds1.map (·.p)).getD j default = (ds2.map (·.p)).getD j default) HJ.out (by rw [e1, e2]; exact h)
        have hf1 := hfit1.2.1
        have hf2 := hfit2.2.1
        clear e1 e2 hd1 hd2 hfit1 hfit2
        obtain ⟨⟨nm1, as1⟩, B1, e1⟩ := d1
        obtain ⟨⟨nm2, as2⟩, B2, e2⟩ := d2
        simp only at x0 x1 y0 y1 hir1 hir2 ha1 ha2 ha3 ha4 hno hst hf1 hf2
        by_cases hnm : nm1 = nm2
        · subst hnm
          by_cases hal : as1.length = as2.length
          · have hne : ((as1.length : Int) != (as2.length : Int)) = false := by rw [hal]; simp
            have HNO := Lib.hid (fun m (h : as1.getD m 0 ≠ as2.getD m 0) => hno (fun e => h (by injection e with _ e; rw [e])))
            have HST := Lib.hid (fun h => hst (by rw [args_ext hal h]))
            have HI1 := Lib.hid (fun W (h : Below w.heap.size wr W) => hir1.below h)
            have HI2 := Lib.hid (fun W (h : Below w.heap.size wr W) => hir2.below h)
            have hxx := fun W (h : Below w.heap.size wr W) => (h.cell (p := ⟨b1, o1 + k * 2 + 1, none⟩) hb1).trans x1
            have hyy := fun W (h : Below w.heap.size wr W) => (h.cell (p := ⟨b2, o2 + k * 2 + 1, none⟩) hb2).trans y1
            have HXX := Lib.hid hxx
            have HYY := Lib.hid hyy
            have HBW := Lib.hid hbw
            clear hno hst hf1 hf2 hir1 hir2 hxx hyy hbw
            rw [← hal] at ha3
            have HAL := Lib.hid hal
            clear hal
            have hlen2 : as2.length = as1.length := HAL.out.symm
            rw [hlen2] at y1 hne HI2 HYY
            clear hlen2
            go_wp2_with fail
            go_quiet (fail)
            go_wp2_with fail
            go_loopg [6] as1.length (fun gm i wr2 => ∃ m : Nat, m ≤ as1.length ∧ i = .int .i64 m ∧ Hid (as1.length - m = gm) ∧ Hid (∀ j, j < m → as1.getD j 0 = as2.getD j 0) ∧ Below w.heap.size wr wr2)
            case atStart => exact ⟨0, Nat.zero_le _, rfl, Lib.hid rfl, Lib.hid (fun j h => absurd h (Nat.not_lt_zero _)), drewN_low _ _ _⟩
            case round =>
              obtain ⟨m, hm, rfl, HGM, HI, hbw2⟩ := hrel
              have x1' := HXX.out _ hbw2
              have y1' := HYY.out _ hbw2
              by_cases hml : m < as1.length
              · obtain ⟨q1, r1, rfl, hq1, t1⟩ := (HI1.out _ hbw2).at hml
                obtain ⟨q2, r2, rfl, hq2, t2⟩ := (HI2.out _ hbw2).at (by rw [← HAL.out]; exact hml)
                by_cases he : as1.getD m 0 = as2.getD m 0
                · have HI3 := Lib.hid (step_lt (P := fun j => as1.getD j 0 = as2.getD j 0) HI.out he)
                  rw [he] at t1
                  generalize as2.getD m 0 = t at t1 t2
                  have HB2 := Lib.hid hbw2
                  clear he hbw2 x1 y1
                  go_wp2_with fail
                  go_quiet (fail)
                  go_wp2_with fail
                  go_roundg (as1.length - (m + 1))
                  case measure => have := HGM.out; omega
                  case rel => exact ⟨m + 1, by omega, by go_num, Lib.hid rfl, HI3, HB2.out.trans (drewN_low _ _ _)⟩
                · have HR := Lib.hid (HNO.out m he)
                  generalize as1.getD m 0 = s1 at t1 he
                  generalize as2.getD m 0 = s2 at t2 he
                  have hse : (s1 != s2) = true := bne_iff_ne.2 he
                  have HB2 := Lib.hid hbw2
                  clear he hbw2 x1 y1
                  go_wp2_with fail
                  go_quiet (fail)
                  go_wp2_with fail
                  go_ret
                  exact ⟨by rw [HR.out]; rfl, (HBW.out.trans HB2.out).trans (drewN_low _ _ _)⟩
              · obtain rfl : m = as1.length := by omega
                have HJ2 := Lib.hid (HST.out HI.out)
                have HB2 := Lib.hid hbw2
                clear hbw2 x1 y1
                go_wp2_with fail
                go_roundg (N - (k + 1))
                case measure => have := HGK.out; omega
                case rel => exact ⟨k + 1, by omega, by go_num, Lib.hid rfl, HJ2, HBW.out.trans HB2.out⟩
          · have hR := hno (fun h => hal (by injection h with _ h; rw [h]))
            have hne : ((as1.length : Int) != (as2.length : Int)) = true := bne_iff_ne.2 (by omega)
            have HR := Lib.hid hR
            clear hno hst hf1 hf2 hR hir1 hir2
            have HBW := Lib.hid hbw
            clear hbw
            go_wp2_with fail
            go_quiet (fail)
            go_wp2_with fail
            go_ret
            exact ⟨by rw [HR.out]; rfl, HBW.out.trans (drewN_low _ _ _)⟩
        · have hR := hno (fun h => hnm (by injection h))
          have hne := str_ne hf1 hf2 hnm
          have HR := Lib.hid hR
          clear hno hst hf1 hf2 hR hir1 hir2 hnm
          have HBW := Lib.hid hbw
          clear hbw
          go_wp2_with fail
          go_quiet (fail)
          go_wp2_with fail
          go_ret
          exact ⟨by rw [HR.out]; rfl, HBW.out.trans (drewN_low _ _ _)⟩
      · obtain rfl : k = N := by omega
        have HR := Lib.hid (HY.out (fun i hi => HJ.out i (by rw [List.length_map, HN1.out] at hi; exact hi)))
        go_wp2_with fail
        go_ret
        exact ⟨by rw [HR.out]; rfl, hbw⟩
  · have hlb : ((ds1.length : Int) != (ds2.length : Int)) = true := bne_iff_ne.2 (by omega)
    have hf : decide (ds1.map (·.p) = ds2.map (·.p)) = false := decide_eq_false (fun e => hl (by have := congrArg List.length e; simpa using this))
    rw [hf]
    clear hf
    go_enter Tryz.func34, Tryz.ntmps34
    go_wp2_with fail
    go_ret
    exact ⟨rfl, Below.refl _ _⟩
end Go.Proofs.YtimihhcidbeonaaGreat

namespace Go.Proofs.YtimihhcidbeonaaGreat
open Go.RowKit
set_option maxRecDepth 100000 in
set_option maxHeartbeats 2000000 in
theorem equal_any (A1 : Option Addr) (c1 : Nat) (l1 : List Int) (A2 : Option Addr) (c2 : Nat) (l2 : List Int) (w : World) (hrow1 : IRow w w.heap.size (.slice A1 l1.length c1) l1) (hrow2 : IRow w w.heap.size (.slice A2 l2.length c2) l2) :
    Calls Tryz.prog 215 #[.slice A1 l1.length c1, .slice A2 l2.length c2] w fun e w' => e = .returned (.bool (decide (l1 = l2))) ∧ Below w.heap.size w w' := by
  by_cases hl : l1.length = l2.length
  · have hyes := fun h => decide_eq_true (args_ext (l := l1) (m := l2) hl h)
    have hno := fun (i : Nat) (h : l1.getD i 0 ≠ l2.getD i 0) => decide_eq_false (p := l1 = l2) (fun e => h (by rw [e]))
    generalize decide (l1 = l2) = R at hyes hno ⊢
    have HY := Lib.hid hyes
    have HN := Lib.hid hno
    have HI1 := Lib.hid (fun W (h : Below w.heap.size w W) => hrow1.below h)
    have HI2 := Lib.hid (fun W (h : Below w.heap.size w W) => hrow2.below h)
    have hlt : l1.length ≤ 9223372036854775807 := by
      obtain ⟨_, _, _, q1, q2, _⟩ := hrow1
      rw [List.length_map] at q1
      unfold maxLen at q2
      omega
    clear hyes hno hrow1 hrow2
    have HL := Lib.hid hl
    rw [← hl] at HI2 ⊢
    clear hl
    go_enter Tryz.func215, Tryz.ntmps215
    go_wp2_with fail
    go_loopg [13] l1.length (fun gm i wr2 => ∃ m : Nat, m ≤ l1.length ∧ i = .int .i64 m ∧ Hid (l1.length - m = gm) ∧ Hid (∀ j, j < m → l1.getD j 0 = l2.getD j 0) ∧ Below w.heap.size w wr2)
    case atStart => exact ⟨0, Nat.zero_le _, rfl, Lib.hid rfl, Lib.hid (fun j h => absurd h (Nat.not_lt_zero _)), Below.refl _ _⟩
    case round =>
      obtain ⟨m, hm, rfl, HGM, HI, hbw2⟩ := hrel
      by_cases hml : m < l1.length
      · obtain ⟨q1, r1, rfl, hq1, t1⟩ := (HI1.out _ hbw2).at hml
        obtain ⟨q2, r2, rfl, hq2, t2⟩ := (HI2.out _ hbw2).at (by rw [← HL.out]; exact hml)
        by_cases he : l1.getD m 0 = l2.getD m 0
        · have HI3 := Lib.hid (step_lt (P := fun j => l1.getD j 0 = l2.getD j 0) HI.out he)
          rw [he] at t1
          generalize l2.getD m 0 = t at t1 t2
          have HB2 := Lib.hid hbw2
          clear he hbw2
          go_wp2_with fail
          go_quiet (fail)
          go_wp2_with fail
          go_roundg (l1.length - (m + 1))
          case measure => have := HGM.out; omega
          case rel => exact ⟨m + 1, by omega, by go_num, Lib.hid rfl, HI3, HB2.out.trans (drewN_low _ _ _)⟩
        · have HR := Lib.hid (HN.out m he)
          generalize l1.getD m 0 = s1 at t1 he
          generalize l2.getD m 0 = s2 at t2 he
          have hse : (s1 != s2) = true := bne_iff_ne.2 he
          have HB2 := Lib.hid hbw2
          clear he hbw2
          go_wp2_with fail
          go_quiet (fail)
          go_wp2_with fail
          go_ret
          exact ⟨by rw [HR.out]; rfl, HB2.out.trans (drewN_low _ _ _)⟩
      · obtain rfl : m = l1.length := by omega
        have HR := Lib.hid (HY.out HI.out)
        have HB2 := Lib.hid hbw2
        clear hbw2
        go_wp2_with fail
        go_ret
        exact ⟨by rw [HR.out]; rfl, HB2.out⟩
  · have hlb : ((l1.length : Int) != (l2.length : Int)) = true := bne_iff_ne.2 (by omega)
    have hf : decide (l1 = l2) = false := decide_eq_false (fun e => hl (by rw [e]))
    rw [hf]
    clear hf hrow1 hrow2
    go_enter Tryz.func215, Tryz.ntmps215
    go_wp2_with fail
    go_ret
    exact ⟨rfl, Below.refl _ _⟩
theorem run_eql_key (w : World) (a b : ByteArray) : (binOp .eql 169 (.agg #[.string a]) (.agg #[.string b])).run Tryz.prog w = .ok (.bool (a.toList == b.toList)) w := by
  have h := key_eq w a b
  unfold Op.equal at h
  rw [run_eql_struct, show (10000 : Nat) = Op.maxDepth from rfl, h]
  rfl
theorem pr_eq_dec (p q : Pr) : decide (p = q) = (decide (p.name = q.name) && decide (p.args = q.args)) := by
  obtain ⟨a, b⟩ := p
  obtain ⟨c, d⟩ := q
  by_cases h1 : a = c <;> by_cases h2 : b = d <;> simp [h1, h2]
set_option maxRecDepth 100000 in
set_option maxHeartbeats 2000000 in
theorem spred_any (d1 d2 : Pd) (w : World) (f1 : ∀ x ∈ d1.p.name, 0 ≤ x ∧ x < 256) (f2 : ∀ x ∈ d2.p.name, 0 ≤ x ∧ x < 256) (hrow1 : IRow w w.heap.size (.slice d1.A d1.p.args.length d1.c) d1.p.args) (hrow2 : IRow w w.heap.size (.slice d2.A d2.p.args.length d2.c) d2.p.args) :
    Calls Tryz.prog 203 #[d1.val, d2.val] w fun e w' => e = .returned (.bool (decide (d1.p = d2.p))) ∧ Below w.heap.size w w' := by
  obtain ⟨⟨nm1, l1⟩, A1, c1⟩ := d1
  obtain ⟨⟨nm2, l2⟩, A2, c2⟩ := d2
  simp only at f1 f2 hrow1 hrow2
  rw [pr_eq_dec]
  dsimp only [Pd.val]
  have hde := str_eq_dec f1 f2
  have HIE := Lib.hid (fun W (h : Below w.heap.size w W) => equal_any A1 c1 l1 A2 c2 l2 W ((hrow1.below h).more h.size) ((hrow2.below h).more h.size))
  clear f1 f2 hrow1 hrow2
  generalize decide (l1 = l2) = E at HIE ⊢
  generalize l1.length = n1 at HIE ⊢
  generalize l2.length = n2 at HIE ⊢
  have HK1 := Lib.hid (fun W => key_any (strOfNums nm1) A1 n1 c1 W)
  have HK2 := Lib.hid (fun W => key_any (strOfNums nm2) A2 n2 c2 W)
  have hke := fun W => run_eql_key W (strOfNums nm1) (strOfNums nm2)
  rw [hde] at hke
  generalize strOfNums nm1 = s1 at HK1 hke hde ⊢
  generalize strOfNums nm2 = s2 at HK2 hke hde ⊢
  obtain ⟨w1, hw1⟩ : ∃ w1, (w.alloc (.cells #[.string s1, .slice A1 n1 c1] 88)).alloc (.cells #[.string s2, .slice A2 n2 c2] 88) = w1 := ⟨_, rfl⟩
  have s1' : w1.heap.size = w.heap.size + 1 + 1 := by rw [← hw1]; simp
  have b1 : Below w.heap.size w w1 := by rw [← hw1]; exact ((Below.refl _ _).alloc (Nat.le_refl _) _).alloc (by simp) _
  have h1 : Held w1 w.heap.size 88 #[.string s1, .slice A1 n1 c1] := by
    rw [← hw1]
    exact Held.below (heap_alloc_new w _) ((Below.refl _ _).alloc (Nat.le_refl _) _) (by simp)
  have h2 : Held w1 (w.heap.size + 1) 88 #[.string s2, .slice A2 n2 c2] := by
    rw [← hw1, show w.heap.size + 1 = (w.alloc (.cells #[.string s1, .slice A1 n1 c1] 88)).heap.size by simp]
    exact heap_alloc_new _ _
  have hall : ∀ W, Below w1.heap.size w1 W → Below w1.heap.size w1 W ∧ W.cell? ⟨w.heap.size, 0, none⟩ = some (.string s1) ∧ W.cell? ⟨w.heap.size, 1, none⟩ = some (.slice A1 n1 c1) ∧ W.cell? ⟨w.heap.size + 1, 0, none⟩ = some (.string s2) ∧ W.cell? ⟨w.heap.size + 1, 1, none⟩ = some (.slice A2 n2 c2) := fun W h => by
    have g1 := h1.below h (by omega)
    have g2 := h2.below h (by omega)
    have e0 := g1.cell 0
    have e1 := g1.cell 1
    have e2 := g2.cell 0
    have e3 := g2.cell 1
    exact ⟨h, by simpa using e0, by simpa using e1, by simpa using e2, by simpa using e3⟩
  have HALL := Lib.hid hall
  have HB1 := Lib.hid b1
  clear hall h1 h2 b1
  have hkp : ∀ W W', Below w1.heap.size w1 W → Below W.heap.size W W' → Below w1.heap.size w1 W' := fun W W' h h' => h.trans (h'.mono h.size)
  have HKP := Lib.hid hkp
  clear hkp
  cases hd : decide (nm1 = nm2) with
  | false =>
    rw [hd] at hke hde
    clear hd
    rw [Bool.false_and]
    clear hke
    go_enter Tryz.func203, Tryz.ntmps203
    go_wp2_with fail
    clear hw1
    have hS0 := HALL.out _ (Below.refl _ _).drew
    refine wp_region_held_drew (S := fun W => Below w1.heap.size w1 W ∧ W.cell? ⟨w.heap.size, 0, none⟩ = some (.string s1) ∧ W.cell? ⟨w.heap.size, 1, none⟩ = some (.slice A1 n1 c1) ∧ W.cell? ⟨w.heap.size + 1, 0, none⟩ = some (.string s2) ∧ W.cell? ⟨w.heap.size + 1, 1, none⟩ = some (.slice A2 n2 c2)) (by kernel_rfl) hS0 (fun _ => ?_)
    refine wpAnyH_take (i := 0) (v := .agg #[.string s1, .slice A1 n1 c1]) rfl (by kernel_rfl) (by kernel_rfl) (by kernel_rfl) (fun _ _ _ h => h) (Or.inl ⟨by rfl, fun W hW => by obtain ⟨_, q0, q1, q2, q3⟩ := hW; go_simp⟩) hS0 ?_
    try simp only [List.getElem_toArray, List.getElem_cons_zero, Act.put, List.setIfInBounds_toArray, List.set_cons_zero, List.set_cons_succ]
    refine wpAnyH_take (i := 2) (v := .agg #[.string s2, .slice A2 n2 c2]) rfl (by kernel_rfl) (by kernel_rfl) (by kernel_rfl) (fun _ _ _ h => h) (Or.inl ⟨by rfl, fun W hW => by obtain ⟨_, q0, q1, q2, q3⟩ := hW; go_simp⟩) hS0 ?_
    try simp only [List.getElem_toArray, List.getElem_cons_zero, List.getElem_cons_succ, Act.put, List.setIfInBounds_toArray, List.set_cons_zero, List.set_cons_succ]
    refine wpAnyH_ready (rs := [1]) (by kernel_rfl) (by simp) ?_
    refine AllReadyH.cons rfl (fun K hK => ?_) AllReadyH.nil
    go_simp
    refine (HK1.out _).mono ?_
    rintro e w7 ⟨rfl, hb7⟩
    have b7 : Below w1.heap.size w1 w7 := HKP.out _ _ (Below.refl _ _).drew hb7
    refine hK.out _ _ (HALL.out _ b7) (fun _ => ?_)
    clear hK K
    try simp only [List.getElem_toArray, List.getElem_cons_zero, List.getElem_cons_succ, Act.put, List.setIfInBounds_toArray, List.set_cons_zero, List.set_cons_succ]
    refine wpAnyH_ready (rs := [3]) (by kernel_rfl) (by simp) ?_
    refine AllReadyH.cons rfl (fun K hK => ?_) AllReadyH.nil
    go_simp
    refine (HK2.out _).mono ?_
    rintro e w8 ⟨rfl, hb8⟩
    have b8 : Below w1.heap.size w1 w8 := HKP.out _ _ b7 hb8
    have hS8 := HALL.out _ b8
    refine hK.out _ _ hS8 (fun _ => ?_)
    clear hK K hS0
    try simp only [List.getElem_toArray, List.getElem_cons_zero, List.getElem_cons_succ, Act.put, List.setIfInBounds_toArray, List.set_cons_zero, List.set_cons_succ]
    refine wpAnyH_take (i := 4) (v := .bool false) rfl (by kernel_rfl) (by kernel_rfl) (by kernel_rfl) (fun _ _ _ h => h) (Or.inl ⟨by rfl, fun W _ => by go_simp⟩) hS8 ?_
    try simp only [List.getElem_toArray, List.getElem_cons_zero, List.getElem_cons_succ, Act.put, List.setIfInBounds_toArray, List.set_cons_zero, List.set_cons_succ]
    refine wpAnyH_take (i := 5) (v := .bool false) rfl (by kernel_rfl) (by kernel_rfl) (by kernel_rfl) (fun _ _ _ h => h) (Or.inl ⟨by rfl, fun W _ => by go_simp⟩) hS8 ?_
    try simp only [List.getElem_toArray, List.getElem_cons_zero, List.getElem_cons_succ, Act.put, List.setIfInBounds_toArray, List.set_cons_zero, List.set_cons_succ]
    refine wpAnyH_take (i := 6) (v := undef) rfl (by kernel_rfl) (by kernel_rfl) (by kernel_rfl) (fun _ _ _ h => h) (Or.inr ⟨by rfl, rfl⟩) hS8 ?_
    try simp only [List.getElem_toArray, List.getElem_cons_zero, List.getElem_cons_succ, Act.put, List.setIfInBounds_toArray, List.set_cons_zero, List.set_cons_succ]
    refine wpAnyH_take (i := 7) (v := undef) rfl (by kernel_rfl) (by kernel_rfl) (by kernel_rfl) (fun _ _ _ h => h) (Or.inr ⟨by rfl, rfl⟩) hS8 ?_
    try simp only [List.getElem_toArray, List.getElem_cons_zero, List.getElem_cons_succ, Act.put, List.setIfInBounds_toArray, List.set_cons_zero, List.set_cons_succ]
    refine wpAnyH_take (i := 8) (v := undef) rfl (by kernel_rfl) (by kernel_rfl) (by kernel_rfl) (fun _ _ _ h => h) (Or.inr ⟨by rfl, rfl⟩) hS8 ?_
    try simp only [List.getElem_toArray, List.getElem_cons_zero, List.getElem_cons_succ, Act.put, List.setIfInBounds_toArray, List.set_cons_zero, List.set_cons_succ]
    refine wpAnyH_take (i := 9) (v := undef) rfl (by kernel_rfl) (by kernel_rfl) (by kernel_rfl) (fun _ _ _ h => h) (Or.inr ⟨by rfl, rfl⟩) hS8 ?_
    try simp only [List.getElem_toArray, List.getElem_cons_zero, List.getElem_cons_succ, Act.put, List.setIfInBounds_toArray, List.set_cons_zero, List.set_cons_succ]
    refine wpAnyH_take (i := 10) (v := undef) rfl (by kernel_rfl) (by kernel_rfl) (by kernel_rfl) (fun _ _ _ h => h) (Or.inr ⟨by rfl, rfl⟩) hS8 ?_
    try simp only [List.getElem_toArray, List.getElem_cons_zero, List.getElem_cons_succ, Act.put, List.setIfInBounds_toArray, List.set_cons_zero, List.set_cons_succ]
    refine wpAnyH_take (i := 11) (v := .bool false) rfl (by kernel_rfl) (by kernel_rfl) (by kernel_rfl) (fun _ _ _ h => h) (Or.inl ⟨by rfl, fun W _ => by go_simp⟩) hS8 ?_
    try simp only [List.getElem_toArray, List.getElem_cons_zero, List.getElem_cons_succ, Act.put, List.setIfInBounds_toArray, List.set_cons_zero, List.set_cons_succ]
    refine wpAnyH_take (i := 12) (v := .bool false) rfl (by kernel_rfl) (by kernel_rfl) (by kernel_rfl) (fun _ _ _ h => h) (Or.inl ⟨by rfl, fun W _ => by go_simp⟩) hS8 ?_
    try simp only [List.getElem_toArray, List.getElem_cons_zero, List.getElem_cons_succ, Act.put, List.setIfInBounds_toArray, List.set_cons_zero, List.set_cons_succ]
    refine wpAnyH_done (by kernel_rfl) ?_ _
    go_wp2_with fail
    go_ret
    exact ⟨rfl, HB1.out.trans (b8.mono (by omega))⟩
  | true =>
    rw [hd] at hke
    clear hd
    rw [Bool.true_and]
    go_enter Tryz.func203, Tryz.ntmps203
    go_wp2_with fail
    clear hw1
    go_region_held3 (fun W => Below w1.heap.size w1 W ∧ W.cell? ⟨w.heap.size, 0, none⟩ = some (.string s1) ∧ W.cell? ⟨w.heap.size, 1, none⟩ = some (.slice A1 n1 c1) ∧ W.cell? ⟨w.heap.size + 1, 0, none⟩ = some (.string s2) ∧ W.cell? ⟨w.heap.size + 1, 1, none⟩ = some (.slice A2 n2 c2))
      (first | exact HALL.out _ (Below.refl _ _) | exact HALL.out _ (Below.refl _ _).drew | exact HALL.out _ b7 | exact HALL.out _ b8 | exact HALL.out _ b9)
      (first
        | (go_at_call 91; (with_reducible refine (HK1.out _).mono ?_); rintro e w7 ⟨rfl, hb7⟩; have b7 : Below w1.heap.size w1 w7 := HKP.out _ _ (Below.refl _ _).drew hb7)
        | (go_at_call 91; (with_reducible refine (HK2.out _).mono ?_); rintro e w8 ⟨rfl, hb8⟩; have b8 : Below w1.heap.size w1 w8 := HKP.out _ _ b7 hb8)
        | (go_at_call 215; (with_reducible refine (HIE.out _ (HB1.out.trans (b8.mono (by omega)))).mono ?_); rintro e w9 ⟨rfl, hb9⟩; have b9 : Below w1.heap.size w1 w9 := HKP.out _ _ b8 hb9))
    go_wp2_with fail
    go_ret
    exact ⟨rfl, HB1.out.trans (b9.mono (by omega))⟩
end Go.Proofs.YtimihhcidbeonaaGreat
