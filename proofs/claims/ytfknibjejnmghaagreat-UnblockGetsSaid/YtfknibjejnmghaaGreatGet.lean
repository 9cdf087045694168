/-
  wire's length and Get: the number that bytes begin with, how many bytes it has, or why there is none.
-/
import Derived.Test.YtfknibjejnmghaaGreatRows
import Derived.Test.YtfknibjejnmghaaGreatPlains
import Derived.Test.YtfknibjejnmghaaGreatSlices
import Derived.WalkKit
import Derived.WalkSpells
import Derived.WalkLawsBesides
import Derived.LoopTactic
import Derived.Lib.Hide
import Derived.Outline
import Derived.Test.YtfknibjejnmghaaGreatPutCode
import Derived.Shelf.RegionOpen
import Derived.RegionIn
namespace Go.Proofs.YtfknibjejnmghaaGreat
open Go.RowKit

theorem last_any (i : Nat) (x : Int) (hi : i ≤ 9) (hx0 : 0 ≤ x) (hx : x < 256) (w : World) :
    Calls Tryz.prog 78 #[.int .i64 i, .int .u8 x] w fun e w' => e = .returned (.int .i64 (lastI i x)) ∧ w = w' := by
  by_cases h9 : i = 9
  · subst h9
    by_cases h1 : 1 < x
    · have e1 : lastI 9 x = 3 := by unfold lastI; rw [if_pos ⟨rfl, h1⟩]
      have E1 := Lib.hid e1; clear e1
      go_enter Tryz.func78, Tryz.ntmps78
      go_wp2
      go_ret
      exact ⟨by rw [E1.out]; rfl, rfl⟩
    · by_cases h0 : x = 0
      · subst h0
        go_enter Tryz.func78, Tryz.ntmps78
        go_wp2
        go_ret
        exact ⟨rfl, rfl⟩
      · obtain rfl : x = 1 := by omega
        go_enter Tryz.func78, Tryz.ntmps78
        go_wp2
        go_ret
        exact ⟨rfl, rfl⟩
  · have b9 : ((i : Int) == 9) = false := beq_eq_false_iff_ne.2 (by omega)
    by_cases h0 : 0 < i
    · by_cases hz : x = 0
      · subst hz
        have e1 : lastI i 0 = 4 := by unfold lastI; rw [if_neg (by omega), if_pos ⟨h0, rfl⟩]
        have E1 := Lib.hid e1; clear e1
        go_enter Tryz.func78, Tryz.ntmps78
        go_wp2
        go_ret
        exact ⟨by rw [E1.out]; rfl, rfl⟩
      · have e1 : lastI i x = 0 := by unfold lastI; rw [if_neg (by omega), if_neg (by omega)]
        have E1 := Lib.hid e1; clear e1
        have bz : (x == 0) = false := beq_eq_false_iff_ne.2 hz
        go_enter Tryz.func78, Tryz.ntmps78
        go_wp2
        go_ret
        exact ⟨by rw [E1.out]; rfl, rfl⟩
    · obtain rfl : i = 0 := by omega
      have e1 : lastI 0 x = 0 := by unfold lastI; rw [if_neg (by omega), if_neg (by omega)]
      have E1 := Lib.hid e1; clear e1
      go_enter Tryz.func78, Tryz.ntmps78
      go_wp2
      go_ret
      exact ⟨by rw [E1.out]; rfl, rfl⟩

set_option maxHeartbeats 800000 in
theorem length_any (A : Option Addr) (c : Nat) (xs : List Int) (w : World) (hrow : Row w w.heap.size (.slice A xs.length c) xs) (hb : ∀ x ∈ xs, 0 ≤ x ∧ x < 256) :
    Calls Tryz.prog 53 #[.slice A xs.length c] w fun e w' => e = .returned (.tuple #[.int .i64 (lenI 0 xs).1, .int .i64 (lenI 0 xs).2]) ∧ w = w' := by
  obtain ⟨A', c', hv, hlc, hcm, _, hcells⟩ := hrow
  injection hv with h1 h2 h3
  subst h1 h3
  unfold maxLen at hcm
  have hsz : xs.length ≤ 9223372036854775807 := by omega
  obtain ⟨M, hM, hM1, hM2, hM3⟩ : ∃ M : Nat, min (xs.length : Int) 10 = M ∧ M ≤ xs.length ∧ M ≤ 10 ∧ (M = xs.length ∨ M = 10) := by
    by_cases h : xs.length ≤ 10
    · exact ⟨xs.length, by omega, by omega, by omega, .inl rfl⟩
    · exact ⟨10, by omega, by omega, by omega, .inr rfl⟩
  have HM3 := Lib.hid hM3; clear hM3
  have HC := Lib.hid hcells; clear hcells
  have HB := Lib.hid hb; clear hb
  go_enter Tryz.func53, Tryz.ntmps53
  go_wp2
  have HM := Lib.hid hM; clear hM
  go_loop [8] (fun i => ∃ k : Nat, k ≤ M ∧ i = .int .i64 k ∧ Hid (∀ j, j < k → 128 ≤ xs.getD j 0)) (fun i => M - (intOf i).toNat)
  case atStart => exact ⟨0, Nat.zero_le _, rfl, Lib.hid (fun j h => absurd h (Nat.not_lt_zero _))⟩
  case round =>
    obtain ⟨k, hk, rfl, HJ⟩ := hrel
    by_cases hlt : k < M
    · obtain ⟨b, o, rfl, _, hc⟩ := HC.out (by omega)
      have hck := hc k (by omega)
      clear hc
      have hin : xs.getD k 0 ∈ xs := by rw [List.getD, List.getElem?_eq_getElem (by omega)]; simp
      obtain ⟨y0, y1⟩ := HB.out _ hin
      clear hin
      obtain ⟨y, hy⟩ : ∃ y, xs.getD k 0 = y := ⟨_, rfl⟩
      rw [hy] at hck y0 y1
      have HY := Lib.hid hy; clear hy
      by_cases hs : y < 128
      · have hfin : lenI 0 xs = (k + 1, lastI k y) := by rw [← HY.out]; exact lenI_found xs k (by omega) HJ.out (by omega) (by rw [HY.out]; exact hs)
        have HF := Lib.hid hfin; clear hfin
        go_wp2_with (go_at_call 78; refine (last_any k y (by omega) y0 y1 _).mono ?_; rintro e w' ⟨rfl, rfl⟩)
        go_ret2
        exact ⟨by rw [HF.out]; simp, rfl⟩
      · go_wp2_with fail
        go_round
        case rel => exact ⟨k + 1, by omega, by go_num, Lib.hid (fun j hj => by
          rcases Nat.lt_or_ge j k with h | h
          · exact HJ.out j h
          · obtain rfl : j = k := by omega
            rw [HY.out]; omega)⟩
        case measure => simp [intOf]; omega
    · obtain rfl : k = M := by omega
      rcases Nat.lt_or_ge xs.length 10 with h10 | h10
      · have hfin : lenI 0 xs = (0, 2) := lenI_short xs h10 (fun j hj => HJ.out j (by rcases HM3.out with h | h <;> omega))
        have HF := Lib.hid hfin; clear hfin
        go_wp2_with fail
        go_ret2
        exact ⟨by rw [HF.out]; rfl, rfl⟩
      · have hfin : lenI 0 xs = (0, 3) := lenI_long xs h10 (fun j hj => HJ.out j (by rcases HM3.out with h | h <;> omega))
        have HF := Lib.hid hfin; clear hfin
        go_wp2_with fail
        go_ret2
        exact ⟨by rw [HF.out]; rfl, rfl⟩
end Go.Proofs.YtfknibjejnmghaaGreat

namespace Go.Proofs.YtfknibjejnmghaaGreat
open Go.RowKit Go.Shelf

attribute [local go_sem] Oper.semAt_some

/-- What comes in a round: how far up, and the group. -/
abbrev Grp := { p : Int × Int // 0 ≤ p.1 ∧ p.1 ≤ 63 ∧ 0 ≤ p.2 ∧ p.2 ≤ 127 }

/-- What comes in round k. -/
def grp (xs : List Int) (k : Nat) : Grp := if h : k ≤ 9 then ⟨(7 * (k : Int), xs.getD k 0 % 128), by constructor <;> simp <;> omega⟩ else ⟨(0, 0), by simp⟩
/-- What has come when k rounds are over. -/
def grps (xs : List Int) (k : Nat) : List Grp := (List.range k).map (grp xs)
theorem grps_succ (xs : List Int) (k : Nat) : grps xs (k + 1) = grps xs k ++ [grp xs k] := by simp [grps, List.range_succ]
theorem grps_length (xs : List Int) (k : Nat) : (grps xs k).length = k := by simp [grps]

set_option maxRecDepth 100000 in
set_option maxHeartbeats 2000000 in
/-- The function that is ranged over, which hands on the groups of bytes that lie below n₀. -/
theorem groups1_in (F : Fence) (m : Nat) (hf : F.fn 79) (hro : F.round = none) (hm : 1 ≤ m) (l Bs n₀ : Nat) (A : Option Addr) (c : Nat) (xs : List Int) (h10 : xs.length ≤ 10) (hb : ∀ x ∈ xs, 0 ≤ x ∧ x < 256) (J Jx : List Grp → World → Prop)
    (hY : ∀ pre (x : Grp) W, J pre W → pre.length < xs.length → YieldAt F (m - 1) Tryz.prog l #[.int .i64 x.1.1, .int .u64 x.1.2] W fun e W' =>
      (e = .returned (.bool true) ∧ J (pre ++ [x]) W' ∧ Below n₀ W W') ∨ (e = .returned (.bool false) ∧ Jx (pre ++ [x]) W'))
    (W : World) (hBs : W.cell? ⟨Bs, 0, none⟩ = some (.slice A xs.length c)) (hrow : Row W n₀ (.slice A xs.length c) xs) (h0 : J [] W) :
    CallsIn F m Tryz.prog 79 #[.func (.yield l) #[] #[], .pointer (some ⟨Bs, 0, none⟩)] W fun e W' => (∃ v, e = .returned v) ∧
      ((∃ ys, ys = grps xs xs.length ∧ J ys W') ∨ (∃ pre, (∃ k, pre = grps xs k) ∧ Jx pre W')) := by
  have HR := Lib.hid hrow; clear hrow
  have HB := Lib.hid hb; clear hb
  refine callsIn_of_wp Tryz.func79 rfl hf ?_ hro
  simp only [Tryz.ntmps79, List.size_toArray, List.length_cons, List.length_nil, Nat.reduceAdd, Nat.reduceSub, Array.replicate_succ, Array.replicate_zero, List.push_toArray, List.append_toArray, List.nil_append, List.cons_append]
  gi_wp2
  gi_loopw [7] (fun i wr => ∃ k : Nat, k ≤ xs.length ∧ i = .int .i64 k ∧ J (grps xs k) wr ∧ Below n₀ W wr)
    (fun i _ => xs.length - (intOf i).toNat)
  case atStart => exact ⟨0, Nat.zero_le _, rfl, h0, Below.refl _ _⟩
  case round =>
    obtain ⟨k, hk, rfl, hJs, hnx⟩ := hrel
    by_cases hlt : k < xs.length
    · obtain ⟨A', c', hv, _, _, _, hcells⟩ := HR.out.below hnx
      injection hv with e1 e2 e3
      subst e1 e3
      obtain ⟨b, o, rfl, _, hc⟩ := hcells (by omega)
      have hck := hc k hlt
      clear hc hcells e2
      have hin : xs.getD k 0 ∈ xs := by rw [List.getD, List.getElem?_eq_getElem hlt]; simp
      obtain ⟨y0, y1⟩ := HB.out _ hin
      clear hin
      obtain ⟨y, hy⟩ : ∃ y, xs.getD k 0 = y := ⟨_, rfl⟩
      rw [hy] at hck y0 y1
      have hg : (grp xs k).1 = (7 * (k : Int), y % 128) := by rw [← hy]; unfold grp; rw [dif_pos (by omega)]
      clear hy
      obtain ⟨fn, tmps, assign, body, hy, hR⟩ := hY _ (grp xs k) wr hJs (by rw [grps_length]; exact hlt)
      simp only [hg] at hy
      clear hg
      gi_wp2
      refine hR.mono ?_
      rintro e W3 (⟨rfl, hJ3, hk3⟩ | ⟨rfl, hJx3⟩)
      · gi_wp2
        go_roundw
        case rel => exact ⟨k + 1, by omega, by go_num, by rw [grps_succ]; exact hJ3, hnx.trans hk3⟩
        case measure => simp [intOf]; omega
      · gi_wp2
        refine bodyPost_ret (results_none rfl _ _ _) rfl ?_
        exact ⟨⟨_, rfl⟩, .inr ⟨_, ⟨k + 1, (grps_succ _ _).symm⟩, hJx3⟩⟩
    · obtain rfl : k = xs.length := by omega
      gi_wp2
      go_end0
      exact ⟨⟨_, rfl⟩, .inl ⟨_, rfl, hJs⟩⟩

set_option maxHeartbeats 1000000 in
theorem groups_in (F : Fence) (m : Nat) (hf : F.fn 54) (hro : F.round = none) (A : Option Addr) (k c : Nat) (w : World) :
    CallsIn F m Tryz.prog 54 #[.slice A k c] w fun e w' => e = .returned (.func (.func 79) #[] #[.pointer (some ⟨w.heap.size, 0, none⟩)]) ∧ w' = w.alloc (.cells #[.slice A k c] 23) := by
  refine callsIn_of_wp Tryz.func54 rfl hf ?_ hro
  simp only [Tryz.ntmps54, List.size_toArray, List.length_cons, List.length_nil, Nat.reduceAdd, Nat.reduceSub, Array.replicate_succ, Array.replicate_zero, List.push_toArray, List.append_toArray, List.nil_append, List.cons_append]
  gi_wp2
  go_ret
  exact ⟨rfl, rfl⟩

theorem groups_stops (F : Fence) (m : Nat) (hf : F.fn 79) (hro : F.round = none) (hm : 1 ≤ m) (Bs n₀ : Nat) (A : Option Addr) (c : Nat) (xs : List Int) (h10 : xs.length ≤ 10) (hb : ∀ x ∈ xs, 0 ≤ x ∧ x < 256) (w : World) (hBs : Bs < w.heap.size) (hn₀ : n₀ ≤ w.heap.size)
    (hc : w.cell? ⟨Bs, 0, none⟩ = some (.slice A xs.length c)) (hrow : Row w n₀ (.slice A xs.length c) xs) :
    SeqStopsK F m Tryz.prog 79 #[.pointer (some ⟨Bs, 0, none⟩)] (fun x : Grp => #[Value.int .i64 x.1.1, Value.int .u64 x.1.2]) (Below n₀) (fun ys => ys = grps xs xs.length) (fun pre => ∃ k, pre = grps xs k) xs.length w := fun l J Jx W hW _ _ hY h0 =>
  groups1_in F m hf hro hm l Bs n₀ A c xs h10 hb J Jx hY W ((hW.cell (p := ⟨Bs, 0, none⟩) hBs).trans hc) (hrow.below (hW.mono hn₀)) h0


/-- What a round makes of the number. -/
def orStep (n : Int) (x : Grp) : Int := bits .or .u64 n (IntKind.u64.wrap (x.1.2 * 2 ^ x.1.1.toNat))
def orAll (xs : List Grp) : Int := xs.foldl orStep 0
theorem orAll_snoc (pre : List Grp) (x : Grp) : orAll (pre ++ [x]) = bits .or .u64 (orAll pre) (IntKind.u64.wrap (x.1.2 * 2 ^ x.1.1.toNat)) := by simp [orAll, orStep]

set_option maxRecDepth 100000 in
set_option maxHeartbeats 2000000 in
theorem get_in (F : Fence) (m : Nat) (h0 : F.fn 26) (h1 : F.fn 53) (h2 : F.fn 54) (h3 : F.fn 79) (hro : F.round = none) (hm : 5 ≤ m)
    (hlenC : ∀ (A : Option Addr) (c : Nat) (xs : List Int) (w : World), Row w w.heap.size (.slice A xs.length c) xs → (∀ x ∈ xs, 0 ≤ x ∧ x < 256) → CallsIn F (m - 1) Tryz.prog 53 #[.slice A xs.length c] w fun e w' => e = .returned (.tuple #[.int .i64 (lenI 0 xs).1, .int .i64 (lenI 0 xs).2]) ∧ w = w')
    (A : Option Addr) (c : Nat) (xs : List Int) (w : World) (hrow : Row w w.heap.size (.slice A xs.length c) xs) (hb : ∀ x ∈ xs, 0 ≤ x ∧ x < 256) (hok : (lenI 0 xs).2 = 0) :
    CallsIn F m Tryz.prog 26 #[.slice A xs.length c] w fun e W' => e = .returned (.tuple #[.int .u64 (orAll (grps (xs.take (lenI 0 xs).1) (lenI 0 xs).1)), .int .i64 (lenI 0 xs).1, .int .i64 0]) ∧ Below w.heap.size w W' := by
  have hm1 : 1 ≤ m := by omega
  obtain ⟨k1, k2, k3, h5, h6⟩ := getI_back xs hb hok
  clear h5 h6
  have hcon := hlenC A c xs w hrow hb
  rw [hok] at hcon
  clear hok hlenC
  generalize (lenI 0 xs).1 = s at hcon k1 k2 k3 ⊢
  have hr2 := hrow.take k2
  have hl2 : (xs.take s).length = s := by simp; omega
  rw [hl2] at hr2
  have HC := Lib.hid hcon; clear hcon
  have hsm : xs.length ≤ 9223372036854775807 ∧ xs.length ≤ c ∧ c ≤ 9223372036854775807 := by
    obtain ⟨_, _, hv, q1, q2, _, _⟩ := hrow
    injection hv with e1 e2 e3
    subst e3
    unfold maxLen at q2
    omega
  obtain ⟨s1, s2, s3⟩ := hsm
  refine callsIn_of_wp_marks Tryz.func26 rfl h0 ?_ hro
  simp only [Tryz.ntmps26, List.size_toArray, List.length_cons, List.length_nil, Nat.reduceAdd, Nat.reduceSub, Array.replicate_succ, Array.replicate_zero, List.push_toArray, List.append_toArray, List.nil_append, List.cons_append]
  gi_wp2_with (first
    | (gi_at_call 53; refine HC.out.mono ?_; rintro e w1 ⟨rfl, rfl⟩)
    | (gi_at_call 54; refine (groups_in F (m - 1) h2 hro _ _ _ _).mono ?_; rintro e w' ⟨rfl, rfl⟩))
  have bO := Boxed.new w 32 (.int .u64 0)
  have bN := Boxed.new (w.alloc (.cells #[.int .u64 0] 32)) 23 (.slice A s c)
  rw [World.size_alloc] at bN
  have hB0 : Below w.heap.size w ((w.alloc (.cells #[.int .u64 0] 32)).alloc (.cells #[.slice A s c] 23)) := ((Below.refl _ w).alloc (Nat.le_refl _) _).alloc (by simp) _
  have hst := groups_stops F (m - 1) h3 hro (by omega) (w.heap.size + 1) w.heap.size A c (xs.take s) (by omega) (fun x hx => hb x (List.mem_of_mem_take hx)) ((w.alloc (.cells #[.int .u64 0] 32)).alloc (.cells #[.slice A s c] 23)) (by simp) (by simp; omega) (by rw [hl2]; exact bN.cell) (by rw [hl2]; exact hr2.below hB0)
  refine wpIn_rangeFunc_ownG hro hm1 (gf := 79) (lb := #[.pointer (some ⟨w.heap.size + 1, 0, none⟩)]) rfl h3 (enters_of Tryz.func79 (by kernel_rfl) rfl)
    hst belowK_t (belowK_b (by simp; omega)) (Below.refl _ _) (fun _ => rfl)
    (fun pre W => Boxed W w.heap.size 32 (.int .u64 (orAll pre)) ∧ Below w.heap.size w W)
    (fun _ _ _ => False)
    (OwnFrom.and (Own.from (boxed_own w.heap.size 32 (fun pre : List Grp => .int .u64 (orAll pre))) _) (ownFrom_below (Nat.le_refl _) (by simp; omega)))
    (fun _ _ _ _ _ hs _ _ => hs)
    ⟨bO.alloc _, hB0⟩
    (fun x => { tmps := #[.slice A xs.length c, undef, .int .u64 0, .int .i64 0, .int .i64 0, .int .i64 s, .int .i64 0, .pointer (some ⟨w.heap.size, 0, none⟩), .int .i64 x.1.1, .int .u64 x.1.2, .tuple #[.int .i64 s, .int .i64 0], .slice A xs.length c, .tuple #[.int .i64 s, .int .i64 0], .int .i64 s, .int .i64 0, .int .i64 0, .bool false, undef, .slice A xs.length c, .int .i64 s, .slice A s c, .func (.func 79) #[] #[.pointer (some ⟨w.heap.size + 1, 0, none⟩)], .int .i64 x.1.1, .int .u64 x.1.2, undef, undef, undef, undef, undef, undef, undef], defers := [] }) ?assign ?body ?done ?stop
  case assign =>
    intro l x W K hK
    gi_wp2
    exact hK
  case body =>
    rintro l pre x W ⟨hv, hB⟩ hlt
    have hc := hv.cell
    have hfz := hv.frozen
    obtain ⟨⟨sh, g⟩, hs0, hs1, hg0, hg1⟩ := x
    simp only at hs0 hs1 hg0 hg1 ⊢
    gi_wp2
    gi_region
    all_goals gi_wp2
    all_goals exact ⟨((KeepsOthers.setCell _ _ _).trans (KeepsOthers.drew _)).from _, ((Below.refl w.heap.size W).setCell (p := ⟨w.heap.size, 0, none⟩) (Nat.le_refl _) _).drew, by rw [orAll_snoc]; exact hv.set _, (hB.setCell (p := ⟨w.heap.size, 0, none⟩) (Nat.le_refl _) _).drew⟩
  case done =>
    rintro D ys W hD rfl ⟨hv, hB⟩ hK
    have hc := hv.cell
    gi_wp2
    refine ⟨by simp, .inl ⟨_, _, rfl, run_takeDeferred hK, ?_⟩⟩
    exact ⟨_, results_tmp3 rfl _ _ _, rfl, hB.trans (belowK_b (w := w) (Nat.le_refl _) W D _ _ (by simp at hD; omega) hK rfl rfl)⟩
  case stop =>
    rintro D c pre W _ _ h _
    exact h.elim

theorem val_append (b : List Int) : ∀ a : List Int, val (a ++ b) = val a + 128 ^ a.length * val b
  | [] => by simp [val]
  | x :: r => by
    have h := val_append b r
    simp only [List.cons_append, val, h, List.length_cons]
    rw [Int.pow_succ, Int.mul_add, Int.mul_comm ((128 : Int) ^ r.length) 128, Int.mul_assoc]
    omega
theorem val_take_le (ys : List Int) (k : Nat) : val (ys.take k) ≤ val ys := by
  have h := val_append (ys.drop k) (ys.take k)
  rw [List.take_append_drop] at h
  have h1 : 0 ≤ (128 : Int) ^ (ys.take k).length * val (ys.drop k) := Int.mul_nonneg (Int.le_of_lt (Int.pow_pos (by omega))) (val_nonneg _)
  omega

/-- A group that is put above what is there already: a sum. -/
theorem or_step (a : Int) (k : Nat) (g : Int) (ha : 0 ≤ a) (hg : 0 ≤ g) (hk : a < 128 ^ k) (hs : a + 128 ^ k * g < 18446744073709551616) :
    bits .or .u64 a (IntKind.u64.wrap (g * 2 ^ (7 * k))) = a + 128 ^ k * g := by
  obtain ⟨A, rfl⟩ := Int.eq_ofNat_of_zero_le ha
  obtain ⟨G, rfl⟩ := Int.eq_ofNat_of_zero_le hg
  have e2 : (2 : Nat) ^ (7 * k) = 128 ^ k := by rw [Nat.pow_mul]
  have e2i : (2 : Int) ^ (7 * k) = ((128 ^ k : Nat) : Int) := by rw [Int.pow_mul]; simp
  have hk' : A < 128 ^ k := by
    have : ((128 : Int) ^ k) = ((128 ^ k : Nat) : Int) := by simp
    rw [this] at hk
    omega
  have hs' : A + 128 ^ k * G < 18446744073709551616 := by
    have : ((128 : Int) ^ k * (G : Int)) = ((128 ^ k * G : Nat) : Int) := by simp
    rw [this] at hs
    omega
  have hw : IntKind.u64.wrap ((G : Int) * 2 ^ (7 * k)) = ((128 ^ k * G : Nat) : Int) := by
    rw [e2i, ← Int.natCast_mul, Nat.mul_comm, IntKind.wrap_u64]
    omega
  rw [hw, u64_or_nat A (128 ^ k * G) (by omega) (by omega)]
  have := Nat.two_pow_add_eq_or_of_lt (i := 7 * k) (b := A) (by rw [e2]; exact hk') G
  rw [e2] at this
  rw [Nat.or_comm, ← this]
  simp [Int.add_comm]

theorem orAll_val (ys : List Int) (h10 : ys.length ≤ 10) (hv : val ys < 18446744073709551616) : ∀ k : Nat, k ≤ ys.length → orAll (grps ys k) = val (ys.take k) := by
  intro k
  induction k with
  | zero => intro _; simp [grps, orAll, val]
  | succ k ih =>
    intro hk
    have hkl : k < ys.length := by omega
    rw [grps_succ, orAll_snoc, ih (by omega), List.take_succ_eq_append_getElem hkl, val_snoc]
    have hl : (ys.take k).length = k := by simp; omega
    have hg : (grp ys k).1 = (7 * (k : Int), ys[k] % 128) := by
      unfold grp; rw [dif_pos (by omega)]; simp [List.getD, List.getElem?_eq_getElem hkl]
    rw [hg, hl]
    have h1 := val_lt (ys.take k)
    rw [hl] at h1
    have h2 := val_take_le ys (k + 1)
    rw [List.take_succ_eq_append_getElem hkl, val_snoc, hl] at h2
    have e7 : (7 * (k : Int)).toNat = 7 * k := by omega
    simp only [e7]
    exact or_step _ k _ (val_nonneg _) (by omega) h1 (by omega)

set_option maxRecDepth 100000 in
set_option maxHeartbeats 1000000 in
theorem get_no (A : Option Addr) (c : Nat) (xs : List Int) (w : World) (hrow : Row w w.heap.size (.slice A xs.length c) xs) (hb : ∀ x ∈ xs, 0 ≤ x ∧ x < 256) (hno : (lenI 0 xs).2 ≠ 0) :
    Calls Tryz.prog 26 #[.slice A xs.length c] w fun e W' => e = .returned (.tuple #[.int .u64 0, .int .i64 0, .int .i64 (lenI 0 xs).2]) ∧ w = W' := by
  have hcon := length_any A c xs w hrow hb
  clear hrow hb
  generalize (lenI 0 xs).1 = s at hcon
  generalize (lenI 0 xs).2 = er at hcon hno ⊢
  have HC := Lib.hid hcon; clear hcon
  have hne : (er != 0) = true := by simpa using hno
  clear hno
  go_enter Tryz.func26, Tryz.ntmps26
  go_wp2_with (go_at_call 53; refine HC.out.mono ?_; rintro e w1 ⟨rfl, rfl⟩)
  go_ret3
  exact ⟨rfl, rfl⟩

/-- wire.Get. -/
theorem get_any (A : Option Addr) (c : Nat) (xs : List Int) (w : World) (hrow : Row w w.heap.size (.slice A xs.length c) xs) (hb : ∀ x ∈ xs, 0 ≤ x ∧ x < 256) :
    Calls Tryz.prog 26 #[.slice A xs.length c] w fun e W' => e = .returned (.tuple #[.int .u64 (getI xs).1, .int .i64 (getI xs).2.1, .int .i64 (getI xs).2.2]) ∧ Below w.heap.size w W' := by
  by_cases hok : (lenI 0 xs).2 = 0
  · have h := callsIn_wide.1 (get_in Fence.wide 5 trivial trivial trivial trivial rfl (by omega) (fun A c xs w h1 h2 => callsIn_wide.2 (length_any A c xs w h1 h2)) A c xs w hrow hb hok)
    obtain ⟨k1, k2, k3, _, h6⟩ := getI_back xs hb hok
    have hl : (xs.take (lenI 0 xs).1).length = (lenI 0 xs).1 := by simp; omega
    have hv := orAll_val (xs.take (lenI 0 xs).1) (by omega) h6 (lenI 0 xs).1 (by omega)
    rw [List.take_take, Nat.min_self] at hv
    rw [hv] at h
    have e : getI xs = (val (xs.take (lenI 0 xs).1), (lenI 0 xs).1, 0) := by unfold getI; rw [if_pos hok]
    rw [e]
    exact h
  · have e : getI xs = (0, 0, (lenI 0 xs).2) := by unfold getI; rw [if_neg hok]
    rw [e]
    refine (get_no A c xs w hrow hb hok).mono ?_
    rintro e W' ⟨rfl, rfl⟩
    exact ⟨rfl, Below.refl _ _⟩
#print axioms get_any
end Go.Proofs.YtfknibjejnmghaaGreat
