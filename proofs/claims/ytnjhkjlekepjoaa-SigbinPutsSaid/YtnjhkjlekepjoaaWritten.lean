/-
  The function that is ranged over, which hands on a number's bytes: its contract, for every loop over it.
-/
import Derived.Test.YtnjhkjlekepjoaaRows
import Derived.Test.YtnjhkjlekepjoaaPlains
import Derived.RangeFuncNested
import Derived.RangeFuncBox
import Derived.RangeFuncLeaves
import Derived.Shelf.Abstract
import Derived.WalkKit
import Derived.WalkSpells
import Derived.OwnWalkIn
import Derived.TacticsInMore
import Derived.LoopNIn
import Derived.LoopIn
import Derived.Maps.AppendAt
import Derived.Lib.Hide
import Derived.Outline
namespace Go.Proofs.Ytnjhkjlekepjoaa
open Go.RowKit Go.Shelf

attribute [local go_sem] Oper.semAt_some

set_option maxRecDepth 100000 in
set_option maxHeartbeats 1000000 in
theorem written1_in (F : Fence) (m : Nat) (hf : F.fn 62) (hro : F.round = none) (hn : 1 ≤ m) (l Bn n₀ : Nat) (n : Nat) (hn64 : n < 18446744073709551616) (J Jx : List Int → World → Prop)
    (hY : ∀ pre x W, J pre W → pre.length < (encI n).length → YieldAt F (m - 1) Try.prog l #[.int .u8 x] W fun e W' =>
      (e = .returned (.bool true) ∧ J (pre ++ [x]) W' ∧ Below n₀ W W') ∨ (e = .returned (.bool false) ∧ Jx (pre ++ [x]) W'))
    (W : World) (hBn : W.cell? ⟨Bn, 0, none⟩ = some (.int .u64 n)) (h0 : J [] W) :
    CallsIn F m Try.prog 62 #[.func (.yield l) #[] #[], .pointer (some ⟨Bn, 0, none⟩)] W fun e W' => (∃ v, e = .returned v) ∧
      ((∃ ys, ys = encI n ∧ J ys W') ∨ (∃ pre, pre <+: encI n ∧ Jx pre W')) := by
  refine callsIn_of_wp Try.func62 rfl hf ?_ hro
  simp only [Try.ntmps62, List.size_toArray, List.length_cons, List.length_nil, Nat.reduceAdd, Nat.reduceSub, Array.replicate_succ, Array.replicate_zero, List.push_toArray, List.append_toArray, List.nil_append, List.cons_append]
  gi_wp2
  gi_loopw [3] (fun p wr => ∃ (pre : List Int) (r : Nat), r < 18446744073709551616 ∧ p = .int .u64 r ∧ encI n = pre ++ encI r ∧ J pre wr)
    (fun p _ => (intOf p).toNat)
  case atStart =>
    exact ⟨[], n, hn64, rfl, rfl, h0⟩
  case round =>
    obtain ⟨pre, r, hr, rfl, hx, hJs⟩ := hrel
    have HX := Lib.hid hx
    clear hx
    by_cases hlt : r < 128
    · have hge : ¬ (128 : Int) ≤ (r : Int) := by omega
      obtain ⟨fn, tmps, assign, body, hy, hR⟩ := hY pre (r : Int) wr hJs (by rw [HX.out, encI_small hlt]; simp)
      gi_wp2
      refine hR.mono ?_
      rintro e W3 (⟨rfl, hJ3, hk3⟩ | ⟨rfl, hJx3⟩)
      · gi_wp2
        go_end0
        exact ⟨⟨_, rfl⟩, .inl ⟨_, by rw [HX.out, encI_small hlt], hJ3⟩⟩
      · gi_wp2
        go_end0
        exact ⟨⟨_, rfl⟩, .inr ⟨_, by rw [HX.out, encI_small hlt]; exact List.prefix_refl _, hJx3⟩⟩
    · have hge : (128 : Int) ≤ (r : Int) := by omega
      obtain ⟨fn, tmps, assign, body, hy, hR⟩ := hY pre ((r : Int) % 128 + 128) wr hJs (by rw [HX.out, encI_great hlt]; simp)
      gi_wp2
      refine hR.mono ?_
      rintro e W3 (⟨rfl, hJ3, hk3⟩ | ⟨rfl, hJx3⟩)
      · gi_wp2
        exact ⟨⟨pre ++ [(r : Int) % 128 + 128], r / 128, by omega, by simp, by rw [HX.out, encI_great hlt]; simp, hJ3⟩, by simp [intOf]; omega⟩
      · gi_wp2
        refine bodyPost_ret (results_none rfl _ _ _) rfl ?_
        exact ⟨⟨_, rfl⟩, .inr ⟨pre ++ [(r : Int) % 128 + 128], ⟨encI (r / 128), by rw [HX.out, encI_great hlt]; simp⟩, hJx3⟩⟩

set_option maxHeartbeats 1000000 in
/-- written(n): the number is boxed; the function value has the box. -/
theorem written_in (F : Fence) (m : Nat) (hf : F.fn 42) (hro : F.round = none) (n : Int) (w : World) :
    CallsIn F m Try.prog 42 #[.int .u64 n] w fun e w' => e = .returned (.func (.func 62) #[] #[.pointer (some ⟨w.heap.size, 0, none⟩)]) ∧ w' = w.alloc (.cells #[.int .u64 n] 48) := by
  refine callsIn_of_wp Try.func42 rfl hf ?_ hro
  simp only [Try.ntmps42, List.size_toArray, List.length_cons, List.length_nil, Nat.reduceAdd, Nat.reduceSub, Array.replicate_succ, Array.replicate_zero, List.push_toArray, List.append_toArray, List.nil_append, List.cons_append]
  gi_wp2
  go_ret
  exact ⟨rfl, rfl⟩

/-- What is ranged over hands on all of the number's bytes, in order; or some of the first, where a round has said 'no more'. -/
theorem written_stops (F : Fence) (m : Nat) (hf : F.fn 62) (hro : F.round = none) (hm : 1 ≤ m) (Bn n₀ n : Nat) (hn : n < 18446744073709551616) (w : World) (hBn : Bn < w.heap.size)
    (hc : w.cell? ⟨Bn, 0, none⟩ = some (.int .u64 n)) :
    SeqStopsK F m Try.prog 62 #[.pointer (some ⟨Bn, 0, none⟩)] (fun x : Int => #[Value.int .u8 x]) (Below n₀) (fun ys => ys = encI n) (fun pre => pre <+: encI n) (encI n).length w := fun l J Jx W hW _ _ hY h0 =>
  written1_in F m hf hro hm l Bn n₀ n hn J Jx hY W ((hW.cell (p := ⟨Bn, 0, none⟩) hBn).trans hc) h0

set_option maxRecDepth 100000 in
set_option maxHeartbeats 2000000 in
/-- wire.Size: how many bytes a number has. -/
theorem size_in (F : Fence) (m : Nat) (h1 : F.fn 41) (h2 : F.fn 42) (h3 : F.fn 62) (hro : F.round = none) (hm : 3 ≤ m) (n : Nat) (hn : n < 18446744073709551616) (w : World) :
    CallsIn F m Try.prog 41 #[.int .u64 n] w fun e W' => e = .returned (.int .i64 (encI n).length) ∧ Below w.heap.size w W' := by
  have hm1 : 1 ≤ m := by omega
  have hlen := (encI_ten hn).2
  refine callsIn_of_wp_marks Try.func41 rfl h1 ?_ hro
  simp only [Try.ntmps41, List.size_toArray, List.length_cons, List.length_nil, Nat.reduceAdd, Nat.reduceSub, Array.replicate_succ, Array.replicate_zero, List.push_toArray, List.append_toArray, List.nil_append, List.cons_append]
  gi_wp2_with (gi_at_call 42; refine (written_in F (m - 1) h2 hro _ _).mono ?_; rintro e w' ⟨rfl, rfl⟩)
  have bO := Boxed.new w 3 (.int .i64 0)
  have bN := Boxed.new (w.alloc (.cells #[.int .i64 0] 3)) 48 (.int .u64 n)
  rw [World.size_alloc] at bN
  have hB0 : Below w.heap.size w ((w.alloc (.cells #[.int .i64 0] 3)).alloc (.cells #[.int .u64 n] 48)) := ((Below.refl _ w).alloc (Nat.le_refl _) _).alloc (by simp) _
  refine wpIn_rangeFunc_ownG hro hm1 (gf := 62) (lb := #[.pointer (some ⟨w.heap.size + 1, 0, none⟩)]) rfl h3 (enters_of Try.func62 (by kernel_rfl) rfl)
    (written_stops F (m - 1) h3 hro (by omega) (w.heap.size + 1) w.heap.size n hn _ (by simp) bN.cell) belowK_t (belowK_b (by simp; omega)) (Below.refl _ _) (fun _ => rfl)
    (fun pre W => Boxed W w.heap.size 3 (.int .i64 pre.length) ∧ Below w.heap.size w W)
    (fun _ _ _ => False)
    (OwnFrom.and (Own.from (boxed_own w.heap.size 3 (fun pre : List Int => .int .i64 pre.length)) _) (ownFrom_below (Nat.le_refl _) (by simp; omega)))
    (fun _ _ _ _ _ hs _ _ => hs)
    ⟨bO.alloc _, hB0⟩
    (fun x => { tmps := #[.int .u64 n, undef, .int .i64 0, .pointer (some ⟨w.heap.size, 0, none⟩), .int .u64 n, .func (.func 62) #[] #[.pointer (some ⟨w.heap.size + 1, 0, none⟩)], .int .u8 x, undef, undef, undef], defers := [] }) ?assign ?body ?done ?stop
  case assign =>
    intro l x W K hK
    gi_wp2
    simpa using hK
  case body =>
    rintro l pre x W ⟨hv, hB⟩ hlt
    have hc := hv.cell
    have hfz := hv.frozen
    gi_wp2
    exact ⟨(KeepsOthers.setCell _ _ _).from _, (Below.refl w.heap.size W).setCell (p := ⟨w.heap.size, 0, none⟩) (Nat.le_refl _) _, by simpa using hv.set _, hB.setCell (p := ⟨w.heap.size, 0, none⟩) (Nat.le_refl _) _⟩
  case done =>
    rintro D ys W hD rfl ⟨hv, hB⟩ hK
    have hc := hv.cell
    gi_wp2
    refine ⟨by simp, .inl ⟨_, _, rfl, run_takeDeferred hK, ?_⟩⟩
    exact ⟨_, results_tmp rfl _ _ _, rfl, hB.trans (belowK_b (w := w) (Nat.le_refl _) W D _ _ (by simp at hD; omega) hK rfl rfl)⟩
  case stop =>
    rintro D c pre W _ _ h _
    exact h.elim
end Go.Proofs.Ytnjhkjlekepjoaa
