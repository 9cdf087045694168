/-
  wire.Put, wire.Size and what they range over.
-/
import Derived.Test.YtlmpicfhbpnpbaaRows
import Derived.Test.YtlmpicfhbpnpbaaPlains
import Derived.RangeFuncNested
import Derived.RangeFuncBox
import Derived.RangeFuncLeaves
import Derived.Shelf.Abstract
import Derived.WalkKit
import Derived.WalkSpells
import Derived.OwnWalkIn
import Derived.TacticsInMore
import Derived.LoopNIn
import Derived.LoopIn
import Derived.Maps.AppendAt
import Derived.Lib.Hide
import Derived.Outline
import Derived.Test.YtlmpicfhbpnpbaaSlices
namespace Go.Proofs.Ytlmpicfhbpnpbaa
open Go.RowKit Go.Shelf

attribute [local go_sem] Oper.semAt_some

set_option maxRecDepth 100000 in
set_option maxHeartbeats 1000000 in
theorem written1_in (F : Fence) (m : Nat) (hf : F.fn 80) (hro : F.round = none) (hn : 1 ≤ m) (l Bn n₀ : Nat) (n : Nat) (hn64 : n < 18446744073709551616) (J Jx : List Int → World → Prop)
    (hY : ∀ pre x W, J pre W → pre.length < (encI n).length → YieldAt F (m - 1) Try.prog l #[.int .u8 x] W fun e W' =>
      (e = .returned (.bool true) ∧ J (pre ++ [x]) W' ∧ Below n₀ W W') ∨ (e = .returned (.bool false) ∧ Jx (pre ++ [x]) W'))
    (W : World) (hBn : W.cell? ⟨Bn, 0, none⟩ = some (.int .u64 n)) (h0 : J [] W) :
    CallsIn F m Try.prog 80 #[.func (.yield l) #[] #[], .pointer (some ⟨Bn, 0, none⟩)] W fun e W' => (∃ v, e = .returned v) ∧
      ((∃ ys, ys = encI n ∧ J ys W') ∨ (∃ pre, pre <+: encI n ∧ Jx pre W')) := by
  refine callsIn_of_wp Try.func80 rfl hf ?_ hro
  simp only [Try.ntmps80, List.size_toArray, List.length_cons, List.length_nil, Nat.reduceAdd, Nat.reduceSub, Array.replicate_succ, Array.replicate_zero, List.push_toArray, List.append_toArray, List.nil_append, List.cons_append]
  gi_wp2
  gi_loopw [3] (fun p wr => ∃ (pre : List Int) (r : Nat), r < 18446744073709551616 ∧ p = .int .u64 r ∧ encI n = pre ++ encI r ∧ J pre wr)
    (fun p _ => (intOf p).toNat)
  case atStart =>
    exact ⟨[], n, hn64, rfl, rfl, h0⟩
  case round =>
    obtain ⟨pre, r, hr, rfl, hx, hJs⟩ := hrel
    have HX := Lib.hid hx
    clear hx
    by_cases hlt : r < 128
    · have hge : ¬ (128 : Int) ≤ (r : Int) := by omega
      obtain ⟨fn, tmps, assign, body, hy, hR⟩ := hY pre (r : Int) wr hJs (by rw [HX.out, encI_small hlt]; simp)
      gi_wp2
      refine hR.mono ?_
      rintro e W3 (⟨rfl, hJ3, hk3⟩ | ⟨rfl, hJx3⟩)
      · gi_wp2
        go_end0
        exact ⟨⟨_, rfl⟩, .inl ⟨_, by rw [HX.out, encI_small hlt], hJ3⟩⟩
      · gi_wp2
        go_end0
        exact ⟨⟨_, rfl⟩, .inr ⟨_, by rw [HX.out, encI_small hlt]; exact List.prefix_refl _, hJx3⟩⟩
    · have hge : (128 : Int) ≤ (r : Int) := by omega
      obtain ⟨fn, tmps, assign, body, hy, hR⟩ := hY pre ((r : Int) % 128 + 128) wr hJs (by rw [HX.out, encI_great hlt]; simp)
      gi_wp2
      refine hR.mono ?_
      rintro e W3 (⟨rfl, hJ3, hk3⟩ | ⟨rfl, hJx3⟩)
      · gi_wp2
        exact ⟨⟨pre ++ [(r : Int) % 128 + 128], r / 128, by omega, by simp, by rw [HX.out, encI_great hlt]; simp, hJ3⟩, by simp [intOf]; omega⟩
      · gi_wp2
        refine bodyPost_ret (results_none rfl _ _ _) rfl ?_
        exact ⟨⟨_, rfl⟩, .inr ⟨pre ++ [(r : Int) % 128 + 128], ⟨encI (r / 128), by rw [HX.out, encI_great hlt]; simp⟩, hJx3⟩⟩

set_option maxHeartbeats 1000000 in
/-- written(n): the number is boxed; the function value has the box. -/
theorem written_in (F : Fence) (m : Nat) (hf : F.fn 53) (hro : F.round = none) (n : Int) (w : World) :
    CallsIn F m Try.prog 53 #[.int .u64 n] w fun e w' => e = .returned (.func (.func 80) #[] #[.pointer (some ⟨w.heap.size, 0, none⟩)]) ∧ w' = w.alloc (.cells #[.int .u64 n] 36) := by
  refine callsIn_of_wp Try.func53 rfl hf ?_ hro
  simp only [Try.ntmps53, List.size_toArray, List.length_cons, List.length_nil, Nat.reduceAdd, Nat.reduceSub, Array.replicate_succ, Array.replicate_zero, List.push_toArray, List.append_toArray, List.nil_append, List.cons_append]
  gi_wp2
  go_ret
  exact ⟨rfl, rfl⟩

/-- What is ranged over hands on all of the number's bytes, in order; or some of the first, where a round has said 'no more'. -/
theorem written_stops (F : Fence) (m : Nat) (hf : F.fn 80) (hro : F.round = none) (hm : 1 ≤ m) (Bn n₀ n : Nat) (hn : n < 18446744073709551616) (w : World) (hBn : Bn < w.heap.size)
    (hc : w.cell? ⟨Bn, 0, none⟩ = some (.int .u64 n)) :
    SeqStopsK F m Try.prog 80 #[.pointer (some ⟨Bn, 0, none⟩)] (fun x : Int => #[Value.int .u8 x]) (Below n₀) (fun ys => ys = encI n) (fun pre => pre <+: encI n) (encI n).length w := fun l J Jx W hW _ _ hY h0 =>
  written1_in F m hf hro hm l Bn n₀ n hn J Jx hY W ((hW.cell (p := ⟨Bn, 0, none⟩) hBn).trans hc) h0

set_option maxRecDepth 100000 in
set_option maxHeartbeats 2000000 in
/-- wire.Size: how many bytes a number has. -/
theorem size_in (F : Fence) (m : Nat) (h1 : F.fn 39) (h2 : F.fn 53) (h3 : F.fn 80) (hro : F.round = none) (hm : 3 ≤ m) (n : Nat) (hn : n < 18446744073709551616) (w : World) :
    CallsIn F m Try.prog 39 #[.int .u64 n] w fun e W' => e = .returned (.int .i64 (encI n).length) ∧ Below w.heap.size w W' := by
  have hm1 : 1 ≤ m := by omega
  have hlen := (encI_ten hn).2
  refine callsIn_of_wp_marks Try.func39 rfl h1 ?_ hro
  simp only [Try.ntmps39, List.size_toArray, List.length_cons, List.length_nil, Nat.reduceAdd, Nat.reduceSub, Array.replicate_succ, Array.replicate_zero, List.push_toArray, List.append_toArray, List.nil_append, List.cons_append]
  gi_wp2_with (gi_at_call 53; refine (written_in F (m - 1) h2 hro _ _).mono ?_; rintro e w' ⟨rfl, rfl⟩)
  have bO := Boxed.new w 3 (.int .i64 0)
  have bN := Boxed.new (w.alloc (.cells #[.int .i64 0] 3)) 36 (.int .u64 n)
  rw [World.size_alloc] at bN
  have hB0 : Below w.heap.size w ((w.alloc (.cells #[.int .i64 0] 3)).alloc (.cells #[.int .u64 n] 36)) := ((Below.refl _ w).alloc (Nat.le_refl _) _).alloc (by simp) _
  refine wpIn_rangeFunc_ownG hro hm1 (gf := 80) (lb := #[.pointer (some ⟨w.heap.size + 1, 0, none⟩)]) rfl h3 (enters_of Try.func80 (by kernel_rfl) rfl)
    (written_stops F (m - 1) h3 hro (by omega) (w.heap.size + 1) w.heap.size n hn _ (by simp) bN.cell) belowK_t (belowK_b (by simp; omega)) (Below.refl _ _) (fun _ => rfl)
    (fun pre W => Boxed W w.heap.size 3 (.int .i64 pre.length) ∧ Below w.heap.size w W)
    (fun _ _ _ => False)
    (OwnFrom.and (Own.from (boxed_own w.heap.size 3 (fun pre : List Int => .int .i64 pre.length)) _) (ownFrom_below (Nat.le_refl _) (by simp; omega)))
    (fun _ _ _ _ _ hs _ _ => hs)
    ⟨bO.alloc _, hB0⟩
    (fun x => { tmps := #[.int .u64 n, undef, .int .i64 0, .pointer (some ⟨w.heap.size, 0, none⟩), .int .u64 n, .func (.func 80) #[] #[.pointer (some ⟨w.heap.size + 1, 0, none⟩)], .int .u8 x, undef, undef, undef], defers := [] }) ?assign ?body ?done ?stop
  case assign =>
    intro l x W K hK
    gi_wp2
    simpa using hK
  case body =>
    rintro l pre x W ⟨hv, hB⟩ hlt
    have hc := hv.cell
    have hfz := hv.frozen
    gi_wp2
    exact ⟨(KeepsOthers.setCell _ _ _).from _, (Below.refl w.heap.size W).setCell (p := ⟨w.heap.size, 0, none⟩) (Nat.le_refl _) _, by simpa using hv.set _, hB.setCell (p := ⟨w.heap.size, 0, none⟩) (Nat.le_refl _) _⟩
  case done =>
    rintro D ys W hD rfl ⟨hv, hB⟩ hK
    have hc := hv.cell
    gi_wp2
    refine ⟨by simp, .inl ⟨_, _, rfl, run_takeDeferred hK, ?_⟩⟩
    exact ⟨_, results_tmp rfl _ _ _, rfl, hB.trans (belowK_b (w := w) (Nat.le_refl _) W D _ _ (by simp at hD; omega) hK rfl rfl)⟩
  case stop =>
    rintro D c pre W _ _ h _
    exact h.elim
end Go.Proofs.Ytlmpicfhbpnpbaa

namespace Go.Proofs.Ytlmpicfhbpnpbaa
open Go.RowKit Go.Shelf

attribute [local go_sem] Oper.semAt_some

theorem Try.infoU8 : (Try.prog.info? 5).map (fun i => (i.zero, i.size, i.bytes)) = some (some (.int .u8 0), 1, 1) := by kernel_rfl

set_option maxRecDepth 100000 in
set_option maxHeartbeats 2000000 in
theorem put_in (F : Fence) (m : Nat) (h0 : F.fn 31) (h1 : F.fn 39) (h2 : F.fn 53) (h3 : F.fn 80) (hro : F.round = none) (hm : 5 ≤ m)
    (A : Option Addr) (c : Nat) (xs : List Int) (n : Nat) (hn : n < 18446744073709551616) (hsm : xs.length ≤ 100000000000) (w : World) (hrow : Row w w.heap.size (.slice A xs.length c) xs) :
    CallsIn F m Try.prog 31 #[.slice A xs.length c, .int .u64 n] w fun e W' => ∃ v, e = .returned v ∧ W'.ownsRow w.heap.size 5 1 v (xs.length + (encI n).length) ((xs ++ encI n).map (.int .u8)) ∧ Below w.heap.size w W' := by
  have hm1 : 1 ≤ m := by omega
  have hlen := (encI_ten hn).2
  obtain ⟨i0, hi, hz0, hz1, hz2⟩ := info_parts Try.infoU8
  refine callsIn_of_wp_marks Try.func31 rfl h0 ?_ hro
  simp only [Try.ntmps31, List.size_toArray, List.length_cons, List.length_nil, Nat.reduceAdd, Nat.reduceSub, Array.replicate_succ, Array.replicate_zero, List.push_toArray, List.append_toArray, List.nil_append, List.cons_append]
  gi_wp2_with (first
    | (gi_at_call 39; refine (size_in F (m - 1) h1 h2 h3 hro (by omega) n hn _).mono ?_; rintro e w1 ⟨rfl, hb1⟩)
    | (gi_at_make; refine wpListIn_make_own _ rfl _ _ 46 rfl w.heap.size 5 i0 (.int .u8 0) 1 Try.underlying46 hi hz0 hz1 .i64 .i64 _ (xs.length + (encI n).length) rfl rfl (by simp) (by rw [hz2]; omega) (by simp only [maxLen]; omega) hb1.size ?_; intro w2 hown2 hg2; have hb2 : Below w.heap.size w w2 := hb1.grown hg2 hb1.size (by simp)
       have bO := Boxed.new w2 46 (.slice (some ⟨w1.heap.size, 0, none⟩) 0 (xs.length + (encI n).length)))
    | (gi_at_builtin; refine wpListIn_append_row _ rfl _ _ 46 rfl w.heap.size 5 i0 (.int .u8 0) Try.underlying46 hi hz0 hz1 hz2 rfl _ 0 [] rfl (hown2.alloc _) w.heap.size _ xs rfl (hrow.below (hb2.alloc hb2.size _)) (by omega) (by have := hb2.size; simp; omega) ?_
       intro v3 w3 hown3 hg3 hnil3
       obtain ⟨g3, cap3, hv3⟩ := ownsRow_some hown3 (fun h => absurd (show Value.slice (some ⟨w1.heap.size, 0, none⟩) 0 (xs.length + (encI n).length) = .slice none 0 0 from (hnil3.1 h).1) (by simp))
       subst hv3
       obtain ⟨bw3, bs3, hrow3, hb3⟩ := boxed_grown bO (by decide) (hown2.alloc _) (by have := hb2.size; simp; omega) hb2.size hown3 hg3
       have hc3 := bw3.cell
       have hf3 := bw3.frozen)
    | (gi_at_call 53; refine (written_in F (m - 1) h2 hro _ _).mono ?_; rintro e w' ⟨rfl, rfl⟩))
  simp only [Nat.zero_add, List.nil_append] at bs3 hrow3 hb3
  have hb4 : Below w.heap.size w (w3.setCell ⟨w2.heap.size, 0, none⟩ (.slice (some ⟨g3, 0, none⟩) xs.length cap3)) := (hb2.alloc hb2.size _).trans hb3
  have hsz3 : w2.heap.size + 1 ≤ w3.heap.size := by have := hg3.size; simpa using this
  have hle2 := hb2.size
  have bN := Boxed.new (w3.setCell ⟨w2.heap.size, 0, none⟩ (.slice (some ⟨g3, 0, none⟩) xs.length cap3)) 36 (.int .u64 n)
  have hszc : (w3.setCell ⟨w2.heap.size, 0, none⟩ (.slice (some ⟨g3, 0, none⟩) xs.length cap3)).heap.size = w3.heap.size := by simp
  rw [hszc] at bN
  have hB0 := hb4.alloc (by rw [hszc]; omega) (.cells #[.int .u64 n] 36)
  refine wpIn_rangeFunc_ownG hro hm1 (gf := 80) (lb := #[.pointer (some ⟨w3.heap.size, 0, none⟩)]) rfl h3 (enters_of Try.func80 (by kernel_rfl) rfl)
    (written_stops F (m - 1) h3 hro (by omega) w3.heap.size w.heap.size n hn _ (by simp) bN.cell) belowK_t (belowK_b (by simp; omega)) (Below.refl _ _) (fun _ => rfl)
    (fun pre W => (∃ v, Boxed W w2.heap.size 46 v ∧ W.ownsRow w.heap.size 5 1 v (xs.length + pre.length) ((xs ++ pre).map (.int .u8)) ∧ v ≠ .slice none 0 0) ∧ Below w.heap.size w W)
    (fun _ _ _ => False)
    (OwnFrom.and (Own.from (holdsRow_own w.heap.size w2.heap.size 46 5 1 (fun pre : List Int => xs.length + pre.length) (fun pre => (xs ++ pre).map (.int .u8)) (fun _ v => v ≠ .slice none 0 0)) _) (ownFrom_below (Nat.le_refl _) (by simp; omega)))
    (fun _ _ _ _ _ hs _ _ => hs)
    ⟨⟨_, bs3.alloc _, by simpa using hrow3.alloc _, by simp⟩, hB0⟩
    (fun x => { tmps := #[.slice A xs.length c, .int .u64 n, undef, undef, .slice none 0 0, .pointer (some ⟨w2.heap.size, 0, none⟩), .int .u8 x, .slice A xs.length c, .int .i64 xs.length, .int .u64 n, .int .i64 (encI n).length, .int .i64 (xs.length + (encI n).length), .slice (some ⟨w1.heap.size, 0, none⟩) 0 (xs.length + (encI n).length), .slice (some ⟨w1.heap.size, 0, none⟩) 0 (xs.length + (encI n).length), .slice A xs.length c, .slice (some ⟨g3, 0, none⟩) xs.length cap3, .int .u64 n, .func (.func 80) #[] #[.pointer (some ⟨w3.heap.size, 0, none⟩)], .int .u8 x, undef, undef, undef, undef, undef], defers := [] }) ?assign ?body ?done ?stop
  case assign =>
    intro l x W K hK
    gi_wp2
    exact hK
  case body =>
    rintro l pre x W ⟨⟨v, hv, hrow, hnil⟩, hB⟩ hlt
    have hc := hv.cell
    gi_wp2_with (gi_at_builtin; refine wpListIn_append_own _ rfl _ _ 46 rfl w.heap.size 5 i0 (.int .u8 0) 1 1 Try.underlying46 hi hz0 hz1 hz2 rfl (by decide) _ _ _ rfl (hrow.alloc _) ⟨W.heap.size, 0, none⟩ 1 1 [.int .u8 x] rfl rfl (cell_one_new _ _ _) (by simp [Value.oneCell']) (by simp only [maxLen]; omega) (by omega) (by have := hB.size; simp; omega) ?_; intro v' w1 hown' hgrow hn'; obtain ⟨g', cap', rfl⟩ := ownsRow_succ hown'; obtain ⟨hv1, hv2, hr2, hk2, hb2⟩ := hv.appended (by decide) hrow hB.size hle2 hown' hgrow; have hc1 := hv1.cell; have hf1 := hv1.frozen)
    exact ⟨hk2.from _, hb2, ⟨_, hv2, by simpa [Nat.add_assoc] using hr2, by simp⟩, hB.trans hb2⟩
  case done =>
    rintro D ys W hD rfl ⟨⟨v, hv, hrow, hnil⟩, hB⟩ hK
    have hc := hv.cell
    gi_wp2
    refine ⟨by simp, .inl ⟨_, _, rfl, run_takeDeferred hK, ?_⟩⟩
    exact ⟨_, results_tmp rfl _ _ _, v, rfl, ownsRow_putObj hrow _ hK rfl, hB.trans (belowK_b (w := w) (Nat.le_refl _) W D _ _ (by simp at hD; omega) hK rfl rfl)⟩
  case stop =>
    rintro D c pre W _ _ h _
    exact h.elim

#print axioms put_in
end Go.Proofs.Ytlmpicfhbpnpbaa

namespace Go.Proofs.Ytlmpicfhbpnpbaa
open Go.RowKit Go.Shelf

theorem put_any (A : Option Addr) (c : Nat) (xs : List Int) (n : Nat) (hn : n < 18446744073709551616) (hsm : xs.length ≤ 100000000000) (w : World) (hrow : Row w w.heap.size (.slice A xs.length c) xs) :
    Calls Try.prog 31 #[.slice A xs.length c, .int .u64 n] w fun e W' => ∃ v, e = .returned v ∧ W'.ownsRow w.heap.size 5 1 v (xs.length + (encI n).length) ((xs ++ encI n).map (.int .u8)) ∧ Below w.heap.size w W' :=
  callsIn_wide.1 (put_in Fence.wide 5 trivial trivial trivial trivial rfl (by omega) A c xs n hn hsm w hrow)
theorem size_any (n : Nat) (hn : n < 18446744073709551616) (w : World) :
    Calls Try.prog 39 #[.int .u64 n] w fun e W' => e = .returned (.int .i64 (encI n).length) ∧ Below w.heap.size w W' :=
  callsIn_wide.1 (size_in Fence.wide 5 trivial trivial trivial rfl (by omega) n hn w)

/-- Put(nil, n). -/
theorem put_nil (n : Nat) (hn : n < 18446744073709551616) (w : World) :
    Calls Try.prog 31 #[.slice none 0 0, .int .u64 n] w fun e W' => ∃ v, e = .returned v ∧ W'.ownsRow w.heap.size 5 1 v (encI n).length ((encI n).map (.int .u8)) ∧ Below w.heap.size w W' := by
  have h := put_any none 0 [] n hn (by simp) w (Row.nil _ _)
  simpa using h

end Go.Proofs.Ytlmpicfhbpnpbaa
