/-
  What trace.Count answers: of any trace; the numbers go round as int does.
-/
import Derived.Test.YtcegnkbafbepbaaTraceArgs
import Derived.Test.YtcegnkbafbepbaaRoundRegion
namespace Go.Proofs.Ytcegnkbafbepbaa
open Go.RowKit Go.Shelf

attribute [local go_sem] Oper.semAt_some


theorem wrap_succ (n : Nat) : wrap64 (wrap64 n + 1) = wrap64 ((n : Int) + 1) := by
  unfold wrap64
  omega
theorem wrap_add (n m : Nat) : wrap64 (wrap64 n + m) = wrap64 ((n : Int) + m) := by
  unfold wrap64
  omega
theorem sumS_snoc (l : List Ag) (a : Ag) : sumS (l ++ [a]) = sumS l + a.s.length := by rw [sumS_append]; simp [sumS]

/-- Three counters, and what has been kept. -/
def Cnt (n₀ bp b : Nat) (w : World) (x y z : Int) (W : World) : Prop :=
  Boxed W b 3 (.int .i64 x) ∧ Boxed W (b + 1) 3 (.int .i64 y) ∧ Boxed W (b + 2) 3 (.int .i64 z) ∧ KeepsE n₀ bp w W
theorem Cnt.calm {n₀ bp b m : Nat} {w A B : World} {x y z : Int} (h : Cnt n₀ bp b w x y z A) (hc : Calm m A B) (h1 : n₀ ≤ m) (h2 : n₀ ≤ w.heap.size) (h3 : bp < m) (h4 : bp < w.heap.size) : Cnt n₀ bp b w x y z B :=
  ⟨hc.boxed h.1, hc.boxed h.2.1, hc.boxed h.2.2.1, abides_below (β := Unit) h1 h2 () A B h.2.2.2.1 hc, (hc.low bp h3 (by have := h.2.2.2.1.size; omega)).trans h.2.2.2.2⟩
theorem keepsE_put {n₀ bp b : Nat} {w : World} (hb : n₀ ≤ b) (hne : bp ≠ b) (u : Value) : KeepsE n₀ bp w (w.setCell ⟨b, 0, none⟩ u) := ⟨(Below.refl _ _).setCell (p := ⟨b, 0, none⟩) hb u, Below.heap_setCell _ _ _ _ (by simpa using hne)⟩

/-- The same, and two blocks of deferred calls. -/
def CntD (n₀ bp b D1 D2 : Nat) (w : World) (x y z : Int) (W : World) : Prop := Cnt n₀ bp b w x y z W ∧ W.heap[D1]? = some (.deferred (some [])) ∧ W.heap[D2]? = some (.deferred (some []))
theorem CntD.drew {n₀ bp b D1 D2 : Nat} {w W : World} {x y z : Int} (h : CntD n₀ bp b D1 D2 w x y z W) : CntD n₀ bp b D1 D2 w x y z W.drew :=
  ⟨⟨h.1.1, h.1.2.1, h.1.2.2.1, h.1.2.2.2.trans ⟨⟨rfl, rfl, rfl, Nat.le_refl _, fun _ _ => rfl⟩, rfl⟩⟩, h.2⟩
theorem CntD.put {n₀ bp b D1 D2 : Nat} {w W : World} {x y z : Int} (h : CntD n₀ bp b D1 D2 w x y z W) (hn : n₀ ≤ b) (h0 : bp ≠ b) (h1 : bp ≠ b + 1) (h2 : bp ≠ b + 2) (hd1 : b + 2 < D1) (hd2 : b + 2 < D2) :
    CntD n₀ bp b D1 D2 w x y z (W.setCell ⟨b, 0, none⟩ (.int .i64 x)) ∧ CntD n₀ bp b D1 D2 w x y z (W.setCell ⟨b + 1, 0, none⟩ (.int .i64 y)) ∧ CntD n₀ bp b D1 D2 w x y z (W.setCell ⟨b + 2, 0, none⟩ (.int .i64 z)) := by
  obtain ⟨⟨g0, g1, g2, g3⟩, g4, g5⟩ := h
  have far : ∀ (k D : Nat) (u : Value), k < D → (W.setCell ⟨k, 0, none⟩ u).heap[D]? = W.heap[D]? := fun k D u hk => Below.heap_setCell _ _ _ _ (by simp only; omega)
  exact ⟨⟨⟨g0.set _, g1.other (by omega) _, g2.other (by omega) _, g3.trans (keepsE_put hn h0 _)⟩, (far _ _ _ (by omega)).trans g4, (far _ _ _ (by omega)).trans g5⟩,
    ⟨⟨g0.other (by omega) _, g1.set _, g2.other (by omega) _, g3.trans (keepsE_put (by omega) h1 _)⟩, (far _ _ _ (by omega)).trans g4, (far _ _ _ (by omega)).trans g5⟩,
    ⟨⟨g0.other (by omega) _, g1.other (by omega) _, g2.set _, g3.trans (keepsE_put (by omega) h2 _)⟩, (far _ _ _ (by omega)).trans g4, (far _ _ _ (by omega)).trans g5⟩⟩
/-- What the loads of the last region see. -/
theorem CntD.s {n₀ bp b D1 D2 : Nat} {w W : World} {x y z : Int} (h : CntD n₀ bp b D1 D2 w x y z W) : CntD n₀ bp b D1 D2 w x y z W ∧ W.cell? ⟨b, 0, none⟩ = some (.int .i64 x) ∧ W.cell? ⟨b + 1, 0, none⟩ = some (.int .i64 y) ∧ W.cell? ⟨b + 1 + 1, 0, none⟩ = some (.int .i64 z) ∧
    W.frozen? ⟨b, 0, none⟩ = false ∧ W.frozen? ⟨b + 1, 0, none⟩ = false ∧ W.frozen? ⟨b + 1 + 1, 0, none⟩ = false :=
  ⟨h, h.1.1.cell, h.1.2.1.cell, h.1.2.2.1.cell, h.1.1.frozen, h.1.2.1.frozen, h.1.2.2.1.frozen⟩

set_option maxRecDepth 100000 in
set_option maxHeartbeats 2000000 in
theorem count_any (A : Option Addr) (c : Nat) (ps : List Pm) (w : World) (hrow : TrRow w w.heap.size (.slice A ps.length c) ps) :
    Calls Try.prog 11 #[.slice A ps.length c] w fun e w' => e = .returned (.tuple #[.int .i64 (wrap64 (evsOf ps).length), .int .i64 (wrap64 (agsOf (evsOf ps)).length), .int .i64 (wrap64 (sumS (agsOf (evsOf ps))))]) ∧ Below w.heap.size w w' := by
  have hpc := hrow.1.len.2
  obtain ⟨bp, hbp, hb0, hb1, hb2, hat⟩ : ∃ bp, bp < w.heap.size + 4 ∧ bp ≠ w.heap.size ∧ bp ≠ w.heap.size + 1 ∧ bp ≠ w.heap.size + 2 ∧ ∀ W, Below w.heap.size w W → PtsAt W bp A ps := by
    by_cases hn : 0 < ps.length
    · obtain ⟨b, o, e, hb, hc⟩ := hrow.1.block hn
      exact ⟨b, by omega, by omega, by omega, by omega, fun W h => PtsAt.keep (w := w) (fun _ => ⟨o, e, hc⟩) (h.block b hb)⟩
    · exact ⟨w.heap.size + 3, by omega, by omega, by omega, by omega, fun _ _ h => absurd h hn⟩
  have HPS := Lib.hid (fun W (h : Below w.heap.size w W) => fun p (hp : p ∈ ps) => (hrow.2 p hp).below h)
  have HAT := Lib.hid hat
  clear hrow hat
  refine (callsIn_wide (n := 9)).1 ?_
  refine callsIn_of_wp_marks Try.func11 rfl trivial ?_ rfl
  simp only [Try.ntmps11, List.size_toArray, List.length_cons, List.length_nil, Nat.reduceAdd, Nat.reduceSub, Array.replicate_succ, Array.replicate_zero, List.push_toArray, List.append_toArray, List.nil_append, List.cons_append]
  gi_wp2_with (refine ⟨trivial, ?_⟩; gi_at_call 21; refine (callsIn_wide.2 (eventsOf_any _ _ _ _)).mono ?_; rintro e w' ⟨rfl, rfl⟩)
  obtain ⟨b, hb⟩ : ∃ b, w.heap.size = b := ⟨_, rfl⟩
  obtain ⟨w1, hw1⟩ : ∃ w1, ((((w.alloc (.cells #[.int .i64 0] 3)).alloc (.cells #[.int .i64 0] 3)).alloc (.cells #[.int .i64 0] 3)).alloc (.cells #[.slice A ps.length c] 23)) = w1 := ⟨_, rfl⟩
  have q1 : (w.alloc (.cells #[.int .i64 0] 3)).heap.size = b + 1 := by rw [World.size_alloc, hb]
  have q2 : ((w.alloc (.cells #[.int .i64 0] 3)).alloc (.cells #[.int .i64 0] 3)).heap.size = b + 2 := by rw [World.size_alloc, q1]
  have q3 : (((w.alloc (.cells #[.int .i64 0] 3)).alloc (.cells #[.int .i64 0] 3)).alloc (.cells #[.int .i64 0] 3)).heap.size = b + 3 := by rw [World.size_alloc, q2]
  have s1 : w1.heap.size = b + 4 := by rw [← hw1, World.size_alloc, q3]
  have hbw : Below b w w1 := by rw [← hw1]; exact ((((Below.refl _ _).alloc (by omega) _).alloc (by omega) _).alloc (by omega) _).alloc (by omega) _
  have hB0 : Boxed w1 b 3 (.int .i64 0) := by rw [← hw1, ← hb]; exact (((Boxed.new w _ _).alloc _).alloc _).alloc _
  have hB1 : Boxed w1 (b + 1) 3 (.int .i64 0) := by rw [← hw1, ← q1]; exact ((Boxed.new _ _ _).alloc _).alloc _
  have hB2 : Boxed w1 (b + 2) 3 (.int .i64 0) := by rw [← hw1, ← q2]; exact (Boxed.new _ _ _).alloc _
  have hB3 : Boxed w1 (b + 3) 23 (.slice A ps.length c) := by rw [← hw1, ← q3]; exact Boxed.new _ _ _
  rw [hw1]
  rw [hb] at HPS HAT hbp hb0 hb1 hb2 ⊢
  clear hw1 q1 q2 q3
  have e2 : b + 1 + 1 = b + 2 := rfl
  have e3 : b + 1 + 1 + 1 = b + 3 := rfl
  have HB := Lib.hid hbw
  refine range_gives rfl (by omega) (gf := 34) (lb := #[.pointer (some ⟨b + 3, 0, none⟩)]) rfl trivial (enters_of Try.func34 (by kernel_rfl) rfl)
    (events_gives (9 - 1) (by omega) (b + 3) b bp A c ps hpc w1 hB3 (by omega) (by omega) (HAT.out _ hbw) (HPS.out _ hbw)) (fun _ => rfl) (fun h k => h.trans k) (fun m W1 l1 o o' hl _ h hc => KeepsE.turn (w := w1) (by omega) (by omega) W1 l1 o o' hl h hc)
    (fun pre W => Cnt b bp b w1 (wrap64 pre.length) 0 0 W) (fun _ _ => False) (fun _ _ _ h hc => Cnt.calm h hc (by omega) (by omega) (by omega) (by omega)) (fun _ _ _ h _ => h) ⟨by simpa [wrap64] using hB0, hB1, hB2, KeepsE.refl _ _ _⟩
    (fun pre x a' W => a' = { tmps := #[.slice A ps.length c, undef, .pointer (some ⟨b, 0, none⟩), .pointer (some ⟨b + 1, 0, none⟩), .pointer (some ⟨b + 1 + 1, 0, none⟩), undef, .slice A ps.length c, .func (.func 34) #[] #[.pointer (some ⟨b + 1 + 1 + 1, 0, none⟩)], x.val, undef, undef, undef, undef, undef, undef, undef, undef, undef, undef, undef, undef, undef, undef, undef], defers := [] } ∧ Cnt b bp b w1 (wrap64 pre.length) 0 0 W)
    (fun pre x a' => ?own) ?take ?body ?done ?stop
  case own =>
    rintro _ X Y ⟨e, h⟩ hc
    exact ⟨e, Cnt.calm h hc (by omega) (by omega) (by omega) (by omega)⟩
  case take =>
    rintro l2 m pre x W1 K hm hm1 hI hR hK
    have HK := Lib.hid (hK _ _ ((KeepsOthers.refl W1).from _) (KeepsE.refl _ _ _) ⟨rfl, hI⟩)
    clear hK hI hR hB0 hB1 hB2 hB3 hbw
    gi_wp2
    exact HK.out
  case body =>
    rintro l2 m pre x a' W1 hm hm1 ⟨rfl, hc⟩
    have hc0 := hc.1.cell
    have hf0 := hc.1.frozen
    have hcc := fun u => (show Cnt b bp b w1 u 0 0 (W1.setCell ⟨b, 0, none⟩ (.int .i64 u)) from ⟨hc.1.set _, hc.2.1.other (by omega) _, hc.2.2.1.other (by omega) _, hc.2.2.2.trans (keepsE_put (Nat.le_refl _) hb0 _)⟩)
    have HCC := Lib.hid hcc
    have HLN := Lib.hid (wrap_succ pre.length)
    obtain ⟨X, hX⟩ : ∃ X, wrap64 (pre.length : Int) = X := ⟨_, rfl⟩
    rw [hX] at hc0 HLN
    clear hc hcc hX hB0 hB1 hB2 hB3 hbw
    gi_wp2
    refine ⟨(KeepsOthers.setCell _ _ _).from _, keepsE_put (Nat.le_refl _) hb0 _, ?_⟩
    have h := HCC.out (wrap64 (X + 1))
    rw [HLN.out] at h ⊢
    exact h
  case stop =>
    rintro D pre V1 _ _ h _
    exact h.elim
  case done =>
    rintro D ys V hD rfl hcnt hK
    gi_wp2_with (refine ⟨trivial, ?_⟩; gi_at_call 22; refine (callsIn_wide.2 (argsOf_any _ _ _ _)).mono ?_; rintro e w' ⟨rfl, rfl⟩)
    obtain ⟨E, hE⟩ : ∃ E, wrap64 ((evsOf ps).length : Int) = E := ⟨_, rfl⟩
    rw [hE] at hcnt
    have HE := Lib.hid hE
    have hzv : b + 4 ≤ V.heap.size := by have := hcnt.2.2.2.1.size; omega
    have hDV := (Array.getElem?_eq_some_iff.1 hK).1
    obtain ⟨w2, hw2⟩ : ∃ w2, V.alloc (.cells #[.slice A ps.length c] 23) = w2 := ⟨_, rfl⟩
    have s2 : w2.heap.size = V.heap.size + 1 := by rw [← hw2, World.size_alloc]
    have hbx2 : Boxed w2 V.heap.size 23 (.slice A ps.length c) := by rw [← hw2]; exact Boxed.new _ _ _
    have hc2 : Cnt b bp b w1 E 0 0 w2 := by rw [← hw2]; exact hcnt.calm (Calm.alloc _ _ _) (m := b + 4) (by omega) (by omega) (by omega) (by omega)
    have hK2 : w2.heap[D]? = some (.deferred (some [])) := by rw [← hw2]; exact (Below.heap_alloc _ _ _ hDV).trans hK
    rw [hw2]
    have hbw2 := hbw.trans hc2.2.2.2.1
    have HB2 := Lib.hid hbw2
    have HC2 := Lib.hid hc2
    clear hw2 hcnt hK hB0 hB1 hB2 hB3 hbw hE
    refine range_gives rfl (by omega) (gf := 35) (lb := #[.pointer (some ⟨V.heap.size, 0, none⟩)]) rfl trivial (enters_of Try.func35 (by kernel_rfl) rfl)
      (args_gives (9 - 1) (by omega) V.heap.size b bp A c ps hpc w2 hbx2 (by omega) (by omega) (HAT.out _ hbw2) (HPS.out _ hbw2)) (fun _ => rfl) (fun h k => h.trans k) (fun m W1 l1 o o' hl hm h hc => ⟨KeepsE.turn (w := w2) (by omega) (by omega) W1 l1 o o' hl h hc, fun k h1 _ => World.putObj_heap_other (by omega)⟩)
      (fun pre W => Cnt b bp b w2 E (wrap64 pre.length) (wrap64 (sumS pre)) W ∧ W.heap[D]? = some (.deferred (some []))) (fun _ _ => False)
      (fun _ _ _ h hc => ⟨h.1.calm hc (by omega) (by omega) (by omega) (by omega), (hc.low D (by omega) (Array.getElem?_eq_some_iff.1 h.2).1).trans h.2⟩) (fun _ _ _ h _ => h) ⟨⟨hc2.1, by simpa [wrap64] using hc2.2.1, by simpa [wrap64, sumS] using hc2.2.2.1, KeepsE.refl _ _ _⟩, hK2⟩
      (fun pre x a' W => (∃ q, a' = { tmps := #[.slice A ps.length c, undef, .pointer (some ⟨b, 0, none⟩), .pointer (some ⟨b + 1, 0, none⟩), .pointer (some ⟨b + 1 + 1, 0, none⟩), .pointer (some ⟨q, 0, none⟩), .slice A ps.length c, .func (.func 34) #[] #[.pointer (some ⟨b + 1 + 1 + 1, 0, none⟩)], undef, undef, undef, .slice A ps.length c, .func (.func 35) #[] #[.pointer (some ⟨V.heap.size, 0, none⟩)], x.val, undef, undef, undef, undef, undef, undef, undef, undef, undef, undef], defers := [] } ∧
        Held W q 49 #[.int .i64 x.t, .int .i64 x.n, .string (strOfNums x.s)] ∧ b + 4 ≤ q) ∧ (Cnt b bp b w2 E (wrap64 pre.length) (wrap64 (sumS pre)) W ∧ W.heap[D]? = some (.deferred (some []))) ∧ x ∈ agsOf (evsOf ps))
      (fun pre x a' => ?own2) ?take2 ?body2 ?done2 ?stop2
    case own2 =>
      rintro _ X Y ⟨⟨q, e, h1, h2⟩, h3, h4⟩ hc
      exact ⟨⟨q, e, hc.held h1, h2⟩, ⟨h3.1.calm hc (by omega) (by omega) (by omega) (by omega), (hc.low D (by omega) (Array.getElem?_eq_some_iff.1 h3.2).1).trans h3.2⟩, h4⟩
    case take2 =>
      rintro l2 m pre x W1 K hm hm1 hI hR hK
      have hzw := hI.1.2.2.2.1.size
      have hcl := Calm.alloc w2.heap.size W1 (.cells #[.int .i64 x.t, .int .i64 x.n, .string (strOfNums x.s)] 49)
      have HK := Lib.hid (hK _ _ ((KeepsOthers.alloc W1 _).from _) (KeepsG.alloc (by omega) (by omega) _) ⟨⟨W1.heap.size, rfl, heap_alloc_new W1 _, by omega⟩, ⟨hI.1.calm hcl (by omega) (by omega) (by omega) (by omega), (hcl.low D (by omega) (Array.getElem?_eq_some_iff.1 hI.2).1).trans hI.2⟩, hR⟩)
      clear hK hI hR hcl hbx2 hK2 hc2 hbw2
      gi_wp2
      exact HK.out
    case body2 =>
      rintro l2 m pre x a' W1 hm hm1 ⟨⟨q, rfl, hq, hbq⟩, ⟨hc, hd⟩, hx⟩
      obtain ⟨hq1, hq2, hq3⟩ : q ≠ b + 1 ∧ q ≠ b + 2 ∧ q ≠ b := ⟨by omega, by omega, by omega⟩
      have hz1 := hc.2.2.2.1.size
      have hqx := hq.cell 2
      simp at hqx
      have hsn := strOfNums_size x.s
      have hc1 := hc.2.1.cell
      have hf1 := hc.2.1.frozen
      have hc2 := hc.2.2.1.cell
      have hf2 := hc.2.2.1.frozen
      have hst : ∀ u v, KeepsG b bp m W1 ((W1.setCell ⟨b + 1, 0, none⟩ (.int .i64 u)).setCell ⟨b + 2, 0, none⟩ (.int .i64 v)) ∧ Cnt b bp b w2 E u v ((W1.setCell ⟨b + 1, 0, none⟩ (.int .i64 u)).setCell ⟨b + 2, 0, none⟩ (.int .i64 v)) ∧
          KeepsFrom w2.heap.size W1 ((W1.setCell ⟨b + 1, 0, none⟩ (.int .i64 u)).setCell ⟨b + 2, 0, none⟩ (.int .i64 v)) ∧ ((W1.setCell ⟨b + 1, 0, none⟩ (.int .i64 u)).setCell ⟨b + 2, 0, none⟩ (.int .i64 v)).heap[D]? = some (.deferred (some [])) := fun u v => by
        have g1 := (keepsE_put (n₀ := b) (bp := bp) (b := b + 1) (w := W1) (by omega) hb1 (.int .i64 u)).trans (keepsE_put (by omega) hb2 (.int .i64 v))
        have far : ∀ k, k ≠ b + 1 → k ≠ b + 2 → ((W1.setCell ⟨b + 1, 0, none⟩ (.int .i64 u)).setCell ⟨b + 2, 0, none⟩ (.int .i64 v)).heap[k]? = W1.heap[k]? := fun k h1 h2 => (Below.heap_setCell _ _ _ _ (by simpa using h2)).trans (Below.heap_setCell _ _ _ _ (by simpa using h1))
        exact ⟨⟨g1, fun k h1 _ => far k (by omega) (by omega)⟩, ⟨(hc.1.other (by omega) _).other (by omega) _, (hc.2.1.set _).other (by omega) _, (hc.2.2.1.other (by omega) _).set _, hc.2.2.2.trans g1⟩,
          ((KeepsOthers.setCell _ _ _).trans (KeepsOthers.setCell _ _ _)).from _, (far D (by omega) (by omega)).trans hd⟩
      have HST := Lib.hid hst
      have HL1 := Lib.hid (wrap_succ pre.length)
      have HL2 := Lib.hid (wrap_add (sumS pre) x.s.length)
      have HSN := Lib.hid (sumS_snoc pre x)
      have hsl : x.s.length ≤ 9223372036854775807 := by
        obtain ⟨y, hy, hxy⟩ := List.mem_flatMap.1 hx
        obtain ⟨p, hp, hyp⟩ := List.mem_flatMap.1 hy
        have := (((HPS.out _ hbw2 p hp).1.2 y hyp).1.2 x hxy).1
        unfold maxLen at this
        omega
      obtain ⟨X, hX⟩ : ∃ X, wrap64 (pre.length : Int) = X := ⟨_, rfl⟩
      obtain ⟨Y, hY⟩ : ∃ Y, wrap64 (sumS pre : Int) = Y := ⟨_, rfl⟩
      rw [hX] at hc1 HL1
      rw [hY] at hc2 HL2
      clear hc hd hx hq hX hY hst hbx2 hK2 hbw2
      gi_wp2
      obtain ⟨g1, g2, g3, g4⟩ := HST.out (wrap64 (X + 1)) (wrap64 (Y + x.s.length))
      rw [HL1.out, HL2.out] at g1 g2 g3 g4 ⊢
      refine ⟨g3, ⟨g1.1, g1.2⟩, ?_, ?_⟩
      · rw [HSN.out, List.length_append]
        exact g2
      · exact g4
    case stop2 =>
      rintro D pre V1 _ _ h _
      exact h.elim
    case done2 =>
      rintro D2 ys V2 hD2 rfl ⟨hcn, hd⟩ hK3
      obtain ⟨Y, hY⟩ : ∃ Y, wrap64 ((agsOf (evsOf ps)).length : Int) = Y := ⟨_, rfl⟩
      obtain ⟨Z, hZ⟩ : ∃ Z, wrap64 (sumS (agsOf (evsOf ps)) : Int) = Z := ⟨_, rfl⟩
      rw [hY, hZ] at hcn
      have HYZ := Lib.hid (And.intro hY hZ)
      have p0 := (CntD.drew (w := w2) (D1 := D) (D2 := D2) (n₀ := b) (bp := bp) ⟨hcn, hd, hK3⟩)
      have p1 := (p0.put (Nat.le_refl _) hb0 hb1 hb2 (by omega) (by omega)).1
      have p2 := (p1.put (Nat.le_refl _) hb0 hb1 hb2 (by omega) (by omega)).2.1
      have p3 := (p2.put (Nat.le_refl _) hb0 hb1 hb2 (by omega) (by omega)).2.2
      have P3 := Lib.hid p3
      have q0 := p0.s
      have q1 := p1.s
      have q2 := p2.s
      have q3 := p3.s
      clear hcn hd hK3 hY hZ hbx2 hK2 hc2 hbw2 p0 p1 p2 p3
      gi_wp2
      refine wpIn_wide.2 ?_
      go_region_held3 (fun W => CntD b bp b D D2 w2 E Y Z W ∧ W.cell? ⟨b, 0, none⟩ = some (.int .i64 E) ∧ W.cell? ⟨b + 1, 0, none⟩ = some (.int .i64 Y) ∧ W.cell? ⟨b + 1 + 1, 0, none⟩ = some (.int .i64 Z) ∧ W.frozen? ⟨b, 0, none⟩ = false ∧ W.frozen? ⟨b + 1, 0, none⟩ = false ∧ W.frozen? ⟨b + 1 + 1, 0, none⟩ = false) (first | (exact q0) | (exact q1) | (exact q2) | (exact q3) | go_keep) (fail)
      gi_wp2
      clear q0 q1 q2 q3
      obtain ⟨W3, hW3⟩ : ∃ W3, (((V2.setCell ⟨b, 0, none⟩ (.int .i64 E)).setCell ⟨b + 1, 0, none⟩ (.int .i64 Y)).setCell ⟨b + 1 + 1, 0, none⟩ (.int .i64 Z)).drew = W3 := ⟨_, rfl⟩
      have hp3 : CntD b bp b D D2 w2 E Y Z W3 := by rw [← hW3]; exact P3.out
      rw [hW3]
      clear hW3 P3
      obtain ⟨hc3, hd3, hk3⟩ := hp3
      have hbl : Below b w W3 := HB2.out.trans hc3.2.2.2.1
      refine ⟨by simp, .inl ⟨_, _, rfl, run_takeDeferred hk3, ?_⟩⟩
      refine ⟨by simp, .inl ⟨_, _, rfl, run_takeDeferred ((World.putObj_heap_other (by omega)).trans hd3), ?_⟩⟩
      obtain ⟨W4, hW4⟩ : ∃ W4, (W3.putObj D2 (.deferred none)).putObj D (.deferred none) = W4 := ⟨_, rfl⟩
      have far : ∀ k, k < b + 4 → W4.heap[k]? = W3.heap[k]? := fun k hk => by rw [← hW4]; exact (World.putObj_heap_other (by omega)).trans (World.putObj_heap_other (by omega))
      have hb4 : Below b w W4 := by
        rw [← hW4]
        have z1 := hbl.size
        have k1 := (Array.getElem?_eq_some_iff.1 hd3).1
        have k2 := (Array.getElem?_eq_some_iff.1 hk3).1
        refine hbl.trans (((Below.refl b W3).grown (grownBy_putObj' W3 D2 (.deferred none)) (by omega) (fun k e => by cases e; omega)).trans ((Below.refl b _).grown (grownBy_putObj' _ D (.deferred none)) ?_ (fun k e => by cases e; omega)))
        simp [World.putObj]
        omega
      have e0 : W4.cell? ⟨b, 0, none⟩ = some (.int .i64 E) := (World.cell?_of_block (a := ⟨b, 0, none⟩) (far b (by omega))).trans hc3.1.cell
      have e1 : W4.cell? ⟨b + 1, 0, none⟩ = some (.int .i64 Y) := (World.cell?_of_block (a := ⟨b + 1, 0, none⟩) (far (b + 1) (by omega))).trans hc3.2.1.cell
      have e2 : W4.cell? ⟨b + 1 + 1, 0, none⟩ = some (.int .i64 Z) := (World.cell?_of_block (a := ⟨b + 1 + 1, 0, none⟩) (far (b + 2) (by omega))).trans hc3.2.2.1.cell
      rw [hW4, HE.out, HYZ.out.1, HYZ.out.2]
      clear hW4 far
      exact ⟨_, by simp [results, Try.results11, go_sem, e0, e1, e2], rfl, by rw [hb]; exact hb4⟩
#print axioms count_any
end Go.Proofs.Ytcegnkbafbepbaa
