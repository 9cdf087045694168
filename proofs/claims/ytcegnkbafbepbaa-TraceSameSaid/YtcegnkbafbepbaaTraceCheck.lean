/-
  What trace.checkEvents answers.
-/
import Derived.Test.YtcegnkbafbepbaaTraceEvent
import Derived.Test.YtcegnkbafbepbaaTraceIt
import Derived.Test.YtcegnkbafbepbaaRoundRegion
namespace Go.Proofs.Ytcegnkbafbepbaa
open Go.RowKit Go.Shelf

attribute [local go_sem] Oper.semAt_some

/-- Between two rounds; behind one that leaves. -/
def CeI (sig : List Pr) (N : Nat) (A : Option Addr) (n c : Nat) (w : World) (pre : List Em) (W : World) : Prop :=
  (∀ e ∈ pre, eventT sig e.e = 0) ∧ Boxed W N 22 (.slice A n c) ∧ Boxed W (N + 2) 27 (.int .i64 0) ∧ KeepsE N (N + 3) w W
def CeX (sig : List Pr) (N : Nat) (w : World) (pre : List Em) (W : World) : Prop :=
  (∃ q x, pre = q ++ [x] ∧ (∀ e ∈ q, eventT sig e.e = 0) ∧ eventT sig x.e ≠ 0 ∧ Boxed W (N + 2) 27 (.int .i64 (eventT sig x.e))) ∧ Below N w W
theorem ceI_abides {sig : List Pr} {N n c m : Nat} {A : Option Addr} {w : World} (h : N + 3 < w.heap.size) (hm : w.heap.size ≤ m) : Abides m (CeI sig N A n c w) := by
  rintro pre X Y ⟨h1, h2, h3, h4⟩ hc
  exact ⟨h1, hc.boxed h2, hc.boxed h3, abides_below (β := Unit) (by omega) (by omega) () X Y h4.1 hc, (hc.low (N + 3) (by omega) (by have := h4.1.size; omega)).trans h4.2⟩
theorem ceX_abides {sig : List Pr} {N m : Nat} {w : World} (h : N + 3 < w.heap.size) (hm : w.heap.size ≤ m) : Abides m (CeX sig N w) := by
  rintro pre X Y ⟨⟨q, x, h1, h2, h3, h4⟩, h5⟩ hc
  exact ⟨⟨q, x, h1, h2, h3, hc.boxed h4⟩, abides_below (β := Unit) (by omega) (by omega) () X Y h5 hc⟩

set_option maxRecDepth 100000 in
set_option maxHeartbeats 2000000 in
theorem checkEvents_any (A : Option Addr) (c : Nat) (ds : List Pd) (p : Pm) (w : World) (hrow : PredRow w w.heap.size (.slice A ds.length c) ds) (hp : p.Ok w w.heap.size) :
    Calls Try.prog 19 #[.slice A ds.length c, p.val] w fun e w' => e = .returned (.int .i64 (whyE (ds.map (·.p)) p.p.evs)) ∧ Below w.heap.size w w' := by
  obtain ⟨hc1, hc2⟩ : ds.length ≤ c ∧ c ≤ 9223372036854775807 := by
    obtain ⟨A', c', hv, q1, q2⟩ := hrow.form
    injection hv with _ _ e3
    exact ⟨by omega, by omega⟩
  obtain ⟨-, hl1, hl2⟩ := hp.1.1.len
  have hml : p.p.evs.length = p.evs.length := List.length_map _
  obtain ⟨N, hN⟩ : ∃ N, w.heap.size = N := ⟨_, rfl⟩
  obtain ⟨w1, hw1⟩ : ∃ w1, ((w.alloc (.cells #[.slice A ds.length c] 22)).alloc (.cells #[.int .u64 p.tm, .slice p.A p.evs.length p.c] 39)).alloc (.cells #[.int .i64 0] 27) = w1 := ⟨_, rfl⟩
  have q1 : (w.alloc (.cells #[.slice A ds.length c] 22)).heap.size = N + 1 := by rw [World.size_alloc, hN]
  have q2 : ((w.alloc (.cells #[.slice A ds.length c] 22)).alloc (.cells #[.int .u64 p.tm, .slice p.A p.evs.length p.c] 39)).heap.size = N + 2 := by rw [World.size_alloc, q1]
  have s1 : w1.heap.size = N + 3 := by rw [← hw1, World.size_alloc, q2]
  have hbw : Below N w w1 := by rw [← hw1]; exact (((Below.refl _ _).alloc (by omega) _).alloc (by omega) _).alloc (by omega) _
  have hB0 : Boxed w1 N 22 (.slice A ds.length c) := by rw [← hw1, ← hN]; exact ((Boxed.new w _ _).alloc _).alloc _
  have hB2 : Boxed w1 (N + 2) 27 (.int .i64 0) := by rw [← hw1, ← q2]; exact Boxed.new _ _ _
  have hH1 : Held w1 (N + 1) 39 #[.int .u64 p.tm, .slice p.A p.evs.length p.c] := by rw [← hw1, ← q1]; exact (Below.heap_alloc _ _ _ (by rw [World.size_alloc]; omega)).trans (heap_alloc_new _ _)
  have y0 := hH1.cell 0
  have y1 := hH1.cell 1
  simp at y0 y1
  have z0 := hB2.cell
  have f0 := hB2.frozen
  by_cases hgt : 1024 < p.evs.length
  · rw [whyE_many (by rw [hml]; exact hgt)]
    have hgi : (1024 : Int) < (p.evs.length : Int) := by omega
    have hce := (hB2.set (.int .i64 6)).cell
    have HB := Lib.hid (fun u => hbw.trans ((Below.refl N w1).setCell (p := ⟨N + 2, 0, none⟩) (by simp) u))
    clear hrow hp hB0 hB2 hH1 hbw
    go_enter Try.func19, Try.ntmps19
    go_wp2_with fail
    refine bodyPost_ret (v := .int .i64 6) (by simp [results, Try.results19, go_sem, hce]) rfl ⟨rfl, HB.out _⟩
  · have hli : (p.evs.length : Int) ≤ 1024 := by omega
    have hfound := @whyE_found (ds.map (·.p)) p.p.evs (by omega)
    have hnone := @whyE_none (ds.map (·.p)) p.p.evs (by omega)
    generalize whyE (ds.map (·.p)) p.p.evs = R at hfound hnone ⊢
    generalize hsg : ds.map (·.p) = sig at hfound hnone
    have HEV := Lib.hid (fun (x : Em) (W : World) h1 h2 => event_any A c ds x W h1 h2)
    rw [hsg] at HEV
    rw [hN] at hrow hp
    have HROW := Lib.hid hrow
    have HOK := Lib.hid hp
    have HF := Lib.hid (fun r (hr : r < p.p.evs.length) => hfound hr)
    have HNO := Lib.hid hnone
    have hb4 : Below N w (w1.alloc (.cells #[.int .u64 p.tm, .slice p.A p.evs.length p.c] 39)) := hbw.alloc (by omega) _
    clear hrow hp hfound hnone hgt hsg z0 f0
    refine (callsIn_wide (n := 9)).1 ?_
    refine callsIn_of_wp_marks Try.func19 rfl trivial ?_ rfl
    simp only [Try.ntmps19, List.size_toArray, List.length_cons, List.length_nil, Nat.reduceAdd, Nat.reduceSub, Array.replicate_succ, Array.replicate_zero, List.push_toArray, List.append_toArray, List.nil_append, List.cons_append]
    gi_wp2_with (refine ⟨trivial, ?_⟩; gi_at_call 21; refine (callsIn_wide.2 (eventsOf_any _ _ _ _)).mono ?_; rintro e w' ⟨rfl, rfl⟩)
    obtain ⟨w2, hw2⟩ : ∃ w2, (w1.alloc (.cells #[.int .u64 p.tm, .slice p.A p.evs.length p.c] 39)).alloc (.cells #[.slice (some ⟨N + 3, 0, none⟩) 1 1] 23) = w2 := ⟨_, rfl⟩
    have q4 : (w1.alloc (.cells #[.int .u64 p.tm, .slice p.A p.evs.length p.c] 39)).heap.size = N + 4 := by rw [World.size_alloc, s1]
    have s2 : w2.heap.size = N + 5 := by rw [← hw2, World.size_alloc, q4]
    have hbw2 : Below N w w2 := by rw [← hw2]; exact hb4.alloc (by omega) _
    have hC0 : Boxed w2 N 22 (.slice A ds.length c) := by rw [← hw2]; exact (hB0.alloc _).alloc _
    have hC2 : Boxed w2 (N + 2) 27 (.int .i64 0) := by rw [← hw2]; exact (hB2.alloc _).alloc _
    have hC4 : Boxed w2 (N + 4) 23 (.slice (some ⟨N + 3, 0, none⟩) 1 1) := by rw [← hw2, ← q4]; exact Boxed.new _ _ _
    have hH3 : Held w2 (N + 3) 39 #[.int .u64 p.tm, .slice p.A p.evs.length p.c] := by rw [← hw2, ← s1]; exact (Below.heap_alloc _ _ _ (by rw [World.size_alloc]; omega)).trans (heap_alloc_new _ _)
    have x0 := hH3.cell 0
    have x1 := hH3.cell 1
    simp at x0 x1
    have hat : PtsAt w2 (N + 3) (some ⟨N + 3, 0, none⟩) [p] := by
      intro _
      refine ⟨0, rfl, fun i u hi => ?_⟩
      match i with
      | 0 => simp [flatN] at hi; rw [← hi]; exact x0
      | 1 => simp [flatN] at hi; rw [← hi]; exact x1
      | (k + 2) => simp [flatN] at hi
    have hevs : evsOf [p] = p.evs := by simp [evsOf]
    rw [hw2]
    clear hw1 hw2 q1 q2 q4 s1 hB0 hB2 hH1 y0 y1 hH3 x0 x1 hbw hb4
    have HBW2 := Lib.hid hbw2
    refine range_gives rfl (by omega) (gf := 34) (lb := #[.pointer (some ⟨N + 3 + 1, 0, none⟩)]) rfl trivial (enters_of Try.func34 (by kernel_rfl) rfl)
      (events_gives (9 - 1) (by omega) (N + 4) N (N + 3) (some ⟨N + 3, 0, none⟩) 1 [p] (by simp) w2 hC4 (by omega) (by omega) hat (fun d hd => by rw [List.mem_singleton.1 hd]; exact HOK.out.below hbw2)) (fun _ => rfl) (fun h k => h.trans k) (fun m W1 l1 o o' hl _ h hc => KeepsE.turn (w := w2) (by omega) (by omega) W1 l1 o o' hl h hc)
      (CeI sig N A ds.length c w2) (CeX sig N w2) (ceI_abides (by omega) (by omega)) (ceX_abides (by omega) (by omega)) ⟨by simp, hC0, hC2, KeepsE.refl _ _ _⟩
      (fun pre x a' W => (∃ q, a' = { tmps := #[.slice A ds.length c, p.val, .pointer (some ⟨N, 0, none⟩), .pointer (some ⟨N + 1, 0, none⟩), .pointer (some ⟨N + 2, 0, none⟩), .pointer (some ⟨q, 0, none⟩), undef, .pointer (some ⟨N + 1, 1, none⟩), .slice p.A p.evs.length p.c, .int .i64 p.evs.length, .bool (decide (1024 < (p.evs.length : Int))), .agg #[.int .u64 p.tm, .slice p.A p.evs.length p.c], .slice (some ⟨N + 3, 0, none⟩) 1 1, .func (.func 34) #[] #[.pointer (some ⟨N + 3 + 1, 0, none⟩)], x.val, undef, undef, undef, undef, undef, undef], defers := [] } ∧ Held W q 42 #[.int .i64 x.p, .slice x.A x.args.length x.c] ∧ N + 5 ≤ q) ∧ CeI sig N A ds.length c w2 pre W ∧ x ∈ evsOf [p])
      (fun pre x a' => ?own) ?take ?body ?done ?stop
    case own =>
      rintro _ X Y ⟨⟨q, e, h1, h2⟩, h3, h4⟩ hc
      exact ⟨⟨q, e, hc.held h1, h2⟩, ceI_abides (by omega) (by omega) _ _ _ h3 hc, h4⟩
    case take =>
      rintro l2 m pre x W1 K hm hm1 hI hR hK
      have hzw := hI.2.2.2.1.size
      have hcl := Calm.alloc w2.heap.size W1 (.cells #[.int .i64 x.p, .slice x.A x.args.length x.c] 42)
      have HK := Lib.hid (hK _ _ ((KeepsOthers.alloc W1 _).from _) (KeepsE.alloc (by omega) (by omega) _) ⟨⟨W1.heap.size, rfl, heap_alloc_new W1 _, by omega⟩, ceI_abides (by omega) (by omega) _ _ _ hI hcl, hR.1⟩)
      clear hK hI hR hcl hC0 hC2 hC4 hat hbw2
      gi_wp2
      exact HK.out
    case body =>
      rintro l2 m pre x a' W1 hm hm1 ⟨⟨q, rfl, hq, hbq⟩, ⟨hz, hx0, hx2, hke⟩, hx⟩
      rw [hevs] at hx
      have hb1 := HBW2.out.trans hke.1
      have hz1 := hb1.size
      have hzk := hke.1.size
      have HE := Lib.hid (HEV.out x W1 ((HROW.out.below hb1).more (by omega)) (((HOK.out.1.2 x hx).below hb1).more (by omega)))
      obtain ⟨r, hr⟩ : ∃ r, eventT sig x.e = r := ⟨_, rfl⟩
      rw [hr] at HE
      have q0 := hq.cell 0
      have q1 := hq.cell 1
      simp at q0 q1
      have c0 := hx0.cell
      have HR := Lib.hid hr
      have HZ := Lib.hid hz
      have HX0 := Lib.hid hx0
      have HX2 := Lib.hid hx2
      have HKE := Lib.hid hke
      clear hx hz hx0 hx2 hke hr hq hb1 hC0 hC2 hC4 hat hbw2
      have HBX := Lib.hid (fun (W : World) (h : Below W1.heap.size W1 W) => (show Boxed W (N + 2) 27 (.int .i64 0) from (h.block _ HX2.out.lt).trans HX2.out))
      by_cases h0 : r = 0
      · subst h0
        gi_wp2_with (refine ⟨trivial, ?_⟩; gi_at_call 13; refine (callsIn_wide.2 HE.out).mono ?_; rintro e w' ⟨rfl, hb5⟩)
        have hz5 := hb5.size
        have hlow : ∀ k, k < W1.heap.size → _ := fun k hk => hb5.block k hk
        refine ⟨⟨hz5, fun k o hk ho _ => (hlow k (Array.getElem?_eq_some_iff.1 ho).1).trans ho⟩, ⟨hb5.mono (by omega), hlow _ (by omega)⟩, ?_, (hlow _ HX0.out.lt).trans HX0.out, HBX.out _ hb5, HKE.out.trans ⟨hb5.mono (by omega), hlow _ (by omega)⟩⟩
        intro e he
        rcases List.mem_append.1 he with he | he
        · exact HZ.out e he
        · rw [List.mem_singleton.1 he]
          exact HR.out
      · have h1 : (r == 0) = false := beq_eq_false_iff_ne.2 h0
        have h2 : (r != 0) = true := bne_iff_ne.2 h0
        have H0 := Lib.hid h0
        clear h0
        gi_wp2_with (refine ⟨trivial, ?_⟩; gi_at_call 13; refine (callsIn_wide.2 HE.out).mono ?_; rintro e w' ⟨rfl, hb5⟩; have hx5 := HBX.out _ hb5; have hc5 := hx5.cell; have hf5 := hx5.frozen)
        have hz5 := hb5.size
        refine ⟨trivial, ?_, ⟨pre, x, rfl, HZ.out, by rw [HR.out]; exact H0.out, by rw [HR.out]; exact hx5.set _⟩, (HKE.out.1.trans (hb5.mono (by omega))).setCell (p := ⟨N + 2, 0, none⟩) (by simp) _⟩
        refine KeepsFrom.trans (Y := w') ⟨hz5, fun k o hk ho _ => (hb5.block k (Array.getElem?_eq_some_iff.1 ho).1).trans ho⟩ ((KeepsOthers.setCell _ _ _).from _)
    case done =>
      rintro D ys V hD rfl ⟨hz, hx0, hx2, hke⟩ hK
      have hR : R = 0 := HNO.out fun j hj => by
        rw [List.length_map] at hj
        obtain ⟨e, he⟩ : ∃ e, p.evs[j]? = some e := ⟨_, List.getElem?_eq_getElem hj⟩
        rw [getD_of (at_ev he)]
        exact hz e (by rw [hevs]; exact List.mem_of_getElem? he)
      have hst := hx2.set (.int .i64 0)
      have c2 := hx2.cell
      have f2 := hx2.frozen
      have hbl : Below N w (V.setCell ⟨N + 2, 0, none⟩ (.int .i64 0)) := (HBW2.out.trans hke.1).setCell (p := ⟨N + 2, 0, none⟩) (by simp) _
      have hKD : (V.setCell ⟨N + 2, 0, none⟩ (.int .i64 0)).heap[D]? = some (.deferred (some [])) := (Below.heap_setCell _ _ _ _ (by simp only; omega)).trans hK
      clear hz hx0 hx2 hke hC0 hC2 hC4 hat hbw2
      gi_wp2
      generalize V.setCell ⟨N + 2, 0, none⟩ (.int .i64 0) = V3 at hst hbl hKD ⊢
      refine ⟨by simp, .inl ⟨_, _, rfl, run_takeDeferred hKD, ?_⟩⟩
      have hce : (V3.putObj D (.deferred none)).cell? ⟨N + 2, 0, none⟩ = some (.int .i64 0) := (World.cell?_of_block (a := ⟨N + 2, 0, none⟩) (World.putObj_heap_other (by simp only; omega))).trans hst.cell
      exact ⟨.int .i64 0, by simp [results, Try.results19, go_sem, hce], by rw [hR], by rw [hN]; exact hbl.trans ((Below.refl N V3).grown (grownBy_putObj' V3 D (.deferred none)) (by have := (Array.getElem?_eq_some_iff.1 hKD).1; omega) (fun k e => by cases e; omega))⟩
    case stop =>
      rintro D pre V hD hS ⟨⟨q, x, rfl, hz, hne, hst⟩, hbl⟩ hKD
      rw [hevs] at hS
      have hR : R = eventT sig x.e := by
        have hx : p.evs[q.length]? = some x := by
          obtain ⟨t, ht⟩ := hS
          rw [← ht]
          simp
        have hl := (List.getElem?_eq_some_iff.1 hx).1
        have := HF.out q.length (by rw [List.length_map]; exact hl) (fun j hj => ?_) (by rw [getD_of (at_ev hx)]; exact hne)
        · rw [this, getD_of (at_ev hx)]
        · obtain ⟨e, he⟩ : ∃ e, q[j]? = some e := ⟨_, List.getElem?_eq_getElem hj⟩
          have he2 : p.evs[j]? = some e := by
            obtain ⟨t, ht⟩ := hS
            rw [← ht, List.append_assoc, List.getElem?_append_left hj]
            exact he
          rw [getD_of (at_ev he2)]
          exact hz e (List.mem_of_getElem? he)
      rw [← hR] at hst
      have hbn := HBW2.out.trans hbl
      clear hz hne hS hC0 hC2 hC4 hat hbw2 hbl
      gi_wp2
      refine ⟨by simp, .inl ⟨_, _, rfl, run_takeDeferred hKD, ?_⟩⟩
      have hce : (V.putObj D (.deferred none)).cell? ⟨N + 2, 0, none⟩ = some (.int .i64 R) := (World.cell?_of_block (a := ⟨N + 2, 0, none⟩) (World.putObj_heap_other (by simp only; omega))).trans hst.cell
      exact ⟨.int .i64 R, by simp [results, Try.results19, go_sem, hce], rfl, by rw [hN]; exact hbn.trans ((Below.refl N V).grown (grownBy_putObj' V D (.deferred none)) (by have := (Array.getElem?_eq_some_iff.1 hKD).1; omega) (fun k e => by cases e; omega))⟩
#print axioms checkEvents_any
end Go.Proofs.Ytcegnkbafbepbaa
