/-
  What trace.cloneEvents answers: the same events, in memory of its own.
-/
import Derived.Test.YtlmpicfhbpnpbaaTraceOwn
import Derived.Test.YtlmpicfhbpnpbaaGives
namespace Go.Proofs.Ytlmpicfhbpnpbaa
open Go.RowKit Go.Shelf

attribute [local go_sem] Oper.semAt_some

/-- Between two rounds: where the events lie that were laid. -/
def ClJ (N : Nat) (w : World) (A : Option Addr) (c : Nat) (es pre : List Em) (W : World) : Prop :=
  OwnE W (N + 4) (.slice A es.length c) es ∧ es.map (·.e) = pre.map (·.e) ∧ Boxed W (N + 1) 37 (.slice A es.length c) ∧ KeepsE N (N + 2) w W
def ClI (N : Nat) (w : World) (pre : List Em) (W : World) : Prop := ∃ (A : Option Addr) (c : Nat) (es : List Em), ClJ N w A c es pre W
theorem clJ_calm {N m c : Nat} {w X Y : World} {A : Option Addr} {es pre : List Em} (h : N + 2 < w.heap.size) (hm : w.heap.size ≤ m) (hj : ClJ N w A c es pre X) (hc : Calm m X Y) : ClJ N w A c es pre Y := by
  obtain ⟨h1, h2, h3, h4⟩ := hj
  exact ⟨h1.calm hc, h2, hc.boxed h3, abides_below (β := Unit) (by omega) (by omega) () X Y h4.1 hc, (hc.low (N + 2) (by omega) (by have := h4.1.size; omega)).trans h4.2⟩
theorem clI_abides {N m : Nat} {w : World} (h : N + 2 < w.heap.size) (hm : w.heap.size ≤ m) : Abides m (ClI N w) := by
  rintro pre X Y ⟨A, c, es, hj⟩ hc
  exact ⟨A, c, es, clJ_calm h hm hj hc⟩
theorem held_two {W : World} {q : Nat} {t : TypeId} {u v : Value} (h : Held W q t #[u, v]) : W.cell? ⟨q, 0, none⟩ = some u ∧ W.cell? ⟨q, 1, none⟩ = some v := ⟨by have := h.cell 0; simpa using this, by have := h.cell 1; simpa using this⟩
/-- What a round leaves. -/
theorem clone_round {N c c2 c4 : Nat} {A A2 A4 : Option Addr} {w2 W1 V2 V4 : World} {pre es : List Em} {x : Em} {O : Obj} (s2 : w2.heap.size = N + 4) (hes : OwnE W1 (N + 4) (.slice A es.length c) es) (hpm : es.map (·.e) = pre.map (·.e))
    (hbx : Boxed W1 (N + 1) 37 (.slice A es.length c)) (hke : KeepsE N (N + 2) w2 W1) (hf : (∀ a ∈ x.args, a.Fits) ∧ x.Fits) (b2 : Below W1.heap.size W1 V2)
    (hO2 : V2.ownsRow (N + 4) 61 3 (.slice A2 x.args.length c2) x.args.length (flatG x.args)) (hO4 : V4.ownsRow (N + 4) 42 2 (.slice A4 (es.length + 1) c4) (es.length + 1) (flatE es ++ flatE [⟨x.p, x.args, A2, c2⟩]))
    (hg4 : (V2.alloc O).grownBy V4 (Value.slice A es.length c).ownBlock) :
    KeepsFrom w2.heap.size W1 (V4.setCell ⟨N + 1, 0, none⟩ (.slice A4 (es.length + 1) c4)) ∧ KeepsE N (N + 2) W1 (V4.setCell ⟨N + 1, 0, none⟩ (.slice A4 (es.length + 1) c4)) ∧ ClI N w2 (pre ++ [x]) (V4.setCell ⟨N + 1, 0, none⟩ (.slice A4 (es.length + 1) c4)) := by
  have z1 := hke.1.size
  have b3 : Below W1.heap.size W1 (V2.alloc O) := b2.alloc b2.size _
  have z3 := b3.size
  have h3 := hes.below b3
  have hO3 : OwnG (V2.alloc O) (N + 4) ⟨x.p, x.args, A2, c2⟩ := ⟨World.ownsRow.alloc hO2 _, hf⟩
  have ne1 : 61 ≠ 42 := by decide
  have hbl : ∀ k, k < N + 4 → V4.heap[k]? = W1.heap[k]? := fun k hk => (hg4.block k (by omega) (fun e => by have := (World.ownsRow.lt h3.1 k e.symm).1; omega)).trans (b3.block k (by omega))
  have hB4 : Boxed V4 (N + 1) 37 (.slice A es.length c) := (hbl _ (by omega)).trans hbx
  have ke : KeepsE N (N + 2) W1 (V4.setCell ⟨N + 1, 0, none⟩ (.slice A4 (es.length + 1) c4)) :=
    ((keepsE_below b3 (by omega) (by omega)).trans (keepsE_grown h3.1 hg4 (by omega) (by omega) (by omega) (by omega))).trans ⟨(Below.refl _ _).setCell (p := ⟨N + 1, 0, none⟩) (by simp) _, Below.heap_setCell _ _ _ _ (by simp)⟩
  refine ⟨((keeps_below b3).trans ((keeps_grown h3.1 hg4).trans (KeepsOthers.setCell _ _ _))).from _, ke, A4, c4, es ++ [⟨x.p, x.args, A2, c2⟩], ⟨?_, fun d hd => ?_⟩, by simp [hpm], ?_, hke.trans ke⟩
  · rw [flatE_append, List.length_append]
    exact own_put1 hO4 (by omega)
  · refine OwnG.put ?_ (by omega)
    rcases List.mem_append.1 hd with h | h
    · exact (h3.2 d h).grown h3.1 ne1 hg4
    · rw [List.mem_singleton.1 h]
      exact hO3.grown h3.1 ne1 hg4
  · rw [List.length_append]
    exact hB4.set _

set_option maxRecDepth 100000 in
set_option maxHeartbeats 4000000 in
theorem cloneEvents_any (p : Pm) (w : World) (hp : p.Ok w w.heap.size) (hfit : p.evs.length ≤ 4398046510976 ∧ ∀ x ∈ p.evs, x.args.length ≤ 4398046510976) :
    Calls Try.prog 76 #[p.val] w fun e w' => ∃ A c es, e = .returned (.slice A es.length c) ∧ OwnE w' w.heap.size (.slice A es.length c) es ∧ es.map (·.e) = p.evs.map (·.e) ∧ Below w.heap.size w w' := by
  obtain ⟨-, hl1, hl2⟩ := hp.1.1.len
  obtain ⟨hf1, hf2⟩ := hfit
  obtain ⟨ig, hig, hg0, hg1, hg2⟩ := info_parts Try.infoArg
  obtain ⟨iv, hiv, hv0, hv1, hv2⟩ := info_parts Try.infoEvent
  obtain ⟨N, hN⟩ : ∃ N, w.heap.size = N := ⟨_, rfl⟩
  obtain ⟨w1, hw1⟩ : ∃ w1, (w.alloc (.cells #[.int .u64 p.tm, .slice p.A p.evs.length p.c] 39)).alloc (.cells #[.slice none 0 0] 37) = w1 := ⟨_, rfl⟩
  have q1 : (w.alloc (.cells #[.int .u64 p.tm, .slice p.A p.evs.length p.c] 39)).heap.size = N + 1 := by rw [World.size_alloc, hN]
  have s1 : w1.heap.size = N + 2 := by rw [← hw1, World.size_alloc, q1]
  have hbw : Below N w w1 := by rw [← hw1]; exact ((Below.refl _ _).alloc (by omega) _).alloc (by omega) _
  have hB1 : Boxed w1 (N + 1) 37 (.slice none 0 0) := by rw [← hw1, ← q1]; exact Boxed.new _ _ _
  have hH0 : Held w1 N 39 #[.int .u64 p.tm, .slice p.A p.evs.length p.c] := by rw [← hw1, ← hN]; exact (Below.heap_alloc _ _ _ (by rw [World.size_alloc]; omega)).trans (heap_alloc_new _ _)
  have y0 := hH0.cell 0
  have y1 := hH0.cell 1
  simp at y0 y1
  rw [hN] at hp ⊢
  have HOK := Lib.hid hp
  have HF2 := Lib.hid hf2
  have hb4 : Below N w (w1.alloc (.cells #[.int .u64 p.tm, .slice p.A p.evs.length p.c] 39)) := hbw.alloc (by omega) _
  clear hp hf2
  refine (callsIn_wide (n := 9)).1 ?_
  refine callsIn_of_wp_marks Try.func76 rfl trivial ?_ rfl
  simp only [Try.ntmps76, List.size_toArray, List.length_cons, List.length_nil, Nat.reduceAdd, Nat.reduceSub, Array.replicate_succ, Array.replicate_zero, List.push_toArray, List.append_toArray, List.nil_append, List.cons_append]
  gi_wp2_with (refine ⟨trivial, ?_⟩; gi_at_call 27; refine (callsIn_wide.2 (eventsOf_any _ _ _ _)).mono ?_; rintro e w' ⟨rfl, rfl⟩)
  obtain ⟨w2, hw2⟩ : ∃ w2, (w1.alloc (.cells #[.int .u64 p.tm, .slice p.A p.evs.length p.c] 39)).alloc (.cells #[.slice (some ⟨N + 2, 0, none⟩) 1 1] 23) = w2 := ⟨_, rfl⟩
  have q4 : (w1.alloc (.cells #[.int .u64 p.tm, .slice p.A p.evs.length p.c] 39)).heap.size = N + 3 := by rw [World.size_alloc, s1]
  have s2 : w2.heap.size = N + 4 := by rw [← hw2, World.size_alloc, q4]
  have hbw2 : Below N w w2 := by rw [← hw2]; exact hb4.alloc (by omega) _
  have hC1 : Boxed w2 (N + 1) 37 (.slice none 0 0) := by rw [← hw2]; exact (hB1.alloc _).alloc _
  have hC3 : Boxed w2 (N + 3) 23 (.slice (some ⟨N + 2, 0, none⟩) 1 1) := by rw [← hw2, ← q4]; exact Boxed.new _ _ _
  have hH2 : Held w2 (N + 2) 39 #[.int .u64 p.tm, .slice p.A p.evs.length p.c] := by rw [← hw2, ← s1]; exact (Below.heap_alloc _ _ _ (by rw [World.size_alloc]; omega)).trans (heap_alloc_new _ _)
  have x0 := hH2.cell 0
  have x1 := hH2.cell 1
  simp at x0 x1
  have hat : PtsAt w2 (N + 2) (some ⟨N + 2, 0, none⟩) [p] := by
    intro _
    refine ⟨0, rfl, fun i u hi => ?_⟩
    match i with
    | 0 => simp [flatN] at hi; rw [← hi]; exact x0
    | 1 => simp [flatN] at hi; rw [← hi]; exact x1
    | (k + 2) => simp [flatN] at hi
  have hevs : evsOf [p] = p.evs := by simp [evsOf]
  rw [hw2]
  clear hw1 hw2 q1 q4 s1 hB1 hH0 y0 y1 hH2 x0 x1 hbw hb4
  have HBW2 := Lib.hid hbw2
  have HEVS := Lib.hid hevs
  refine range_gives rfl (by omega) (gf := 51) (lb := #[.pointer (some ⟨N + 2 + 1, 0, none⟩)]) rfl trivial (enters_of Try.func51 (by kernel_rfl) rfl)
    (events_gives (9 - 1) (by omega) (N + 3) N (N + 2) (some ⟨N + 2, 0, none⟩) 1 [p] (by simp) w2 hC3 (by omega) (by omega) hat (fun d hd => by rw [List.mem_singleton.1 hd]; exact HOK.out.below hbw2)) (fun _ => rfl) (fun h k => h.trans k) (fun m W1 l1 o o' hl _ h hc => KeepsE.turn (w := w2) (by omega) (by omega) W1 l1 o o' hl h hc)
    (ClI N w2) (fun _ _ => False) (clI_abides (by omega) (by omega)) (fun _ _ _ h _ => h) ⟨none, 0, [], OwnE.nil _ _, rfl, hC1, KeepsE.refl _ _ _⟩
    (fun pre x a' W => (∃ q A c es, a' = { tmps := #[p.val, .pointer (some ⟨N, 0, none⟩), .slice none 0 0, .pointer (some ⟨N + 1, 0, none⟩), .pointer (some ⟨q, 0, none⟩), .agg #[.int .u64 p.tm, .slice p.A p.evs.length p.c], .slice (some ⟨N + 2, 0, none⟩) 1 1, .func (.func 51) #[] #[.pointer (some ⟨N + 2 + 1, 0, none⟩)], x.val, undef, undef, undef, undef, undef, undef, undef, undef, undef, undef], defers := [] } ∧ Held W q 42 #[.int .i64 x.p, .slice x.A x.args.length x.c] ∧ N + 4 ≤ q ∧ some q ≠ (Value.slice A (List.length es) c).ownBlock ∧ ClJ N w2 A c es pre W) ∧ x ∈ evsOf [p] ∧ pre ++ [x] <+: evsOf [p])
    (fun pre x a' => ?own) ?take ?body ?done ?stop
  case own =>
    rintro _ X Y ⟨⟨q, A, c, es, e, h1, h2, h3, h4⟩, h5⟩ hc
    exact ⟨⟨q, A, c, es, e, hc.held h1, h2, h3, clJ_calm (by omega) (by omega) h4 hc⟩, h5⟩
  case take =>
    rintro l2 m pre x W1 K hm hm1 hI hR hK
    obtain ⟨A, c, es, hj⟩ := hI
    have hzw : w2.heap.size ≤ W1.heap.size := hj.2.2.2.1.size
    have hcl := Calm.alloc w2.heap.size W1 (.cells #[.int .i64 x.p, .slice x.A x.args.length x.c] 42)
    have HK := Lib.hid (hK _ _ ((KeepsOthers.alloc W1 _).from _) (KeepsE.alloc (by omega) (by omega) _) ⟨⟨W1.heap.size, A, c, es, rfl, heap_alloc_new W1 _, by omega, fun e => by have := (World.ownsRow.lt hj.1.1 _ e.symm).2; omega, clJ_calm (by omega) (by omega) hj hcl⟩, hR⟩)
    clear hK hj hR hcl hC1 hC3 hat hbw2
    gi_wp2
    exact HK.out
  case body =>
    rintro l2 m pre x a' W1 hm hm1 ⟨⟨q, A, c, es, rfl, hq, hbq, hne, hes, hpm, hbx, hke⟩, hx, hpf⟩
    rw [hevs] at hx hpf
    have hb1 := HBW2.out.trans hke.1
    have hz1 := hb1.size
    have hzk := hke.1.size
    have hok := ((HOK.out.1.2 x hx).below hb1).more (by omega : N ≤ W1.heap.size)
    have hxl := HF2.out x hx
    have hlen : es.length + 1 ≤ 4398046510976 := by
      have h1 := congrArg List.length hpm
      have h2 := hpf.length_le
      simp at h1 h2
      omega
    clear hC1 hC3 hat hbw2
    have HS := Lib.hid (fun W (h : Below W1.heap.size W1 W) => held_two (hq.below h hq.lt))
    have HS2 := Lib.hid (fun W (h : Held W q 42 #[.int .i64 x.p, .slice x.A x.args.length x.c]) => held_two h)
    have HNE := Lib.hid hne
    have HNQ := Lib.hid (show q ≠ N + 1 by omega)
    have hS0 := HS.out _ (Below.refl W1.heap.size W1).drew
    gi_wp2
    refine wpIn_region_round (S := fun W => W.cell? ⟨q, 0, none⟩ = some (.int .i64 x.p) ∧ W.cell? ⟨q, 1, none⟩ = some (.slice x.A x.args.length x.c)) (by kernel_rfl) (by kernel_rfl) (by rintro ⟨a, w, h⟩; exact h) hS0 (fun _ => ?_)
    refine wpAnyH_take (i := 1) (v := .pointer (some ⟨q, 0, none⟩)) rfl (by kernel_rfl) (by kernel_rfl) (by kernel_rfl) (fun _ _ _ h => h) (Or.inl ⟨by rfl, fun W hW => by obtain ⟨u0, u1⟩ := hW; go_simp⟩) hS0 ?_
    try simp only [List.getElem_toArray, List.getElem_cons_zero, List.getElem_cons_succ, Act.put, List.setIfInBounds_toArray, List.set_cons_zero, List.set_cons_succ]
    refine wpAnyH_take (i := 2) (v := .int .i64 x.p) rfl (by kernel_rfl) (by kernel_rfl) (by kernel_rfl) (fun _ _ _ h => h) (Or.inl ⟨by rfl, fun W hW => by obtain ⟨u0, u1⟩ := hW; go_simp⟩) hS0 ?_
    try simp only [List.getElem_toArray, List.getElem_cons_zero, List.getElem_cons_succ, Act.put, List.setIfInBounds_toArray, List.set_cons_zero, List.set_cons_succ]
    refine wpAnyH_take (i := 3) (v := .pointer (some ⟨q, 1, none⟩)) rfl (by kernel_rfl) (by kernel_rfl) (by kernel_rfl) (fun _ _ _ h => h) (Or.inl ⟨by rfl, fun W hW => by obtain ⟨u0, u1⟩ := hW; go_simp⟩) hS0 ?_
    try simp only [List.getElem_toArray, List.getElem_cons_zero, List.getElem_cons_succ, Act.put, List.setIfInBounds_toArray, List.set_cons_zero, List.set_cons_succ]
    refine wpAnyH_take (i := 4) (v := .slice x.A x.args.length x.c) rfl (by kernel_rfl) (by kernel_rfl) (by kernel_rfl) (fun _ _ _ h => h) (Or.inl ⟨by rfl, fun W hW => by obtain ⟨u0, u1⟩ := hW; go_simp⟩) hS0 ?_
    try simp only [List.getElem_toArray, List.getElem_cons_zero, List.getElem_cons_succ, Act.put, List.setIfInBounds_toArray, List.set_cons_zero, List.set_cons_succ]
    refine wpAnyH_ready (rs := [0, 5]) (by kernel_rfl) (by simp) ?_
    refine AllReadyH.cons rfl (fun K hK => ?_) (AllReadyH.cons rfl (fun K hK => ?_) AllReadyH.nil)
    · skip
      have c1' := hbx.cell
      go_simp
      clear c1'
      refine hK.out _ _ hS0 (fun _ => ?_)
      clear hK K
      try simp only [List.getElem_toArray, List.getElem_cons_zero, List.getElem_cons_succ, Act.put, List.setIfInBounds_toArray, List.set_cons_zero, List.set_cons_succ]
      refine wpAnyH_ready (rs := [5]) (by kernel_rfl) (by simp) ?_
      refine AllReadyH.cons rfl (fun K hK => ?_) AllReadyH.nil
      refine step_append_erow (by rfl) (.const (.slice none 0 0)) (.tmp 13) 40 61 (by rfl) (N + 4) ig _ 3 32 Try.underlying40 hig hg0 hg1 hg2 rfl (by omega) (.slice none 0 0) 0 [] (by rfl) (World.ownsRow_nil _ _ _ _) W1.heap.size (.slice x.A x.args.length x.c) x.args.length (flatG x.args) (by rfl) (hok.1.1.below (Below.refl _ _).drew) (flatG_length _) (oneG _) (by unfold maxLen; omega) (by omega) (by simp; omega) x.args.length (Nat.zero_add _) (flatG x.args) rfl ?_
      intro A2 c2 V2 hO2 hg2'
      have b2 : Below W1.heap.size W1 V2 := (Below.refl W1.heap.size W1).drew.grown hg2' (by simp) (by intro k e; cases e)
      refine hK.out _ _ (HS.out _ b2) (fun _ => ?_)
      clear hK K
      try simp only [List.getElem_toArray, List.getElem_cons_zero, List.getElem_cons_succ, Act.put, List.setIfInBounds_toArray, List.set_cons_zero, List.set_cons_succ]
      refine wpAnyH_take (i := 6) (v := .agg #[.int .i64 x.p, .slice A2 x.args.length c2]) rfl (by kernel_rfl) (by kernel_rfl) (by kernel_rfl) (fun _ _ _ h => h) (Or.inl ⟨by rfl, fun W hW => by obtain ⟨u0, u1⟩ := hW; go_simp⟩) (HS.out _ b2) ?_
      try simp only [List.getElem_toArray, List.getElem_cons_zero, List.getElem_cons_succ, Act.put, List.setIfInBounds_toArray, List.set_cons_zero, List.set_cons_succ]
      refine wpAnyH_ready (rs := [7]) (by kernel_rfl) (by simp) ?_
      refine AllReadyH.cons rfl (fun K hK => ?_) AllReadyH.nil
      go_simp
      refine hK.out _ _ (HS.out _ (b2.alloc b2.size _)) (fun _ => ?_)
      clear hK K
      try simp only [List.getElem_toArray, List.getElem_cons_zero, List.getElem_cons_succ, Act.put, List.setIfInBounds_toArray, List.set_cons_zero, List.set_cons_succ]
      refine wpAnyH_ready (rs := [8]) (by kernel_rfl) (by simp) ?_
      refine AllReadyH.cons rfl (fun K hK => ?_) AllReadyH.nil
      refine step_append_erow (by rfl) (.tmp 9) (.tmp 16) 37 42 (by rfl) (N + 4) iv _ 2 32 Try.underlying37 hiv hv0 hv1 hv2 rfl (by omega) (.slice A es.length c) es.length (flatE es) (by rfl) (hes.below (b2.alloc b2.size _)).1 (V2.heap.size + 1) (.slice (some ⟨V2.heap.size, 0, none⟩) 1 1) 1 (flatE [⟨x.p, x.args, A2, c2⟩]) (by rfl) (ERow.held (t := 42) (heap_alloc_new V2 _) (by omega) (by unfold maxLen; omega)) (flatE_length _) (oneE _) (by unfold maxLen; omega) (by omega) (by have := b2.size; simp; omega) (es.length + 1) rfl (flatE es ++ flatE [⟨x.p, x.args, A2, c2⟩]) rfl ?_
      intro A4 c4 V4 hO4 hg4
      have hb4 : Boxed V4 (N + 1) 37 (.slice A es.length c) := (hg4.block (N + 1) (by have := b2.size; simp; omega) (fun e => by have := (World.ownsRow.lt hes.1 (N + 1) e.symm).1; omega)).trans (((b2.alloc b2.size _).block _ (by omega)).trans hbx)
      have hq4 : Held V4 q 42 #[.int .i64 x.p, .slice x.A x.args.length x.c] := (hg4.block q (by have := b2.size; have := hq.lt; simp; omega) (HNE.out)).trans (((b2.alloc b2.size _).block _ hq.lt).trans hq)
      refine hK.out _ _ (HS2.out _ hq4) (fun _ => ?_)
      clear hK K
      try simp only [List.getElem_toArray, List.getElem_cons_zero, List.getElem_cons_succ, Act.put, List.setIfInBounds_toArray, List.set_cons_zero, List.set_cons_succ]
      refine wpAnyH_ready (rs := [9]) (by kernel_rfl) (by simp) ?_
      refine AllReadyH.cons rfl (fun K hK => ?_) AllReadyH.nil
      have c4' := hb4.cell
      have f4' := hb4.frozen
      go_simp
      clear c4' f4'
      refine hK.out _ _ (HS2.out _ (Held.other_put hq4 HNQ.out _)) (fun _ => ?_)
      clear hK K
      try simp only [List.getElem_toArray, List.getElem_cons_zero, List.getElem_cons_succ, Act.put, List.setIfInBounds_toArray, List.set_cons_zero, List.set_cons_succ]
      refine wpAnyH_done (by kernel_rfl) ?_ _
      exact clone_round s2 hes hpm hbx hke ⟨hok.1.2, hok.2⟩ b2 hO2 hO4 hg4
    · skip
      refine step_append_erow (by rfl) (.const (.slice none 0 0)) (.tmp 13) 40 61 (by rfl) (N + 4) ig _ 3 32 Try.underlying40 hig hg0 hg1 hg2 rfl (by omega) (.slice none 0 0) 0 [] (by rfl) (World.ownsRow_nil _ _ _ _) W1.heap.size (.slice x.A x.args.length x.c) x.args.length (flatG x.args) (by rfl) (hok.1.1.below (Below.refl _ _).drew) (flatG_length _) (oneG _) (by unfold maxLen; omega) (by omega) (by simp; omega) x.args.length (Nat.zero_add _) (flatG x.args) rfl ?_
      intro A2 c2 V2 hO2 hg2'
      have b2 : Below W1.heap.size W1 V2 := (Below.refl W1.heap.size W1).drew.grown hg2' (by simp) (by intro k e; cases e)
      refine hK.out _ _ (HS.out _ b2) (fun _ => ?_)
      clear hK K
      try simp only [List.getElem_toArray, List.getElem_cons_zero, List.getElem_cons_succ, Act.put, List.setIfInBounds_toArray, List.set_cons_zero, List.set_cons_succ]
      refine wpAnyH_take (i := 6) (v := .agg #[.int .i64 x.p, .slice A2 x.args.length c2]) rfl (by kernel_rfl) (by kernel_rfl) (by kernel_rfl) (fun _ _ _ h => h) (Or.inl ⟨by rfl, fun W hW => by obtain ⟨u0, u1⟩ := hW; go_simp⟩) (HS.out _ b2) ?_
      try simp only [List.getElem_toArray, List.getElem_cons_zero, List.getElem_cons_succ, Act.put, List.setIfInBounds_toArray, List.set_cons_zero, List.set_cons_succ]
      refine wpAnyH_ready (rs := [0, 7]) (by kernel_rfl) (by simp) ?_
      refine AllReadyH.cons rfl (fun K hK => ?_) (AllReadyH.cons rfl (fun K hK => ?_) AllReadyH.nil)
      · skip
        have c1' := Boxed.cell (show Boxed V2 (N + 1) 37 (.slice A es.length c) from (b2.block _ (by omega)).trans hbx)
        go_simp
        clear c1'
        refine hK.out _ _ (HS.out _ b2) (fun _ => ?_)
        clear hK K
        try simp only [List.getElem_toArray, List.getElem_cons_zero, List.getElem_cons_succ, Act.put, List.setIfInBounds_toArray, List.set_cons_zero, List.set_cons_succ]
        refine wpAnyH_ready (rs := [7]) (by kernel_rfl) (by simp) ?_
        refine AllReadyH.cons rfl (fun K hK => ?_) AllReadyH.nil
        go_simp
        refine hK.out _ _ (HS.out _ (b2.alloc b2.size _)) (fun _ => ?_)
        clear hK K
        try simp only [List.getElem_toArray, List.getElem_cons_zero, List.getElem_cons_succ, Act.put, List.setIfInBounds_toArray, List.set_cons_zero, List.set_cons_succ]
        refine wpAnyH_ready (rs := [8]) (by kernel_rfl) (by simp) ?_
        refine AllReadyH.cons rfl (fun K hK => ?_) AllReadyH.nil
        refine step_append_erow (by rfl) (.tmp 9) (.tmp 16) 37 42 (by rfl) (N + 4) iv _ 2 32 Try.underlying37 hiv hv0 hv1 hv2 rfl (by omega) (.slice A es.length c) es.length (flatE es) (by rfl) (hes.below (b2.alloc b2.size _)).1 (V2.heap.size + 1) (.slice (some ⟨V2.heap.size, 0, none⟩) 1 1) 1 (flatE [⟨x.p, x.args, A2, c2⟩]) (by rfl) (ERow.held (t := 42) (heap_alloc_new V2 _) (by omega) (by unfold maxLen; omega)) (flatE_length _) (oneE _) (by unfold maxLen; omega) (by omega) (by have := b2.size; simp; omega) (es.length + 1) rfl (flatE es ++ flatE [⟨x.p, x.args, A2, c2⟩]) rfl ?_
        intro A4 c4 V4 hO4 hg4
        have hb4 : Boxed V4 (N + 1) 37 (.slice A es.length c) := (hg4.block (N + 1) (by have := b2.size; simp; omega) (fun e => by have := (World.ownsRow.lt hes.1 (N + 1) e.symm).1; omega)).trans (((b2.alloc b2.size _).block _ (by omega)).trans hbx)
        have hq4 : Held V4 q 42 #[.int .i64 x.p, .slice x.A x.args.length x.c] := (hg4.block q (by have := b2.size; have := hq.lt; simp; omega) (HNE.out)).trans (((b2.alloc b2.size _).block _ hq.lt).trans hq)
        refine hK.out _ _ (HS2.out _ hq4) (fun _ => ?_)
        clear hK K
        try simp only [List.getElem_toArray, List.getElem_cons_zero, List.getElem_cons_succ, Act.put, List.setIfInBounds_toArray, List.set_cons_zero, List.set_cons_succ]
        refine wpAnyH_ready (rs := [9]) (by kernel_rfl) (by simp) ?_
        refine AllReadyH.cons rfl (fun K hK => ?_) AllReadyH.nil
        have c4' := hb4.cell
        have f4' := hb4.frozen
        go_simp
        clear c4' f4'
        refine hK.out _ _ (HS2.out _ (Held.other_put hq4 HNQ.out _)) (fun _ => ?_)
        clear hK K
        try simp only [List.getElem_toArray, List.getElem_cons_zero, List.getElem_cons_succ, Act.put, List.setIfInBounds_toArray, List.set_cons_zero, List.set_cons_succ]
        refine wpAnyH_done (by kernel_rfl) ?_ _
        exact clone_round s2 hes hpm hbx hke ⟨hok.1.2, hok.2⟩ b2 hO2 hO4 hg4
      · skip
        go_simp
        refine hK.out _ _ (HS.out _ (b2.alloc b2.size _)) (fun _ => ?_)
        clear hK K
        try simp only [List.getElem_toArray, List.getElem_cons_zero, List.getElem_cons_succ, Act.put, List.setIfInBounds_toArray, List.set_cons_zero, List.set_cons_succ]
        refine wpAnyH_ready (rs := [0]) (by kernel_rfl) (by simp) ?_
        refine AllReadyH.cons rfl (fun K hK => ?_) AllReadyH.nil
        have c1' := Boxed.cell (show Boxed (V2.alloc (.cells #[.int .i64 x.p, .slice A2 x.args.length c2] 42)) (N + 1) 37 (.slice A es.length c) from ((b2.alloc b2.size _).block _ (by omega)).trans hbx)
        go_simp
        clear c1'
        refine hK.out _ _ (HS.out _ (b2.alloc b2.size _)) (fun _ => ?_)
        clear hK K
        try simp only [List.getElem_toArray, List.getElem_cons_zero, List.getElem_cons_succ, Act.put, List.setIfInBounds_toArray, List.set_cons_zero, List.set_cons_succ]
        refine wpAnyH_ready (rs := [8]) (by kernel_rfl) (by simp) ?_
        refine AllReadyH.cons rfl (fun K hK => ?_) AllReadyH.nil
        refine step_append_erow (by rfl) (.tmp 9) (.tmp 16) 37 42 (by rfl) (N + 4) iv _ 2 32 Try.underlying37 hiv hv0 hv1 hv2 rfl (by omega) (.slice A es.length c) es.length (flatE es) (by rfl) (hes.below (b2.alloc b2.size _)).1 (V2.heap.size + 1) (.slice (some ⟨V2.heap.size, 0, none⟩) 1 1) 1 (flatE [⟨x.p, x.args, A2, c2⟩]) (by rfl) (ERow.held (t := 42) (heap_alloc_new V2 _) (by omega) (by unfold maxLen; omega)) (flatE_length _) (oneE _) (by unfold maxLen; omega) (by omega) (by have := b2.size; simp; omega) (es.length + 1) rfl (flatE es ++ flatE [⟨x.p, x.args, A2, c2⟩]) rfl ?_
        intro A4 c4 V4 hO4 hg4
        have hb4 : Boxed V4 (N + 1) 37 (.slice A es.length c) := (hg4.block (N + 1) (by have := b2.size; simp; omega) (fun e => by have := (World.ownsRow.lt hes.1 (N + 1) e.symm).1; omega)).trans (((b2.alloc b2.size _).block _ (by omega)).trans hbx)
        have hq4 : Held V4 q 42 #[.int .i64 x.p, .slice x.A x.args.length x.c] := (hg4.block q (by have := b2.size; have := hq.lt; simp; omega) (HNE.out)).trans (((b2.alloc b2.size _).block _ hq.lt).trans hq)
        refine hK.out _ _ (HS2.out _ hq4) (fun _ => ?_)
        clear hK K
        try simp only [List.getElem_toArray, List.getElem_cons_zero, List.getElem_cons_succ, Act.put, List.setIfInBounds_toArray, List.set_cons_zero, List.set_cons_succ]
        refine wpAnyH_ready (rs := [9]) (by kernel_rfl) (by simp) ?_
        refine AllReadyH.cons rfl (fun K hK => ?_) AllReadyH.nil
        have c4' := hb4.cell
        have f4' := hb4.frozen
        go_simp
        clear c4' f4'
        refine hK.out _ _ (HS2.out _ (Held.other_put hq4 HNQ.out _)) (fun _ => ?_)
        clear hK K
        try simp only [List.getElem_toArray, List.getElem_cons_zero, List.getElem_cons_succ, Act.put, List.setIfInBounds_toArray, List.set_cons_zero, List.set_cons_succ]
        refine wpAnyH_done (by kernel_rfl) ?_ _
        exact clone_round s2 hes hpm hbx hke ⟨hok.1.2, hok.2⟩ b2 hO2 hO4 hg4
  case done =>
    rintro D ys V hD rfl ⟨A, c, es, hes, hpm, hbx, hke⟩ hK
    have c1 := hbx.cell
    have hbl := HBW2.out.trans hke.1
    have hDV := (Array.getElem?_eq_some_iff.1 hK).1
    rw [HEVS.out] at hpm
    have hfin : OwnE (V.putObj D (.deferred none)) N (.slice A es.length c) es := (hes.base (by omega)).calm (Calm.putObj (m := 0) _ hK rfl (by omega))
    have hbf : Below N w (V.putObj D (.deferred none)) := hbl.trans ((Below.refl N V).grown (grownBy_putObj' V D (.deferred none)) (by omega) (fun k e => by cases e; omega))
    have HFN := Lib.hid (And.intro hfin (And.intro hpm hbf))
    clear hC1 hC3 hat hbw2 hfin hbf hpm hes hbl
    gi_wp2
    refine ⟨by simp, .inl ⟨_, _, rfl, run_takeDeferred hK, ?_⟩⟩
    exact ⟨.slice A es.length c, by simp [results, Try.results76, go_sem], A, c, es, rfl, HFN.out⟩
  case stop =>
    rintro D pre V1 _ _ h _
    exact h.elim
#print axioms cloneEvents_any
end Go.Proofs.Ytlmpicfhbpnpbaa
