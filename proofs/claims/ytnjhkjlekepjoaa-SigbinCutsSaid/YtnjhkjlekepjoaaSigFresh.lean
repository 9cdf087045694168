/-
  Slices of predicates of the call's own, that may be written into; what is written into one. No program here.
-/
import Derived.Test.YtnjhkjlekepjoaaSigRef
import Derived.Test.YtnjhkjlekepjoaaCur
namespace Go.Proofs.Ytnjhkjlekepjoaa
open Go.RowKit

/-- A slice of predicates that lies in blocks from n on, and may be written into. -/
def FreshP (n : Nat) (w : World) (A : Option Addr) (c : Nat) (es : List Pd) : Prop :=
  PredRow w w.heap.size (.slice A es.length c) es ∧ (∀ a, A = some a → n ≤ a.block) ∧ (∀ d ∈ es, ∀ a, d.A = some a → n ≤ a.block) ∧
  (∀ b o, A = some ⟨b, o, none⟩ → ∀ i, i < es.length → w.frozen? ⟨b, o + i * 2, none⟩ = false) ∧ (∀ d ∈ es, ∀ b o, d.A = some ⟨b, o, none⟩ → ∀ k, k < d.p.args.length → w.frozen? ⟨b, o + k, none⟩ = false)
/-- All but the blocks from m to n is as it was. -/
structure Mid (m n : Nat) (w w' : World) : Prop where
  os : w'.os = w.os
  tape : w'.tape = w.tape
  output : w'.output = w.output
  size : w.heap.size ≤ w'.heap.size
  block : ∀ k, k < m ∨ n ≤ k ∧ k < w.heap.size → w'.heap[k]? = w.heap[k]?
theorem Mid.refl (m n : Nat) (w : World) : Mid m n w w := ⟨rfl, rfl, rfl, Nat.le_refl _, fun _ _ => rfl⟩
theorem Mid.put {m n : Nat} {w w' : World} (h : Mid m n w w') {p : Addr} (hp : m ≤ p.block ∧ p.block < n) (u : Value) : Mid m n w (w'.setCell p u) :=
  ⟨h.os, h.tape, h.output, Nat.le_trans h.size (by simp [World.setCell]), fun k hk => (Below.heap_setCell w' p u k (by omega)).trans (h.block k hk)⟩
theorem Mid.below {m n : Nat} {w w' : World} (h : Mid m n w w') : Below m w w' := ⟨h.os, h.tape, h.output, h.size, fun k hk => h.block k (.inl hk)⟩
/-- A slice of predicates in blocks from n on. -/
theorem FreshP.mid {m n : Nat} {w w' : World} {A : Option Addr} {c : Nat} {es : List Pd} (h : FreshP n w A c es) (hm : Mid m n w w') : PredRow w' w'.heap.size (.slice A es.length c) es := by
  obtain ⟨⟨A', c', hv, h1, h2, h3, h4, h5⟩, q1, q2, _, _⟩ := h
  injection hv with e1 e2 e3
  subst e1 e3
  have hcell : ∀ b o, n ≤ b → b < w.heap.size → w'.cell? ⟨b, o, none⟩ = w.cell? ⟨b, o, none⟩ := fun b o hb hlt => World.cell?_of_block (a := ⟨b, o, none⟩) (hm.block b (.inr ⟨hb, hlt⟩))
  refine ⟨A, c, rfl, h1, h2, h3, fun hn => ?_, fun d hd => ⟨?_, (h5 d hd).2⟩⟩
  · obtain ⟨b, o, e, hlt, hc⟩ := h4 hn
    have hb := q1 _ e
    exact ⟨b, o, e, Nat.lt_of_lt_of_le hlt hm.size, fun i d hd => ⟨(hcell b _ hb hlt).trans (hc i d hd).1, (hcell b _ hb hlt).trans (hc i d hd).2⟩⟩
  · obtain ⟨A2, c2, hv2, r1, r2, r3, r4⟩ := (h5 d hd).1
    refine ⟨A2, c2, hv2, r1, r2, r3, fun hn => ?_⟩
    obtain ⟨b, o, e, hlt, hc⟩ := r4 hn
    injection hv2 with e4 _ _
    have hb := q2 d hd _ (e4.trans e)
    exact ⟨b, o, e, Nat.lt_of_lt_of_le hlt hm.size, fun i u hi => (hcell b _ hb hlt).trans (hc i u hi)⟩

theorem FreshP.less {m n : Nat} {w : World} {A : Option Addr} {c : Nat} {es : List Pd} (h : FreshP n w A c es) (hm : m ≤ n) : FreshP m w A c es := by
  obtain ⟨h1, h2, h3, h4, h5⟩ := h
  exact ⟨h1, fun a e => Nat.le_trans hm (h2 a e), fun d hd a e => Nat.le_trans hm (h3 d hd a e), h4, h5⟩
/-- What may be written into: from the i-th on names are short; arguments' types are numbers. -/
def Open (w : World) (b o : Nat) (es : List Pd) (i : Nat) : Prop :=
  (∀ (j : Nat) (d : Pd), i ≤ j → es[j]? = some d → (∃ s : ByteArray, s.size ≤ 100 ∧ w.cell? ⟨b, o + j * 2, none⟩ = some (.string s)) ∧ w.frozen? ⟨b, o + j * 2, none⟩ = false) ∧
  (∀ (j : Nat) (d : Pd), es[j]? = some d → w.cell? ⟨b, o + j * 2 + 1, none⟩ = some (.slice d.A d.p.args.length d.c)) ∧
  ∀ d ∈ es, ∀ k, k < d.p.args.length → ∃ b2 o2 z, d.A = some ⟨b2, o2, none⟩ ∧ w.cell? ⟨b2, o2 + k, none⟩ = some (.int .i64 z) ∧ w.frozen? ⟨b2, o2 + k, none⟩ = false
theorem frozen_put (w : World) (p q : Addr) (u : Value) : (w.setCell p u).frozen? q = w.frozen? q := by
  unfold World.frozen? World.setCell
  by_cases h : q.block = p.block
  · cases hp : w.heap[p.block]? with
    | none => simp [Array.getElem?_modify, h, hp]
    | some o => cases o <;> simp [Array.getElem?_modify, h, hp]
  · simp [Array.getElem?_modify, Ne.symm h]
theorem cell_put_ne {w : World} {p q : Addr} {u v x : Value} (hp : w.cell? p = some v) (hq : w.cell? q = some x) (hne : v ≠ x) : (w.setCell p u).cell? q = some x := by
  rw [World.cell?_setCell_other (h := fun e => by subst e; rw [hp] at hq; exact hne (by injection hq)), hq]
theorem Open.name {w : World} {b o i : Nat} {es : List Pd} (h : Open w b o es i) {d : Pd} (hd : es[i]? = some d) (s : ByteArray) : Open (w.setCell ⟨b, o + i * 2, none⟩ (.string s)) b o es (i + 1) := by
  obtain ⟨h1, h2, h3⟩ := h
  obtain ⟨⟨s0, _, hs0⟩, _⟩ := h1 i d (Nat.le_refl _) hd
  refine ⟨fun j d' hj hd' => ?_, fun j d' hd' => ?_, fun d' hd' k hk => ?_⟩
  · obtain ⟨⟨s', hs', hc'⟩, hf'⟩ := h1 j d' (by omega) hd'
    refine ⟨⟨s', hs', ?_⟩, by rw [frozen_put]; exact hf'⟩
    rw [World.cell?_setCell_other (h := fun e => by injection e with _ e _; omega)]
    exact hc'
  · exact cell_put_ne hs0 (h2 j d' hd') (by simp)
  · obtain ⟨b2, o2, z, e, hc, hf⟩ := h3 d' hd' k hk
    exact ⟨b2, o2, z, e, cell_put_ne hs0 hc (by simp), by rw [frozen_put]; exact hf⟩
theorem Open.arg {w : World} {b o i : Nat} {es : List Pd} (h : Open w b o es i) {b2 o2 : Nat} {z : Int} (hz : w.cell? ⟨b2, o2, none⟩ = some (.int .i64 z)) (y : Int) : Open (w.setCell ⟨b2, o2, none⟩ (.int .i64 y)) b o es i := by
  obtain ⟨h1, h2, h3⟩ := h
  refine ⟨fun j d' hj hd' => ?_, fun j d' hd' => ?_, fun d' hd' k hk => ?_⟩
  · obtain ⟨⟨s', hs', hc'⟩, hf'⟩ := h1 j d' hj hd'
    exact ⟨⟨s', hs', cell_put_ne hz hc' (by simp)⟩, by rw [frozen_put]; exact hf'⟩
  · exact cell_put_ne hz (h2 j d' hd') (by simp)
  · obtain ⟨b3, o3, x, e, hc, hf⟩ := h3 d' hd' k hk
    by_cases he : (⟨b2, o2, none⟩ : Addr) = ⟨b3, o3 + k, none⟩
    · refine ⟨b3, o3, y, e, ?_, by rw [frozen_put]; exact hf⟩
      rw [← he, World.cell?_setCell_same' w ⟨b2, o2, none⟩ _ (by rw [hz]; rfl)]
    · refine ⟨b3, o3, x, e, ?_, by rw [frozen_put]; exact hf⟩
      rw [World.cell?_setCell_other (h := he)]
      exact hc
theorem FreshP.open {n : Nat} {w : World} {b o c : Nat} {es : List Pd} (h : FreshP n w (some ⟨b, o, none⟩) c es) (hs : ∀ d ∈ es, d.p.name.length ≤ 100) : Open w b o es 0 := by
  obtain ⟨h1, _, _, h4, h5⟩ := h
  refine ⟨fun j d _ hd => ?_, fun j d hd => ?_, fun d hd k hk => ?_⟩
  · obtain ⟨b', o', e, _, x0, _⟩ := h1.at hd
    injection e with e
    injection e with e1 e2 _
    subst e1 e2
    exact ⟨⟨_, by rw [strOfNums_size]; exact hs d (List.mem_of_getElem? hd), x0⟩, h4 _ _ rfl j (List.getElem?_eq_some_iff.1 hd).1⟩
  · obtain ⟨b', o', e, _, _, x1, _⟩ := h1.at hd
    injection e with e
    injection e with e1 e2 _
    subst e1 e2
    exact x1
  · obtain ⟨j, hj⟩ := List.mem_iff_getElem?.1 hd
    obtain ⟨_, _, _, _, _, _, hir, _⟩ := h1.at hj
    obtain ⟨b2, o2, e2, _, hc⟩ := hir.at hk
    exact ⟨b2, o2, _, e2, hc, h5 d hd _ _ e2 k hk⟩
theorem Open.below {w w' : World} {b o i : Nat} {es : List Pd} (h : Open w b o es i) (hb : Below w.heap.size w w') : Open w' b o es i := by
  have key : ∀ (p : Addr) (u : Value), w.cell? p = some u → w'.cell? p = some u ∧ w'.frozen? p = w.frozen? p := by
    intro p u hp
    have hlt := World.block_lt_of_cell? w p hp
    refine ⟨(hb.cell hlt).trans hp, ?_⟩
    unfold World.frozen?
    rw [hb.block _ hlt]
  obtain ⟨h1, h2, h3⟩ := h
  refine ⟨fun j d' hj hd' => ?_, fun j d' hd' => (key _ _ (h2 j d' hd')).1, fun d' hd' k hk => ?_⟩
  · obtain ⟨⟨s', hs', hc'⟩, hf'⟩ := h1 j d' hj hd'
    obtain ⟨k1, k2⟩ := key _ _ hc'
    exact ⟨⟨s', hs', k1⟩, by rw [k2]; exact hf'⟩
  · obtain ⟨b3, o3, x, e, hc, hf⟩ := h3 d' hd' k hk
    obtain ⟨k1, k2⟩ := key _ _ hc
    exact ⟨b3, o3, x, e, k1, by rw [k2]; exact hf⟩
#print axioms Open.arg
#print axioms FreshP.open
end Go.Proofs.Ytnjhkjlekepjoaa
