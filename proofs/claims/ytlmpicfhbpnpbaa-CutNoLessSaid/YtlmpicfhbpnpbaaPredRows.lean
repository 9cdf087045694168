/-
  Slices of predicates of the call's own: what may be written into; append of numbers and of a predicate; their form, lower bases, stores into other blocks. No program here.
-/
import Derived.Test.YtlmpicfhbpnpbaaSigRefs
import Derived.Test.YtlmpicfhbpnpbaaCur
import Derived.Maps.AppendAt
namespace Go.Proofs.Ytlmpicfhbpnpbaa
open Go.RowKit

/-- A slice of predicates that lies in blocks from n on, and may be written into. -/
def FreshP (n : Nat) (w : World) (A : Option Addr) (c : Nat) (es : List Pd) : Prop :=
  PredRow w w.heap.size (.slice A es.length c) es ∧ (∀ a, A = some a → n ≤ a.block) ∧ (∀ d ∈ es, ∀ a, d.A = some a → n ≤ a.block) ∧
  (∀ b o, A = some ⟨b, o, none⟩ → ∀ i, i < es.length → w.frozen? ⟨b, o + i * 2, none⟩ = false) ∧ (∀ d ∈ es, ∀ b o, d.A = some ⟨b, o, none⟩ → ∀ k, k < d.p.args.length → w.frozen? ⟨b, o + k, none⟩ = false)
/-- All but the blocks from m to n is as it was. -/
structure Mid (m n : Nat) (w w' : World) : Prop where
  os : w'.os = w.os
  tape : w'.tape = w.tape
  output : w'.output = w.output
  size : w.heap.size ≤ w'.heap.size
  block : ∀ k, k < m ∨ n ≤ k ∧ k < w.heap.size → w'.heap[k]? = w.heap[k]?
theorem Mid.refl (m n : Nat) (w : World) : Mid m n w w := ⟨rfl, rfl, rfl, Nat.le_refl _, fun _ _ => rfl⟩
theorem Mid.put {m n : Nat} {w w' : World} (h : Mid m n w w') {p : Addr} (hp : m ≤ p.block ∧ p.block < n) (u : Value) : Mid m n w (w'.setCell p u) :=
  ⟨h.os, h.tape, h.output, Nat.le_trans h.size (by simp [World.setCell]), fun k hk => (Below.heap_setCell w' p u k (by omega)).trans (h.block k hk)⟩
theorem Mid.below {m n : Nat} {w w' : World} (h : Mid m n w w') : Below m w w' := ⟨h.os, h.tape, h.output, h.size, fun k hk => h.block k (.inl hk)⟩
/-- A slice of predicates in blocks from n on. -/
theorem FreshP.mid {m n : Nat} {w w' : World} {A : Option Addr} {c : Nat} {es : List Pd} (h : FreshP n w A c es) (hm : Mid m n w w') : PredRow w' w'.heap.size (.slice A es.length c) es := by
  obtain ⟨⟨A', c', hv, h1, h2, h3, h4, h5⟩, q1, q2, _, _⟩ := h
  injection hv with e1 e2 e3
  subst e1 e3
  have hcell : ∀ b o, n ≤ b → b < w.heap.size → w'.cell? ⟨b, o, none⟩ = w.cell? ⟨b, o, none⟩ := fun b o hb hlt => World.cell?_of_block (a := ⟨b, o, none⟩) (hm.block b (.inr ⟨hb, hlt⟩))
  refine ⟨A, c, rfl, h1, h2, h3, fun hn => ?_, fun d hd => ⟨?_, (h5 d hd).2⟩⟩
  · obtain ⟨b, o, e, hlt, hc⟩ := h4 hn
    have hb := q1 _ e
    exact ⟨b, o, e, Nat.lt_of_lt_of_le hlt hm.size, fun i d hd => ⟨(hcell b _ hb hlt).trans (hc i d hd).1, (hcell b _ hb hlt).trans (hc i d hd).2⟩⟩
  · obtain ⟨A2, c2, hv2, r1, r2, r3, r4⟩ := (h5 d hd).1
    refine ⟨A2, c2, hv2, r1, r2, r3, fun hn => ?_⟩
    obtain ⟨b, o, e, hlt, hc⟩ := r4 hn
    injection hv2 with e4 _ _
    have hb := q2 d hd _ (e4.trans e)
    exact ⟨b, o, e, Nat.lt_of_lt_of_le hlt hm.size, fun i u hi => (hcell b _ hb hlt).trans (hc i u hi)⟩

theorem FreshP.less {m n : Nat} {w : World} {A : Option Addr} {c : Nat} {es : List Pd} (h : FreshP n w A c es) (hm : m ≤ n) : FreshP m w A c es := by
  obtain ⟨h1, h2, h3, h4, h5⟩ := h
  exact ⟨h1, fun a e => Nat.le_trans hm (h2 a e), fun d hd a e => Nat.le_trans hm (h3 d hd a e), h4, h5⟩
/-- What may be written into: from the i-th on names are short; arguments' types are numbers. -/
def Open (w : World) (b o : Nat) (es : List Pd) (i : Nat) : Prop :=
  (∀ (j : Nat) (d : Pd), i ≤ j → es[j]? = some d → (∃ s : ByteArray, s.size ≤ 100 ∧ w.cell? ⟨b, o + j * 2, none⟩ = some (.string s)) ∧ w.frozen? ⟨b, o + j * 2, none⟩ = false) ∧
  (∀ (j : Nat) (d : Pd), es[j]? = some d → w.cell? ⟨b, o + j * 2 + 1, none⟩ = some (.slice d.A d.p.args.length d.c)) ∧
  ∀ d ∈ es, ∀ k, k < d.p.args.length → ∃ b2 o2 z, d.A = some ⟨b2, o2, none⟩ ∧ w.cell? ⟨b2, o2 + k, none⟩ = some (.int .i64 z) ∧ w.frozen? ⟨b2, o2 + k, none⟩ = false
theorem frozen_put (w : World) (p q : Addr) (u : Value) : (w.setCell p u).frozen? q = w.frozen? q := by
  unfold World.frozen? World.setCell
  by_cases h : q.block = p.block
  · cases hp : w.heap[p.block]? with
    | none => simp [Array.getElem?_modify, h, hp]
    | some o => cases o <;> simp [Array.getElem?_modify, h, hp]
  · simp [Array.getElem?_modify, Ne.symm h]
theorem cell_put_ne {w : World} {p q : Addr} {u v x : Value} (hp : w.cell? p = some v) (hq : w.cell? q = some x) (hne : v ≠ x) : (w.setCell p u).cell? q = some x := by
  rw [World.cell?_setCell_other (h := fun e => by subst e; rw [hp] at hq; exact hne (by injection hq)), hq]
theorem Open.name {w : World} {b o i : Nat} {es : List Pd} (h : Open w b o es i) {d : Pd} (hd : es[i]? = some d) (s : ByteArray) : Open (w.setCell ⟨b, o + i * 2, none⟩ (.string s)) b o es (i + 1) := by
  obtain ⟨h1, h2, h3⟩ := h
  obtain ⟨⟨s0, _, hs0⟩, _⟩ := h1 i d (Nat.le_refl _) hd
  refine ⟨fun j d' hj hd' => ?_, fun j d' hd' => ?_, fun d' hd' k hk => ?_⟩
  · obtain ⟨⟨s', hs', hc'⟩, hf'⟩ := h1 j d' (by omega) hd'
    refine ⟨⟨s', hs', ?_⟩, by rw [frozen_put]; exact hf'⟩
    rw [World.cell?_setCell_other (h := fun e => by injection e with _ e _; omega)]
    exact hc'
  · exact cell_put_ne hs0 (h2 j d' hd') (by simp)
  · obtain ⟨b2, o2, z, e, hc, hf⟩ := h3 d' hd' k hk
    exact ⟨b2, o2, z, e, cell_put_ne hs0 hc (by simp), by rw [frozen_put]; exact hf⟩
theorem Open.arg {w : World} {b o i : Nat} {es : List Pd} (h : Open w b o es i) {b2 o2 : Nat} {z : Int} (hz : w.cell? ⟨b2, o2, none⟩ = some (.int .i64 z)) (y : Int) : Open (w.setCell ⟨b2, o2, none⟩ (.int .i64 y)) b o es i := by
  obtain ⟨h1, h2, h3⟩ := h
  refine ⟨fun j d' hj hd' => ?_, fun j d' hd' => ?_, fun d' hd' k hk => ?_⟩
  · obtain ⟨⟨s', hs', hc'⟩, hf'⟩ := h1 j d' hj hd'
    exact ⟨⟨s', hs', cell_put_ne hz hc' (by simp)⟩, by rw [frozen_put]; exact hf'⟩
  · exact cell_put_ne hz (h2 j d' hd') (by simp)
  · obtain ⟨b3, o3, x, e, hc, hf⟩ := h3 d' hd' k hk
    by_cases he : (⟨b2, o2, none⟩ : Addr) = ⟨b3, o3 + k, none⟩
    · refine ⟨b3, o3, y, e, ?_, by rw [frozen_put]; exact hf⟩
      rw [← he, World.cell?_setCell_same' w ⟨b2, o2, none⟩ _ (by rw [hz]; rfl)]
    · refine ⟨b3, o3, x, e, ?_, by rw [frozen_put]; exact hf⟩
      rw [World.cell?_setCell_other (h := he)]
      exact hc
theorem FreshP.open {n : Nat} {w : World} {b o c : Nat} {es : List Pd} (h : FreshP n w (some ⟨b, o, none⟩) c es) (hs : ∀ d ∈ es, d.p.name.length ≤ 100) : Open w b o es 0 := by
  obtain ⟨h1, _, _, h4, h5⟩ := h
  refine ⟨fun j d _ hd => ?_, fun j d hd => ?_, fun d hd k hk => ?_⟩
  · obtain ⟨b', o', e, _, x0, _⟩ := h1.at hd
    injection e with e
    injection e with e1 e2 _
    subst e1 e2
    exact ⟨⟨_, by rw [strOfNums_size]; exact hs d (List.mem_of_getElem? hd), x0⟩, h4 _ _ rfl j (List.getElem?_eq_some_iff.1 hd).1⟩
  · obtain ⟨b', o', e, _, _, x1, _⟩ := h1.at hd
    injection e with e
    injection e with e1 e2 _
    subst e1 e2
    exact x1
  · obtain ⟨j, hj⟩ := List.mem_iff_getElem?.1 hd
    obtain ⟨_, _, _, _, _, _, hir, _⟩ := h1.at hj
    obtain ⟨b2, o2, e2, _, hc⟩ := hir.at hk
    exact ⟨b2, o2, _, e2, hc, h5 d hd _ _ e2 k hk⟩
theorem Open.below {w w' : World} {b o i : Nat} {es : List Pd} (h : Open w b o es i) (hb : Below w.heap.size w w') : Open w' b o es i := by
  have key : ∀ (p : Addr) (u : Value), w.cell? p = some u → w'.cell? p = some u ∧ w'.frozen? p = w.frozen? p := by
    intro p u hp
    have hlt := World.block_lt_of_cell? w p hp
    refine ⟨(hb.cell hlt).trans hp, ?_⟩
    unfold World.frozen?
    rw [hb.block _ hlt]
  obtain ⟨h1, h2, h3⟩ := h
  refine ⟨fun j d' hj hd' => ?_, fun j d' hd' => (key _ _ (h2 j d' hd')).1, fun d' hd' k hk => ?_⟩
  · obtain ⟨⟨s', hs', hc'⟩, hf'⟩ := h1 j d' hj hd'
    obtain ⟨k1, k2⟩ := key _ _ hc'
    exact ⟨⟨s', hs', k1⟩, by rw [k2]; exact hf'⟩
  · obtain ⟨b3, o3, x, e, hc, hf⟩ := h3 d' hd' k hk
    obtain ⟨k1, k2⟩ := key _ _ hc
    exact ⟨b3, o3, x, e, k1, by rw [k2]; exact hf⟩
#print axioms Open.arg
#print axioms FreshP.open
end Go.Proofs.Ytlmpicfhbpnpbaa

namespace Go.Proofs.Ytlmpicfhbpnpbaa
open Go.RowKit

theorem Try.infoIntB : (Try.prog.info? 3).map (fun i => (i.zero, i.size, i.bytes)) = some (some (.int .i64 0), 1, 8) := by kernel_rfl
theorem Try.infoPred : (Try.prog.info? 59).map (fun i => (i.zero, i.size, i.bytes)) = some (some (.agg #[.string ⟨#[]⟩, .slice none 0 0]), 2, 40) := by kernel_rfl

/-- The cells of predicates, one behind the other. -/
def flatD : List Pd → List Value
  | [] => []
  | d :: l => .string (strOfNums d.p.name) :: .slice d.A d.p.args.length d.c :: flatD l
theorem flatD_length : ∀ l : List Pd, (flatD l).length = l.length * 2
  | [] => rfl
  | d :: l => by
    rw [flatD, List.length_cons, List.length_cons, flatD_length l, List.length_cons]
    omega
theorem flatD_append : ∀ l m : List Pd, flatD (l ++ m) = flatD l ++ flatD m
  | [], _ => rfl
  | d :: l, m => by rw [List.cons_append, flatD, flatD, flatD_append l m, List.cons_append, List.cons_append]
theorem flatD_at : ∀ (l : List Pd) (i : Nat) (d : Pd), l[i]? = some d → (flatD l)[i * 2]? = some (.string (strOfNums d.p.name)) ∧ (flatD l)[i * 2 + 1]? = some (.slice d.A d.p.args.length d.c)
  | [], i, d, h => by simp at h
  | e :: l, 0, d, h => by
    simp only [List.getElem?_cons_zero, Option.some.injEq] at h
    subst h
    exact ⟨rfl, rfl⟩
  | e :: l, i + 1, d, h => by
    rw [List.getElem?_cons_succ] at h
    rw [flatD, show (i + 1) * 2 = i * 2 + 1 + 1 by omega, List.getElem?_cons_succ, List.getElem?_cons_succ, List.getElem?_cons_succ, List.getElem?_cons_succ]
    exact flatD_at l i d h

/-- The arguments of a predicate of the call's own. -/
def OwnA (w : World) (n : Nat) (d : Pd) : Prop := w.ownsRow n 3 1 (.slice d.A d.p.args.length d.c) d.p.args.length (d.p.args.map (.int .i64))
/-- A slice of predicates of the call's own. -/
def OwnP (w : World) (n : Nat) (v : Value) (es : List Pd) : Prop := w.ownsRow n 59 2 v es.length (flatD es) ∧ ∀ d ∈ es, OwnA w n d ∧ d.Fits
section
variable {w w' : World} {n : Nat} {v : Value} {es : List Pd}
theorem OwnP.nil (w : World) (n : Nat) : OwnP w n (.slice none 0 0) [] := ⟨World.ownsRow_nil _ _ _ _, by simp⟩
theorem OwnA.below {d : Pd} (h : OwnA w n d) (hb : Below w.heap.size w w') : OwnA w' n d := own_below h hb
theorem OwnP.below (h : OwnP w n v es) (hb : Below w.heap.size w w') : OwnP w' n v es := ⟨own_below h.1 hb, fun d hd => ⟨(h.2 d hd).1.below hb, (h.2 d hd).2⟩⟩
theorem OwnP.form (h : OwnP w n v es) : ∃ A c, v = .slice A es.length c ∧ es.length ≤ c ∧ c ≤ 9223372036854775807 := by
  rcases h.1.2 with ⟨rfl, h0⟩ | ⟨g, cap, cur, rfl, _, _, h1, h2, _⟩
  · exact ⟨none, 0, by rw [h0], by omega, by omega⟩
  · unfold maxLen at h2
    exact ⟨_, cap, rfl, h1, by omega⟩
/-- A predicate's arguments lie in another block than a row of predicates. -/
theorem own_parts {n m k : Nat} {u : Value} {us vs : List Value} {j : Nat} (h : w.ownsRow n 3 1 u k us) (h2 : w.ownsRow m 59 2 v j vs) : u.ownBlock = none ∨ u.ownBlock ≠ v.ownBlock := by
  rcases h.2 with ⟨rfl, _⟩ | ⟨g, cap, cur, rfl, _, hg, _⟩
  · exact .inl rfl
  · refine .inr fun e => ?_
    rcases h2.2 with ⟨rfl, _⟩ | ⟨g2, cap2, cur2, rfl, _, hg2, _⟩
    · simp [Value.ownBlock] at e
    · obtain rfl : g = g2 := by simpa [Value.ownBlock] using e
      rw [hg] at hg2
      injection hg2 with hg2
      injection hg2 with _ e3 _
      exact absurd e3 (by decide)
theorem OwnA.grown {d : Pd} {m j : Nat} {vs : List Value} (h : OwnA w n d) (h2 : w.ownsRow m 59 2 v j vs) (hg : w.grownBy w' v.ownBlock) : OwnA w' n d := World.ownsRow.kept h hg (own_parts h h2)
/-- What it is, read. -/
theorem OwnP.fresh {A : Option Addr} {c : Nat} (h : OwnP w n (.slice A es.length c) es) : FreshP n w A c es := by
  obtain ⟨h1, h2⟩ := h
  have hargs : ∀ d ∈ es, IRow w w.heap.size (.slice d.A d.p.args.length d.c) d.p.args ∧ d.Fits := fun d hd => ⟨VRow.of_own (h2 d hd).1, (h2 d hd).2⟩
  have hb2 : ∀ d ∈ es, ∀ a, d.A = some a → n ≤ a.block := fun d hd a e => (World.ownsRow.lt (h2 d hd).1 a.block (by rw [e]; rfl)).1
  have hfz : ∀ d ∈ es, ∀ b o, d.A = some ⟨b, o, none⟩ → ∀ k, k < d.p.args.length → w.frozen? ⟨b, o + k, none⟩ = false := by
    intro d hd b o e k _
    have h3 := (h2 d hd).1
    unfold OwnA at h3
    rw [e] at h3
    rcases h3.2 with ⟨e4, _⟩ | ⟨g, cap, cur, e4, _⟩
    · simp at e4
    · injection e4 with e5 _ e6
      injection e5 with e5
      injection e5 with e7 e8 _
      subst e7 e8 e6
      exact World.ownsRow.frozenAt h3 _
  rcases h1.2 with ⟨e, h0⟩ | ⟨g, cap, cur, e, hng, hg, q1, q2, q3, q4⟩
  · injection e with e1 e2 e3
    subst e1 e3
    have h0' : es = [] := List.eq_nil_of_length_eq_zero h0
    subst h0'
    exact ⟨PredRow.nil _ _, (fun a e => by cases e), hb2, (fun b o e => by cases e), hfz⟩
  · injection e with e1 _ e3
    subst e1 e3
    refine ⟨⟨_, _, rfl, q1, q2, by simp, fun _ => ⟨g, 0, rfl, (Array.getElem?_eq_some_iff.1 hg).1, fun i d hd => ?_⟩, hargs⟩, (fun a e => by injection e with e; subst e; exact hng), hb2, fun b o e i _ => ?_, hfz⟩
    · obtain ⟨f1, f2⟩ := flatD_at es i d hd
      have hl := (List.getElem?_eq_some_iff.1 hd).1
      rw [Nat.zero_add, World.ownsRow.cellAt h1 _ (by omega), World.ownsRow.cellAt h1 _ (by omega)]
      exact ⟨f1, f2⟩
    · injection e with e
      injection e with e1 e2 _
      subst e1 e2
      exact World.ownsRow.frozenAt h1 _
end

/-- append of numbers behind nil. -/
theorem run_append_ints {P : Program} (w : World) (base : Nat) (t ty : TypeId) (i : TypeInfo) (z : Value) (ht : P.underlying t = some (.slice 3)) (hi : P.info? 3 = some i) (hz : i.zero = some z)
    (hsize : i.size = 1) (hby : i.bytes = 8) (hzs : z.cells.size = 1) (B : Nat) (sv : Value) (xs : List Int) (hr : IRow w B sv xs) (hlen : xs.length ≤ 1000000000) (hbase : base ≤ w.heap.size) :
    ∃ A c w', (Builtin.append_ #[t, t] ty #[.slice none 0 0, sv]).run P w = .ok (.slice A xs.length c) w' ∧ w'.ownsRow base 3 1 (.slice A xs.length c) xs.length (xs.map (.int .i64)) ∧ Below w.heap.size w w' := by
  obtain ⟨A, c, rfl, h1, h2, h3, h4⟩ := hr
  rw [List.length_map] at h1 h4 ⊢
  rcases A with _ | ad
  · have hx : xs = [] := by
      rcases Nat.eq_zero_or_pos xs.length with h0 | h0
      · exact List.eq_nil_of_length_eq_zero h0
      · obtain ⟨b, o, he, _⟩ := h4 h0
        cases he
    subst hx
    obtain rfl := h3 rfl
    exact ⟨none, 0, w, run_append_owned_none w base t ty _ i 1 ht hi _ 0 [] (World.ownsRow_nil _ _ _ _), World.ownsRow_nil _ _ _ _, Below.refl _ _⟩
  · obtain ⟨v', w', q1, q2, q3, _, _⟩ := run_append_own_at (P := P) w base t ty _ i z 1 8 ht hi hz hsize hby hzs (by omega) (.slice none 0 0) 0 [] (World.ownsRow_nil _ _ _ _) ad xs.length c (xs.map (.int .i64)) (by simp) (fun j u hu => by
      have hj : j < xs.length := by
        have := (List.getElem?_eq_some_iff.1 hu).1
        simpa using this
      obtain ⟨b, o, he, _, hc⟩ := h4 (by omega)
      obtain rfl : ad = ⟨b, o, none⟩ := by injection he
      rw [← hc j u hu, Go.WideShapes.add_plain]) (fun u hu => by
      obtain ⟨x, _, rfl⟩ := List.mem_map.1 hu
      simp [Value.oneCell']) (by simp only [maxLen]; omega) (by omega) hbase
    rw [Nat.zero_add, List.nil_append] at q2
    have hform : ∃ A c, v' = .slice A xs.length c := by
      rcases q2.2 with ⟨e, h0⟩ | ⟨g, cap, cur, e, _⟩
      · exact ⟨none, 0, by rw [e, h0]⟩
      · exact ⟨_, _, e⟩
    obtain ⟨A', c', rfl⟩ := hform
    exact ⟨A', c', w', q1, q2, q3.os, q3.tape, q3.output, q3.size, fun k hk => q3.block k hk (by simp [Value.ownBlock])⟩
/-- append of a predicate behind a slice of the call's own. -/
theorem run_append_pred {P : Program} (w : World) (t ty : TypeId) (i : TypeInfo) (z : Value) (ht : P.underlying t = some (.slice 59)) (hi : P.info? 59 = some i) (hz : i.zero = some z)
    (hsize : i.size = 2) (hby : i.bytes = 40) (hzs : z.cells.size = 2) (n : Nat) (v : Value) (es : List Pd) (hs : OwnP w n v es) (ad : Addr) (c : Nat) (d : Pd)
    (hc0 : w.cell? (ad.add 0) = some (.string (strOfNums d.p.name))) (hc1 : w.cell? (ad.add 1) = some (.slice d.A d.p.args.length d.c)) (hd : OwnA w n d) (hf : d.Fits) (hlen : es.length + 1 ≤ 1000000001) (hbase : n ≤ w.heap.size) :
    ∃ v' w', (Builtin.append_ #[t, t] ty #[v, .slice (some ad) 1 c]).run P w = .ok v' w' ∧ OwnP w' n v' (es ++ [d]) ∧ w.grownBy w' v.ownBlock := by
  obtain ⟨v', w', q1, q2, q3, _, _⟩ := run_append_own_at (P := P) w n t ty _ i z 2 40 ht hi hz hsize hby hzs (by omega) v es.length (flatD es) hs.1 ad 1 c (flatD [d]) (by rw [flatD_length]; rfl) (fun j u hu => by
    match j with
    | 0 => rw [hc0]; simpa [flatD] using hu
    | 1 => rw [hc1]; simpa [flatD] using hu
    | j + 2 => simp [flatD] at hu) (fun u hu => by
    simp only [flatD, List.mem_cons, List.not_mem_nil, or_false] at hu
    rcases hu with rfl | rfl <;> rfl) (by simp only [maxLen]; omega) (by omega) hbase
  refine ⟨v', w', q1, ⟨by rw [flatD_append, List.length_append]; exact q2, fun e he => ?_⟩, q3⟩
  rcases List.mem_append.1 he with h | h
  · exact ⟨(hs.2 e h).1.grown hs.1 q3, (hs.2 e h).2⟩
  · obtain rfl : e = d := by simpa using h
    exact ⟨hd.grown hs.1 q3, hf⟩
section
variable {P : Program} {w : World} {ops : Array Oper} {o : Oper} {a : Act} {Q : Exit → Act → World → Prop} {K : Act → World → Prop} {E : Prop}
/-- The same as steps of a region that draws its order. -/
theorem step_append_ints (hgd : o.guard = none) (s x : Operand) (t : TypeId) (ho : o.op = .call { callee := .builtin .append, args := #[s, x], argTypes := #[t, t] })
    (base : Nat) (i : TypeInfo) (z : Value) (ht : P.underlying t = some (.slice 3)) (hi : P.info? 3 = some i) (hz : i.zero = some z) (hsize : i.size = 1) (hby : i.bytes = 8) (hzs : z.cells.size = 1)
    (hs : a.eval s = .slice none 0 0) (B : Nat) (sv : Value) (xs : List Int) (hx : a.eval x = sv) (hr : IRow w B sv xs) (hlen : xs.length ≤ 1000000000) (hbase : base ≤ w.heap.size) (N : Nat) (hN : xs.length = N)
    (h : ∀ A c w', w'.ownsRow base 3 1 (.slice A N c) N (xs.map (.int .i64)) → Below w.heap.size w w' → K (a.put o.dst (.slice A N c)) w') : if Region.wanted o (yielded ops a.tmps) = true then Oper.wp P o a w K Q else E := by
  have hw : Region.wanted o (yielded ops a.tmps) = true := by simp [Region.wanted, hgd]
  subst hN
  obtain ⟨A, c, w', hr, h2, h3⟩ := run_append_ints (P := P) w base t o.type i z ht hi hz hsize hby hzs B sv xs hr hlen hbase
  rw [if_pos hw]
  unfold Oper.wp execOp
  simp only [ho, resolve, invoke, builtin, Sem.run_bind, Sem.run_pure, Result.andThen_ok, List.map_toArray, List.map_cons, List.map_nil, hs, hx, hr]
  exact h A c w' h2 h3
theorem step_append_pred (hgd : o.guard = none) (s x : Operand) (t : TypeId) (ho : o.op = .call { callee := .builtin .append, args := #[s, x], argTypes := #[t, t] })
    (i : TypeInfo) (z : Value) (ht : P.underlying t = some (.slice 59)) (hi : P.info? 59 = some i) (hz : i.zero = some z) (hsize : i.size = 2) (hby : i.bytes = 40) (hzs : z.cells.size = 2)
    (n : Nat) (v : Value) (es : List Pd) (hs : a.eval s = v) (hown : OwnP w n v es) (ad : Addr) (c : Nat) (d : Pd) (hx : a.eval x = .slice (some ad) 1 c)
    (hc0 : w.cell? (ad.add 0) = some (.string (strOfNums d.p.name))) (hc1 : w.cell? (ad.add 1) = some (.slice d.A d.p.args.length d.c)) (hd : OwnA w n d) (hf : d.Fits) (hlen : es.length + 1 ≤ 1000000001) (hbase : n ≤ w.heap.size)
    (h : ∀ v' w', OwnP w' n v' (es ++ [d]) → w.grownBy w' v.ownBlock → K (a.put o.dst v') w') : if Region.wanted o (yielded ops a.tmps) = true then Oper.wp P o a w K Q else E := by
  have hw : Region.wanted o (yielded ops a.tmps) = true := by simp [Region.wanted, hgd]
  obtain ⟨v', w', hr, h2, h3⟩ := run_append_pred (P := P) w t o.type i z ht hi hz hsize hby hzs n v es hown ad c d hc0 hc1 hd hf hlen hbase
  rw [if_pos hw]
  unfold Oper.wp execOp
  simp only [ho, resolve, invoke, builtin, Sem.run_bind, Sem.run_pure, Result.andThen_ok, List.map_toArray, List.map_cons, List.map_nil, hs, hx, hr]
  exact h v' w' h2 h3
end
#print axioms OwnP.fresh
#print axioms step_append_ints
#print axioms step_append_pred
end Go.Proofs.Ytlmpicfhbpnpbaa

namespace Go.Proofs.Ytlmpicfhbpnpbaa
open Go.RowKit

theorem own_form {w : World} {n k : Nat} {e : TypeId} {size : Nat} {v : Value} {us : List Value} (h : w.ownsRow n e size v k us) : ∃ A c, v = .slice A k c := by
  rcases h.2 with ⟨rfl, rfl⟩ | ⟨g, cap, cur, rfl, _⟩
  · exact ⟨none, 0, rfl⟩
  · exact ⟨_, _, rfl⟩
theorem own_base {w : World} {n m k : Nat} {e : TypeId} {size : Nat} {v : Value} {us : List Value} (h : w.ownsRow n e size v k us) (hm : m ≤ n) : w.ownsRow m e size v k us := by
  refine ⟨h.1, ?_⟩
  rcases h.2 with h2 | ⟨g, cap, cur, q1, q2, q3⟩
  · exact .inl h2
  · exact .inr ⟨g, cap, cur, q1, Nat.le_trans hm q2, q3⟩
theorem own_low {w : World} {n m k : Nat} {e : TypeId} {size : Nat} {v : Value} {us : List Value} (h : w.ownsRow n e size v k us) (hm : m < n) : v.ownBlock ≠ some m := fun e => by
  have := (World.ownsRow.lt h m e).1
  omega
theorem own_put2 {w : World} {n m k i j : Nat} {e : TypeId} {size : Nat} {v u u' : Value} {us : List Value} (h : w.ownsRow n e size v k us) (hm : v.ownBlock ≠ some m) : ((w.setCell ⟨m, i, none⟩ u).setCell ⟨m, j, none⟩ u').ownsRow n e size v k us :=
  World.ownsRow.kept h (grown_trans (grown_put w m i u) (grown_put _ m j u')) (.inr hm)
theorem own_put1 {w : World} {n m k i : Nat} {e : TypeId} {size : Nat} {v u : Value} {us : List Value} (h : w.ownsRow n e size v k us) (hm : m < n) : (w.setCell ⟨m, i, none⟩ u).ownsRow n e size v k us :=
  World.ownsRow.kept h (grown_put w m i u) (.inr (own_low h hm))
theorem below_put {w : World} {B m i : Nat} (u : Value) (hm : B ≤ m) : Below B w (w.setCell ⟨m, i, none⟩ u) := (Below.refl _ _).setCell (p := ⟨m, i, none⟩) hm u

section
variable {P : Program} {w : World} {ops : Array Oper} {rest : List Oper} {o : Oper} {a : Act} {Q : Exit → Act → World → Prop}
/-- append of a predicate behind a slice of the call's own. -/
theorem wpList_append_pred (hgd : o.guard = none) (s x : Operand) (t : TypeId) (ho : o.op = .call { callee := .builtin .append, args := #[s, x], argTypes := #[t, t] })
    (i : TypeInfo) (z : Value) (ht : P.underlying t = some (.slice 59)) (hi : P.info? 59 = some i) (hz : i.zero = some z) (hsize : i.size = 2) (hby : i.bytes = 40) (hzs : z.cells.size = 2)
    (n : Nat) (v : Value) (es : List Pd) (hs : a.eval s = v) (hown : OwnP w n v es) (ad : Addr) (c : Nat) (d : Pd) (hx : a.eval x = .slice (some ad) 1 c)
    (hc0 : w.cell? (ad.add 0) = some (.string (strOfNums d.p.name))) (hc1 : w.cell? (ad.add 1) = some (.slice d.A d.p.args.length d.c)) (hd : OwnA w n d) (hf : d.Fits) (hlen : es.length + 1 ≤ 1000000001) (hbase : n ≤ w.heap.size)
    (h : ∀ v' w', OwnP w' n v' (es ++ [d]) → w.grownBy w' v.ownBlock → wpList P ops Q rest (a.put o.dst v') w') : wpList P ops Q (o :: rest) a w := by
  refine wpList_plain hgd fun K hK => ?_
  obtain ⟨v', w', hr, h2, h3⟩ := run_append_pred (P := P) w t o.type i z ht hi hz hsize hby hzs n v es hown ad c d hc0 hc1 hd hf hlen hbase
  unfold Oper.wp execOp
  simp only [ho, resolve, invoke, builtin, Sem.run_bind, Sem.run_pure, Result.andThen_ok, List.map_toArray, List.map_cons, List.map_nil, hs, hx, hr]
  exact hK _ _ (h v' w' h2 h3)
end
theorem OwnA.base {w : World} {n m : Nat} {d : Pd} (h : OwnA w n d) (hm : m ≤ n) : OwnA w m d := own_base h hm
theorem OwnP.base {w : World} {n m : Nat} {v : Value} {es : List Pd} (h : OwnP w n v es) (hm : m ≤ n) : OwnP w m v es := ⟨own_base h.1 hm, fun d hd => ⟨(h.2 d hd).1.base hm, (h.2 d hd).2⟩⟩
/-- What a store into a block ahead of its base leaves. -/
theorem OwnP.put {w : World} {n m i : Nat} {v u : Value} {es : List Pd} (h : OwnP w n v es) (hm : m < n) : OwnP (w.setCell ⟨m, i, none⟩ u) n v es :=
  ⟨World.ownsRow.kept h.1 (grown_put w m i u) (.inr (own_low h.1 hm)), fun d hd => ⟨World.ownsRow.kept (h.2 d hd).1 (grown_put w m i u) (.inr (own_low (h.2 d hd).1 hm)), (h.2 d hd).2⟩⟩
/-- A slice of one predicate. -/
theorem row_one {w : World} {g : Nat} {d : Pd} (h : Held w g 59 #[.string (strOfNums d.p.name), .slice d.A d.p.args.length d.c]) (hr : IRow w w.heap.size (.slice d.A d.p.args.length d.c) d.p.args) (hf : d.Fits) :
    PredRow w w.heap.size (.slice (some ⟨g, 0, none⟩) [d].length 1) [d] := by
  refine ⟨_, _, rfl, Nat.le_refl _, by unfold maxLen; omega, by simp, fun _ => ⟨g, 0, rfl, h.lt, fun i e he => ?_⟩, fun e he => ?_⟩
  · match i with
    | 0 =>
      simp only [List.getElem?_cons_zero, Option.some.injEq] at he
      subst he
      exact ⟨h.cell 0, h.cell 1⟩
    | i + 1 => simp at he
  · obtain rfl : e = d := by simpa using he
    exact ⟨hr, hf⟩
#print axioms OwnP.put
end Go.Proofs.Ytlmpicfhbpnpbaa
