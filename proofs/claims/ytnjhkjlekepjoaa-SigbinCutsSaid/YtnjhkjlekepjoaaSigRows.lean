/-
  Slices of predicates of the call's own: append of numbers behind nil, of a predicate behind such a slice. No program here.
-/
import Derived.Test.YtnjhkjlekepjoaaSigFresh
import Derived.Maps.AppendAt
namespace Go.Proofs.Ytnjhkjlekepjoaa
open Go.RowKit

theorem Try.infoIntB : (Try.prog.info? 3).map (fun i => (i.zero, i.size, i.bytes)) = some (some (.int .i64 0), 1, 8) := by kernel_rfl
theorem Try.infoPred : (Try.prog.info? 45).map (fun i => (i.zero, i.size, i.bytes)) = some (some (.agg #[.string ⟨#[]⟩, .slice none 0 0]), 2, 40) := by kernel_rfl

/-- The cells of predicates, one behind the other. -/
def flatD : List Pd → List Value
  | [] => []
  | d :: l => .string (strOfNums d.p.name) :: .slice d.A d.p.args.length d.c :: flatD l
theorem flatD_length : ∀ l : List Pd, (flatD l).length = l.length * 2
  | [] => rfl
  | d :: l => by
    rw [flatD, List.length_cons, List.length_cons, flatD_length l, List.length_cons]
    omega
theorem flatD_append : ∀ l m : List Pd, flatD (l ++ m) = flatD l ++ flatD m
  | [], _ => rfl
  | d :: l, m => by rw [List.cons_append, flatD, flatD, flatD_append l m, List.cons_append, List.cons_append]
theorem flatD_at : ∀ (l : List Pd) (i : Nat) (d : Pd), l[i]? = some d → (flatD l)[i * 2]? = some (.string (strOfNums d.p.name)) ∧ (flatD l)[i * 2 + 1]? = some (.slice d.A d.p.args.length d.c)
  | [], i, d, h => by simp at h
  | e :: l, 0, d, h => by
    simp only [List.getElem?_cons_zero, Option.some.injEq] at h
    subst h
    exact ⟨rfl, rfl⟩
  | e :: l, i + 1, d, h => by
    rw [List.getElem?_cons_succ] at h
    rw [flatD, show (i + 1) * 2 = i * 2 + 1 + 1 by omega, List.getElem?_cons_succ, List.getElem?_cons_succ, List.getElem?_cons_succ, List.getElem?_cons_succ]
    exact flatD_at l i d h

/-- The arguments of a predicate of the call's own. -/
def OwnA (w : World) (n : Nat) (d : Pd) : Prop := w.ownsRow n 3 1 (.slice d.A d.p.args.length d.c) d.p.args.length (d.p.args.map (.int .i64))
/-- A slice of predicates of the call's own. -/
def OwnP (w : World) (n : Nat) (v : Value) (es : List Pd) : Prop := w.ownsRow n 45 2 v es.length (flatD es) ∧ ∀ d ∈ es, OwnA w n d ∧ d.Fits
section
variable {w w' : World} {n : Nat} {v : Value} {es : List Pd}
theorem OwnP.nil (w : World) (n : Nat) : OwnP w n (.slice none 0 0) [] := ⟨World.ownsRow_nil _ _ _ _, by simp⟩
theorem OwnA.below {d : Pd} (h : OwnA w n d) (hb : Below w.heap.size w w') : OwnA w' n d := own_below h hb
theorem OwnP.below (h : OwnP w n v es) (hb : Below w.heap.size w w') : OwnP w' n v es := ⟨own_below h.1 hb, fun d hd => ⟨(h.2 d hd).1.below hb, (h.2 d hd).2⟩⟩
theorem OwnP.form (h : OwnP w n v es) : ∃ A c, v = .slice A es.length c ∧ es.length ≤ c ∧ c ≤ 9223372036854775807 := by
  rcases h.1.2 with ⟨rfl, h0⟩ | ⟨g, cap, cur, rfl, _, _, h1, h2, _⟩
  · exact ⟨none, 0, by rw [h0], by omega, by omega⟩
  · unfold maxLen at h2
    exact ⟨_, cap, rfl, h1, by omega⟩
/-- A predicate's arguments lie in another block than a row of predicates. -/
theorem own_parts {n m k : Nat} {u : Value} {us vs : List Value} {j : Nat} (h : w.ownsRow n 3 1 u k us) (h2 : w.ownsRow m 45 2 v j vs) : u.ownBlock = none ∨ u.ownBlock ≠ v.ownBlock := by
  rcases h.2 with ⟨rfl, _⟩ | ⟨g, cap, cur, rfl, _, hg, _⟩
  · exact .inl rfl
  · refine .inr fun e => ?_
    rcases h2.2 with ⟨rfl, _⟩ | ⟨g2, cap2, cur2, rfl, _, hg2, _⟩
    · simp [Value.ownBlock] at e
    · obtain rfl : g = g2 := by simpa [Value.ownBlock] using e
      rw [hg] at hg2
      injection hg2 with hg2
      injection hg2 with _ e3 _
      exact absurd e3 (by decide)
theorem OwnA.grown {d : Pd} {m j : Nat} {vs : List Value} (h : OwnA w n d) (h2 : w.ownsRow m 45 2 v j vs) (hg : w.grownBy w' v.ownBlock) : OwnA w' n d := World.ownsRow.kept h hg (own_parts h h2)
/-- What it is, read. -/
theorem OwnP.fresh {A : Option Addr} {c : Nat} (h : OwnP w n (.slice A es.length c) es) : FreshP n w A c es := by
  obtain ⟨h1, h2⟩ := h
  have hargs : ∀ d ∈ es, IRow w w.heap.size (.slice d.A d.p.args.length d.c) d.p.args ∧ d.Fits := fun d hd => ⟨VRow.of_own (h2 d hd).1, (h2 d hd).2⟩
  have hb2 : ∀ d ∈ es, ∀ a, d.A = some a → n ≤ a.block := fun d hd a e => (World.ownsRow.lt (h2 d hd).1 a.block (by rw [e]; rfl)).1
  have hfz : ∀ d ∈ es, ∀ b o, d.A = some ⟨b, o, none⟩ → ∀ k, k < d.p.args.length → w.frozen? ⟨b, o + k, none⟩ = false := by
    intro d hd b o e k _
    have h3 := (h2 d hd).1
    unfold OwnA at h3
    rw [e] at h3
    rcases h3.2 with ⟨e4, _⟩ | ⟨g, cap, cur, e4, _⟩
    · simp at e4
    · injection e4 with e5 _ e6
      injection e5 with e5
      injection e5 with e7 e8 _
      subst e7 e8 e6
      exact World.ownsRow.frozenAt h3 _
  rcases h1.2 with ⟨e, h0⟩ | ⟨g, cap, cur, e, hng, hg, q1, q2, q3, q4⟩
  · injection e with e1 e2 e3
    subst e1 e3
    have h0' : es = [] := List.eq_nil_of_length_eq_zero h0
    subst h0'
    exact ⟨PredRow.nil _ _, (fun a e => by cases e), hb2, (fun b o e => by cases e), hfz⟩
  · injection e with e1 _ e3
    subst e1 e3
    refine ⟨⟨_, _, rfl, q1, q2, by simp, fun _ => ⟨g, 0, rfl, (Array.getElem?_eq_some_iff.1 hg).1, fun i d hd => ?_⟩, hargs⟩, (fun a e => by injection e with e; subst e; exact hng), hb2, fun b o e i _ => ?_, hfz⟩
    · obtain ⟨f1, f2⟩ := flatD_at es i d hd
      have hl := (List.getElem?_eq_some_iff.1 hd).1
      rw [Nat.zero_add, World.ownsRow.cellAt h1 _ (by omega), World.ownsRow.cellAt h1 _ (by omega)]
      exact ⟨f1, f2⟩
    · injection e with e
      injection e with e1 e2 _
      subst e1 e2
      exact World.ownsRow.frozenAt h1 _
end

/-- append of numbers behind nil. -/
theorem run_append_ints {P : Program} (w : World) (base : Nat) (t ty : TypeId) (i : TypeInfo) (z : Value) (ht : P.underlying t = some (.slice 3)) (hi : P.info? 3 = some i) (hz : i.zero = some z)
    (hsize : i.size = 1) (hby : i.bytes = 8) (hzs : z.cells.size = 1) (B : Nat) (sv : Value) (xs : List Int) (hr : IRow w B sv xs) (hlen : xs.length ≤ 1000000000) (hbase : base ≤ w.heap.size) :
    ∃ A c w', (Builtin.append_ #[t, t] ty #[.slice none 0 0, sv]).run P w = .ok (.slice A xs.length c) w' ∧ w'.ownsRow base 3 1 (.slice A xs.length c) xs.length (xs.map (.int .i64)) ∧ Below w.heap.size w w' := by
  obtain ⟨A, c, rfl, h1, h2, h3, h4⟩ := hr
  rw [List.length_map] at h1 h4 ⊢
  rcases A with _ | ad
  · have hx : xs = [] := by
      rcases Nat.eq_zero_or_pos xs.length with h0 | h0
      · exact List.eq_nil_of_length_eq_zero h0
      · obtain ⟨b, o, he, _⟩ := h4 h0
        cases he
    subst hx
    obtain rfl := h3 rfl
    exact ⟨none, 0, w, run_append_owned_none w base t ty _ i 1 ht hi _ 0 [] (World.ownsRow_nil _ _ _ _), World.ownsRow_nil _ _ _ _, Below.refl _ _⟩
  · obtain ⟨v', w', q1, q2, q3, _, _⟩ := run_append_own_at (P := P) w base t ty _ i z 1 8 ht hi hz hsize hby hzs (by omega) (.slice none 0 0) 0 [] (World.ownsRow_nil _ _ _ _) ad xs.length c (xs.map (.int .i64)) (by simp) (fun j u hu => by
      have hj : j < xs.length := by
        have := (List.getElem?_eq_some_iff.1 hu).1
        simpa using this
      obtain ⟨b, o, he, _, hc⟩ := h4 (by omega)
      obtain rfl : ad = ⟨b, o, none⟩ := by injection he
      rw [← hc j u hu, Go.WideShapes.add_plain]) (fun u hu => by
      obtain ⟨x, _, rfl⟩ := List.mem_map.1 hu
      simp [Value.oneCell']) (by simp only [maxLen]; omega) (by omega) hbase
    rw [Nat.zero_add, List.nil_append] at q2
    have hform : ∃ A c, v' = .slice A xs.length c := by
      rcases q2.2 with ⟨e, h0⟩ | ⟨g, cap, cur, e, _⟩
      · exact ⟨none, 0, by rw [e, h0]⟩
      · exact ⟨_, _, e⟩
    obtain ⟨A', c', rfl⟩ := hform
    exact ⟨A', c', w', q1, q2, q3.os, q3.tape, q3.output, q3.size, fun k hk => q3.block k hk (by simp [Value.ownBlock])⟩
/-- append of a predicate behind a slice of the call's own. -/
theorem run_append_pred {P : Program} (w : World) (t ty : TypeId) (i : TypeInfo) (z : Value) (ht : P.underlying t = some (.slice 45)) (hi : P.info? 45 = some i) (hz : i.zero = some z)
    (hsize : i.size = 2) (hby : i.bytes = 40) (hzs : z.cells.size = 2) (n : Nat) (v : Value) (es : List Pd) (hs : OwnP w n v es) (ad : Addr) (c : Nat) (d : Pd)
    (hc0 : w.cell? (ad.add 0) = some (.string (strOfNums d.p.name))) (hc1 : w.cell? (ad.add 1) = some (.slice d.A d.p.args.length d.c)) (hd : OwnA w n d) (hf : d.Fits) (hlen : es.length + 1 ≤ 1000000001) (hbase : n ≤ w.heap.size) :
    ∃ v' w', (Builtin.append_ #[t, t] ty #[v, .slice (some ad) 1 c]).run P w = .ok v' w' ∧ OwnP w' n v' (es ++ [d]) ∧ w.grownBy w' v.ownBlock := by
  obtain ⟨v', w', q1, q2, q3, _, _⟩ := run_append_own_at (P := P) w n t ty _ i z 2 40 ht hi hz hsize hby hzs (by omega) v es.length (flatD es) hs.1 ad 1 c (flatD [d]) (by rw [flatD_length]; rfl) (fun j u hu => by
    match j with
    | 0 => rw [hc0]; simpa [flatD] using hu
    | 1 => rw [hc1]; simpa [flatD] using hu
    | j + 2 => simp [flatD] at hu) (fun u hu => by
    simp only [flatD, List.mem_cons, List.not_mem_nil, or_false] at hu
    rcases hu with rfl | rfl <;> rfl) (by simp only [maxLen]; omega) (by omega) hbase
  refine ⟨v', w', q1, ⟨by rw [flatD_append, List.length_append]; exact q2, fun e he => ?_⟩, q3⟩
  rcases List.mem_append.1 he with h | h
  · exact ⟨(hs.2 e h).1.grown hs.1 q3, (hs.2 e h).2⟩
  · obtain rfl : e = d := by simpa using h
    exact ⟨hd.grown hs.1 q3, hf⟩
section
variable {P : Program} {w : World} {ops : Array Oper} {o : Oper} {a : Act} {Q : Exit → Act → World → Prop} {K : Act → World → Prop} {E : Prop}
/-- The same as steps of a region that draws its order. -/
theorem step_append_ints (hgd : o.guard = none) (s x : Operand) (t : TypeId) (ho : o.op = .call { callee := .builtin .append, args := #[s, x], argTypes := #[t, t] })
    (base : Nat) (i : TypeInfo) (z : Value) (ht : P.underlying t = some (.slice 3)) (hi : P.info? 3 = some i) (hz : i.zero = some z) (hsize : i.size = 1) (hby : i.bytes = 8) (hzs : z.cells.size = 1)
    (hs : a.eval s = .slice none 0 0) (B : Nat) (sv : Value) (xs : List Int) (hx : a.eval x = sv) (hr : IRow w B sv xs) (hlen : xs.length ≤ 1000000000) (hbase : base ≤ w.heap.size) (N : Nat) (hN : xs.length = N)
    (h : ∀ A c w', w'.ownsRow base 3 1 (.slice A N c) N (xs.map (.int .i64)) → Below w.heap.size w w' → K (a.put o.dst (.slice A N c)) w') : if Region.wanted o (yielded ops a.tmps) = true then Oper.wp P o a w K Q else E := by
  have hw : Region.wanted o (yielded ops a.tmps) = true := by simp [Region.wanted, hgd]
  subst hN
  obtain ⟨A, c, w', hr, h2, h3⟩ := run_append_ints (P := P) w base t o.type i z ht hi hz hsize hby hzs B sv xs hr hlen hbase
  rw [if_pos hw]
  unfold Oper.wp execOp
  simp only [ho, resolve, invoke, builtin, Sem.run_bind, Sem.run_pure, Result.andThen_ok, List.map_toArray, List.map_cons, List.map_nil, hs, hx, hr]
  exact h A c w' h2 h3
theorem step_append_pred (hgd : o.guard = none) (s x : Operand) (t : TypeId) (ho : o.op = .call { callee := .builtin .append, args := #[s, x], argTypes := #[t, t] })
    (i : TypeInfo) (z : Value) (ht : P.underlying t = some (.slice 45)) (hi : P.info? 45 = some i) (hz : i.zero = some z) (hsize : i.size = 2) (hby : i.bytes = 40) (hzs : z.cells.size = 2)
    (n : Nat) (v : Value) (es : List Pd) (hs : a.eval s = v) (hown : OwnP w n v es) (ad : Addr) (c : Nat) (d : Pd) (hx : a.eval x = .slice (some ad) 1 c)
    (hc0 : w.cell? (ad.add 0) = some (.string (strOfNums d.p.name))) (hc1 : w.cell? (ad.add 1) = some (.slice d.A d.p.args.length d.c)) (hd : OwnA w n d) (hf : d.Fits) (hlen : es.length + 1 ≤ 1000000001) (hbase : n ≤ w.heap.size)
    (h : ∀ v' w', OwnP w' n v' (es ++ [d]) → w.grownBy w' v.ownBlock → K (a.put o.dst v') w') : if Region.wanted o (yielded ops a.tmps) = true then Oper.wp P o a w K Q else E := by
  have hw : Region.wanted o (yielded ops a.tmps) = true := by simp [Region.wanted, hgd]
  obtain ⟨v', w', hr, h2, h3⟩ := run_append_pred (P := P) w t o.type i z ht hi hz hsize hby hzs n v es hown ad c d hc0 hc1 hd hf hlen hbase
  rw [if_pos hw]
  unfold Oper.wp execOp
  simp only [ho, resolve, invoke, builtin, Sem.run_bind, Sem.run_pure, Result.andThen_ok, List.map_toArray, List.map_cons, List.map_nil, hs, hx, hr]
  exact h v' w' h2 h3
end
#print axioms OwnP.fresh
#print axioms step_append_ints
#print axioms step_append_pred
end Go.Proofs.Ytnjhkjlekepjoaa
