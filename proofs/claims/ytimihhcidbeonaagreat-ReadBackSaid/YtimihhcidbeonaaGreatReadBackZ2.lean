/-
  What the theorem of ReadBack rests on, part 2 of 15.
-/
import Derived.Maps.AppendAt
import Derived.Deep.QuietTactic
import Derived.BigQuiet
import Derived.Test.YtimihhcidbeonaaGreatReadBackZ1
namespace Go.Proofs.YtimihhcidbeonaaGreat
open Go.RowKit
/-- A slice of predicates that lies in blocks from n on, and may be written into. -/
def FreshP (n : Nat) (w : World) (A : Option Addr) (c : Nat) (es : List Pd) : Prop :=
  PredRow w w.heap.size (.slice A es.length c) es ∧ (∀ a, A = some a → n ≤ a.block) ∧ (∀ d ∈ es, ∀ a, d.A = some a → n ≤ a.block) ∧
  (∀ b o, A = some ⟨b, o, none⟩ → ∀ i, i < es.length → w.frozen? ⟨b, o + i * 2, none⟩ = false) ∧ (∀ d ∈ es, ∀ b o, d.A = some ⟨b, o, none⟩ → ∀ k, k < d.p.args.length → w.frozen? ⟨b, o + k, none⟩ = false)
end Go.Proofs.YtimihhcidbeonaaGreat
namespace Go.Proofs.YtimihhcidbeonaaGreat
open Go.RowKit
theorem Tryz.infoIntB : (Tryz.prog.info? 3).map (fun i => (i.zero, i.size, i.bytes)) = some (some (.int .i64 0), 1, 8) := by kernel_rfl
theorem Tryz.infoPred : (Tryz.prog.info? 88).map (fun i => (i.zero, i.size, i.bytes)) = some (some (.agg #[.string ⟨#[]⟩, .slice none 0 0]), 2, 40) := by kernel_rfl
/-- The cells of predicates, one behind the other. -/
def flatD : List Pd → List Value
  | [] => []
  | d :: l => .string (strOfNums d.p.name) :: .slice d.A d.p.args.length d.c :: flatD l
theorem flatD_length : ∀ l : List Pd, (flatD l).length = l.length * 2
  | [] => rfl
  | d :: l => by
    rw [flatD, List.length_cons, List.length_cons, flatD_length l, List.length_cons]
    omega
theorem flatD_append : ∀ l m : List Pd, flatD (l ++ m) = flatD l ++ flatD m
  | [], _ => rfl
  | d :: l, m => by rw [List.cons_append, flatD, flatD, flatD_append l m, List.cons_append, List.cons_append]
theorem flatD_at : ∀ (l : List Pd) (i : Nat) (d : Pd), l[i]? = some d → (flatD l)[i * 2]? = some (.string (strOfNums d.p.name)) ∧ (flatD l)[i * 2 + 1]? = some (.slice d.A d.p.args.length d.c)
  | [], i, d, h => by simp at h
  | e :: l, 0, d, h => by
    simp only [List.getElem?_cons_zero, Option.some.injEq] at h
    subst h
    exact ⟨rfl, rfl⟩
  | e :: l, i + 1, d, h => by
    rw [List.getElem?_cons_succ] at h
    rw [flatD, show (i + 1) * 2 = i * 2 + 1 + 1 by omega, List.getElem?_cons_succ, List.getElem?_cons_succ, List.getElem?_cons_succ, List.getElem?_cons_succ]
    exact flatD_at l i d h
/-- The arguments of a predicate of the call's own. -/
def OwnA (w : World) (n : Nat) (d : Pd) : Prop := w.ownsRow n 3 1 (.slice d.A d.p.args.length d.c) d.p.args.length (d.p.args.map (.int .i64))
/-- A slice of predicates of the call's own. -/
def OwnP (w : World) (n : Nat) (v : Value) (es : List Pd) : Prop := w.ownsRow n 88 2 v es.length (flatD es) ∧ ∀ d ∈ es, OwnA w n d ∧ d.Fits
section
variable {w w' : World} {n : Nat} {v : Value} {es : List Pd}
theorem OwnP.nil (w : World) (n : Nat) : OwnP w n (.slice none 0 0) [] := ⟨World.ownsRow_nil _ _ _ _, by simp⟩
theorem OwnA.below {d : Pd} (h : OwnA w n d) (hb : Below w.heap.size w w') : OwnA w' n d := own_below h hb
theorem OwnP.below (h : OwnP w n v es) (hb : Below w.heap.size w w') : OwnP w' n v es := ⟨own_below h.1 hb, fun d hd => ⟨(h.2 d hd).1.below hb, (h.2 d hd).2⟩⟩
theorem OwnP.form (h : OwnP w n v es) : ∃ A c, v = .slice A es.length c ∧ es.length ≤ c ∧ c ≤ 9223372036854775807 := by
  rcases h.1.2 with ⟨rfl, h0⟩ | ⟨g, cap, cur, rfl, _, _, h1, h2, _⟩
  · exact ⟨none, 0, by rw [h0], by omega, by omega⟩
  · unfold maxLen at h2
    exact ⟨_, cap, rfl, h1, by omega⟩
/-- A predicate's arguments lie in another block than a row of predicates. -/
theorem own_parts {n m k : Nat} {u : Value} {us vs : List Value} {j : Nat} (h : w.ownsRow n 3 1 u k us) (h2 : w.ownsRow m 88 2 v j vs) : u.ownBlock = none ∨ u.ownBlock ≠ v.ownBlock := by
  rcases h.2 with ⟨rfl, _⟩ | ⟨g, cap, cur, rfl, _, hg, _⟩
  · exact .inl rfl
  · refine .inr fun e => ?_
    rcases h2.2 with ⟨rfl, _⟩ | ⟨g2, cap2, cur2, rfl, _, hg2, _⟩
    · simp [Value.ownBlock] at e
    · obtain rfl : g = g2 := by simpa [Value.ownBlock] using e
      rw [hg] at hg2
      injection hg2 with hg2
      injection hg2 with _ e3 _
      exact absurd e3 (by decide)
theorem OwnA.grown {d : Pd} {m j : Nat} {vs : List Value} (h : OwnA w n d) (h2 : w.ownsRow m 88 2 v j vs) (hg : w.grownBy w' v.ownBlock) : OwnA w' n d := World.ownsRow.kept h hg (own_parts h h2)
/-- What it is, read. -/
theorem OwnP.fresh {A : Option Addr} {c : Nat} (h : OwnP w n (.slice A es.length c) es) : FreshP n w A c es := by
  obtain ⟨h1, h2⟩ := h
  have hargs : ∀ d ∈ es, IRow w w.heap.size (.slice d.A d.p.args.length d.c) d.p.args ∧ d.Fits := fun d hd => ⟨VRow.of_own (h2 d hd).1, (h2 d hd).2⟩
  have hb2 : ∀ d ∈ es, ∀ a, d.A = some a → n ≤ a.block := fun d hd a e => (World.ownsRow.lt (h2 d hd).1 a.block (by rw [e]; rfl)).1
  have hfz : ∀ d ∈ es, ∀ b o, d.A = some ⟨b, o, none⟩ → ∀ k, k < d.p.args.length → w.frozen? ⟨b, o + k, none⟩ = false := by
    intro d hd b o e k _
    have h3 := (h2 d hd).1
    unfold OwnA at h3
    rw [e] at h3
    rcases h3.2 with ⟨e4, _⟩ | ⟨g, cap, cur, e4, _⟩
    · simp at e4
    · injection e4 with e5 _ e6
      injection e5 with e5
      injection e5 with e7 e8 _
      subst e7 e8 e6
      exact World.ownsRow.frozenAt h3 _
  rcases h1.2 with ⟨e, h0⟩ | ⟨g, cap, cur, e, hng, hg, q1, q2, q3, q4⟩
  · injection e with e1 e2 e3
    subst e1 e3
    have h0' : es = [] := List.eq_nil_of_length_eq_zero h0
    subst h0'
    exact ⟨PredRow.nil _ _, (fun a e => by cases e), hb2, (fun b o e => by cases e), hfz⟩
  · injection e with e1 _ e3
    subst e1 e3
    refine ⟨⟨_, _, rfl, q1, q2, by simp, fun _ => ⟨g, 0, rfl, (Array.getElem?_eq_some_iff.1 hg).1, fun i d hd => ?_⟩, hargs⟩, (fun a e => by injection e with e; subst e; exact hng), hb2, fun b o e i _ => ?_, hfz⟩
    · obtain ⟨f1, f2⟩ := flatD_at es i d hd
      have hl := (List.getElem?_eq_some_iff.1 hd).1
      rw [Nat.zero_add, World.ownsRow.cellAt h1 _ (by omega), World.ownsRow.cellAt h1 _ (by omega)]
      exact ⟨f1, f2⟩
    · injection e with e
      injection e with e1 e2 _
      subst e1 e2
      exact World.ownsRow.frozenAt h1 _
end
/-- append of numbers behind nil. -/
theorem run_append_ints {P : Program} (w : World) (base : Nat) (t ty : TypeId) (i : TypeInfo) (z : Value) (ht : P.underlying t = some (.slice 3)) (hi : P.info? 3 = some i) (hz : i.zero = some z)
    (hsize : i.size = 1) (hby : i.bytes = 8) (hzs : z.cells.size = 1) (B : Nat) (sv : Value) (xs : List Int) (hr : IRow w B sv xs) (hlen : xs.length ≤ 1000000000) (hbase : base ≤ w.heap.size) :
    ∃ A c w', (Builtin.append_ #[t, t] ty #[.slice none 0 0, sv]).run P w = .ok (.slice A xs.length c) w' ∧ w'.ownsRow base 3 1 (.slice A xs.length c) xs.length (xs.map (.int .i64)) ∧ Below w.heap.size w w' := by
  obtain ⟨A, c, rfl, h1, h2, h3, h4⟩ := hr
  rw [List.length_map] at h1 h4 ⊢
  rcases A with _ | ad
  · have hx : xs = [] := by
      rcases Nat.eq_zero_or_pos xs.length with h0 | h0
      · exact List.eq_nil_of_length_eq_zero h0
      · obtain ⟨b, o, he, _⟩ := h4 h0
        cases he
    subst hx
    obtain rfl := h3 rfl
    exact ⟨none, 0, w, run_append_owned_none w base t ty _ i 1 ht hi _ 0 [] (World.ownsRow_nil _ _ _ _), World.ownsRow_nil _ _ _ _, Below.refl _ _⟩
  · obtain ⟨v', w', q1, q2, q3, _, _⟩ := run_append_own_at (P := P) w base t ty _ i z 1 8 ht hi hz hsize hby hzs (by omega) (.slice none 0 0) 0 [] (World.ownsRow_nil _ _ _ _) ad xs.length c (xs.map (.int .i64)) (by simp) (fun j u hu => by
      have hj : j < xs.length := by
        have := (List.getElem?_eq_some_iff.1 hu).1
        simpa using this
      obtain ⟨b, o, he, _, hc⟩ := h4 (by omega)
      obtain rfl : ad = ⟨b, o, none⟩ := by injection he
      rw [← hc j u hu, Go.WideShapes.add_plain]) (fun u hu => by
      obtain ⟨x, _, rfl⟩ := List.mem_map.1 hu
      simp [Value.oneCell']) (by simp only [maxLen]; omega) (by omega) hbase
    rw [Nat.zero_add, List.nil_append] at q2
    have hform : ∃ A c, v' = .slice A xs.length c := by
      rcases q2.2 with ⟨e, h0⟩ | ⟨g, cap, cur, e, _⟩
      · exact ⟨none, 0, by rw [e, h0]⟩
      · exact ⟨_, _, e⟩
    obtain ⟨A', c', rfl⟩ := hform
    exact ⟨A', c', w', q1, q2, q3.os, q3.tape, q3.output, q3.size, fun k hk => q3.block k hk (by simp [Value.ownBlock])⟩
/-- append of a predicate behind a slice of the call's own. -/
theorem run_append_pred {P : Program} (w : World) (t ty : TypeId) (i : TypeInfo) (z : Value) (ht : P.underlying t = some (.slice 88)) (hi : P.info? 88 = some i) (hz : i.zero = some z)
    (hsize : i.size = 2) (hby : i.bytes = 40) (hzs : z.cells.size = 2) (n : Nat) (v : Value) (es : List Pd) (hs : OwnP w n v es) (ad : Addr) (c : Nat) (d : Pd)
    (hc0 : w.cell? (ad.add 0) = some (.string (strOfNums d.p.name))) (hc1 : w.cell? (ad.add 1) = some (.slice d.A d.p.args.length d.c)) (hd : OwnA w n d) (hf : d.Fits) (hlen : es.length + 1 ≤ 1000000001) (hbase : n ≤ w.heap.size) :
    ∃ v' w', (Builtin.append_ #[t, t] ty #[v, .slice (some ad) 1 c]).run P w = .ok v' w' ∧ OwnP w' n v' (es ++ [d]) ∧ w.grownBy w' v.ownBlock := by
  obtain ⟨v', w', q1, q2, q3, _, _⟩ := run_append_own_at (P := P) w n t ty _ i z 2 40 ht hi hz hsize hby hzs (by omega) v es.length (flatD es) hs.1 ad 1 c (flatD [d]) (by rw [flatD_length]; rfl) (fun j u hu => by
    match j with
    | 0 => rw [hc0]; simpa [flatD] using hu
    | 1 => rw [hc1]; simpa [flatD] using hu
    | j + 2 => simp [flatD] at hu) (fun u hu => by
    simp only [flatD, List.mem_cons, List.not_mem_nil, or_false] at hu
    rcases hu with rfl | rfl <;> rfl) (by simp only [maxLen]; omega) (by omega) hbase
  refine ⟨v', w', q1, ⟨by rw [flatD_append, List.length_append]; exact q2, fun e he => ?_⟩, q3⟩
  rcases List.mem_append.1 he with h | h
  · exact ⟨(hs.2 e h).1.grown hs.1 q3, (hs.2 e h).2⟩
  · obtain rfl : e = d := by simpa using h
    exact ⟨hd.grown hs.1 q3, hf⟩
section
variable {P : Program} {w : World} {ops : Array Oper} {o : Oper} {a : Act} {Q : Exit → Act → World → Prop} {K : Act → World → Prop} {E : Prop}
/-- The same as steps of a region that draws its order. -/
theorem step_append_ints (hgd : o.guard = none) (s x : Operand) (t : TypeId) (ho : o.op = .call { callee := .builtin .append, args := #[s, x], argTypes := #[t, t] })
    (base : Nat) (i : TypeInfo) (z : Value) (ht : P.underlying t = some (.slice 3)) (hi : P.info? 3 = some i) (hz : i.zero = some z) (hsize : i.size = 1) (hby : i.bytes = 8) (hzs : z.cells.size = 1)
    (hs : a.eval s = .slice none 0 0) (B : Nat) (sv : Value) (xs : List Int) (hx : a.eval x = sv) (hr : IRow w B sv xs) (hlen : xs.length ≤ 1000000000) (hbase : base ≤ w.heap.size) (N : Nat) (hN : xs.length = N)
    (h : ∀ A c w', w'.ownsRow base 3 1 (.slice A N c) N (xs.map (.int .i64)) → Below w.heap.size w w' → K (a.put o.dst (.slice A N c)) w') : if Region.wanted o (yielded ops a.tmps) = true then Oper.wp P o a w K Q else E := by
  have hw : Region.wanted o (yielded ops a.tmps) = true := by simp [Region.wanted, hgd]
  subst hN
  obtain ⟨A, c, w', hr, h2, h3⟩ := run_append_ints (P := P) w base t o.type i z ht hi hz hsize hby hzs B sv xs hr hlen hbase
  rw [if_pos hw]
  unfold Oper.wp execOp
  simp only [ho, resolve, invoke, builtin, Sem.run_bind, Sem.run_pure, Result.andThen_ok, List.map_toArray, List.map_cons, List.map_nil, hs, hx, hr]
  exact h A c w' h2 h3
theorem step_append_pred (hgd : o.guard = none) (s x : Operand) (t : TypeId) (ho : o.op = .call { callee := .builtin .append, args := #[s, x], argTypes := #[t, t] })
    (i : TypeInfo) (z : Value) (ht : P.underlying t = some (.slice 88)) (hi : P.info? 88 = some i) (hz : i.zero = some z) (hsize : i.size = 2) (hby : i.bytes = 40) (hzs : z.cells.size = 2)
    (n : Nat) (v : Value) (es : List Pd) (hs : a.eval s = v) (hown : OwnP w n v es) (ad : Addr) (c : Nat) (d : Pd) (hx : a.eval x = .slice (some ad) 1 c)
    (hc0 : w.cell? (ad.add 0) = some (.string (strOfNums d.p.name))) (hc1 : w.cell? (ad.add 1) = some (.slice d.A d.p.args.length d.c)) (hd : OwnA w n d) (hf : d.Fits) (hlen : es.length + 1 ≤ 1000000001) (hbase : n ≤ w.heap.size)
    (h : ∀ v' w', OwnP w' n v' (es ++ [d]) → w.grownBy w' v.ownBlock → K (a.put o.dst v') w') : if Region.wanted o (yielded ops a.tmps) = true then Oper.wp P o a w K Q else E := by
  have hw : Region.wanted o (yielded ops a.tmps) = true := by simp [Region.wanted, hgd]
  obtain ⟨v', w', hr, h2, h3⟩ := run_append_pred (P := P) w t o.type i z ht hi hz hsize hby hzs n v es hown ad c d hc0 hc1 hd hf hlen hbase
  rw [if_pos hw]
  unfold Oper.wp execOp
  simp only [ho, resolve, invoke, builtin, Sem.run_bind, Sem.run_pure, Result.andThen_ok, List.map_toArray, List.map_cons, List.map_nil, hs, hx, hr]
  exact h v' w' h2 h3
end
end Go.Proofs.YtimihhcidbeonaaGreat
namespace Go.Proofs.YtimihhcidbeonaaGreat
open Go.RowKit
theorem own_form {w : World} {n k : Nat} {e : TypeId} {size : Nat} {v : Value} {us : List Value} (h : w.ownsRow n e size v k us) : ∃ A c, v = .slice A k c := by
  rcases h.2 with ⟨rfl, rfl⟩ | ⟨g, cap, cur, rfl, _⟩
  · exact ⟨none, 0, rfl⟩
  · exact ⟨_, _, rfl⟩
theorem own_base {w : World} {n m k : Nat} {e : TypeId} {size : Nat} {v : Value} {us : List Value} (h : w.ownsRow n e size v k us) (hm : m ≤ n) : w.ownsRow m e size v k us := by
  refine ⟨h.1, ?_⟩
  rcases h.2 with h2 | ⟨g, cap, cur, q1, q2, q3⟩
  · exact .inl h2
  · exact .inr ⟨g, cap, cur, q1, Nat.le_trans hm q2, q3⟩
theorem own_low {w : World} {n m k : Nat} {e : TypeId} {size : Nat} {v : Value} {us : List Value} (h : w.ownsRow n e size v k us) (hm : m < n) : v.ownBlock ≠ some m := fun e => by
  have := (World.ownsRow.lt h m e).1
  omega
theorem own_put1 {w : World} {n m k i : Nat} {e : TypeId} {size : Nat} {v u : Value} {us : List Value} (h : w.ownsRow n e size v k us) (hm : m < n) : (w.setCell ⟨m, i, none⟩ u).ownsRow n e size v k us :=
  World.ownsRow.kept h (grown_put w m i u) (.inr (own_low h hm))
theorem below_put {w : World} {B m i : Nat} (u : Value) (hm : B ≤ m) : Below B w (w.setCell ⟨m, i, none⟩ u) := (Below.refl _ _).setCell (p := ⟨m, i, none⟩) hm u
section
variable {P : Program} {w : World} {ops : Array Oper} {rest : List Oper} {o : Oper} {a : Act} {Q : Exit → Act → World → Prop}
/-- append of a predicate behind a slice of the call's own. -/
theorem wpList_append_pred (hgd : o.guard = none) (s x : Operand) (t : TypeId) (ho : o.op = .call { callee := .builtin .append, args := #[s, x], argTypes := #[t, t] })
    (i : TypeInfo) (z : Value) (ht : P.underlying t = some (.slice 88)) (hi : P.info? 88 = some i) (hz : i.zero = some z) (hsize : i.size = 2) (hby : i.bytes = 40) (hzs : z.cells.size = 2)
    (n : Nat) (v : Value) (es : List Pd) (hs : a.eval s = v) (hown : OwnP w n v es) (ad : Addr) (c : Nat) (d : Pd) (hx : a.eval x = .slice (some ad) 1 c)
    (hc0 : w.cell? (ad.add 0) = some (.string (strOfNums d.p.name))) (hc1 : w.cell? (ad.add 1) = some (.slice d.A d.p.args.length d.c)) (hd : OwnA w n d) (hf : d.Fits) (hlen : es.length + 1 ≤ 1000000001) (hbase : n ≤ w.heap.size)
    (h : ∀ v' w', OwnP w' n v' (es ++ [d]) → w.grownBy w' v.ownBlock → wpList P ops Q rest (a.put o.dst v') w') : wpList P ops Q (o :: rest) a w := by
  refine wpList_plain hgd fun K hK => ?_
  obtain ⟨v', w', hr, h2, h3⟩ := run_append_pred (P := P) w t o.type i z ht hi hz hsize hby hzs n v es hown ad c d hc0 hc1 hd hf hlen hbase
  unfold Oper.wp execOp
  simp only [ho, resolve, invoke, builtin, Sem.run_bind, Sem.run_pure, Result.andThen_ok, List.map_toArray, List.map_cons, List.map_nil, hs, hx, hr]
  exact hK _ _ (h v' w' h2 h3)
end
theorem OwnA.base {w : World} {n m : Nat} {d : Pd} (h : OwnA w n d) (hm : m ≤ n) : OwnA w m d := own_base h hm
theorem OwnP.base {w : World} {n m : Nat} {v : Value} {es : List Pd} (h : OwnP w n v es) (hm : m ≤ n) : OwnP w m v es := ⟨own_base h.1 hm, fun d hd => ⟨(h.2 d hd).1.base hm, (h.2 d hd).2⟩⟩
end Go.Proofs.YtimihhcidbeonaaGreat
namespace Go.Proofs.YtimihhcidbeonaaGreat
open Go.RowKit
theorem prs_ext {l m : List Pr} (hl : l.length = m.length) (h : ∀ i, i < l.length → l.getD i default = m.getD i default) : l = m := by
  refine List.ext_getElem hl fun i h1 h2 => ?_
  have := h i h1
  simpa [List.getD, List.getElem?_eq_getElem h1, List.getElem?_eq_getElem h2] using this
theorem args_ext {l m : List Int} (hl : l.length = m.length) (h : ∀ i, i < l.length → l.getD i 0 = m.getD i 0) : l = m := by
  refine List.ext_getElem hl fun i h1 h2 => ?_
  have := h i h1
  simpa [List.getD, List.getElem?_eq_getElem h1, List.getElem?_eq_getElem h2] using this
theorem drewN_low (w : World) (n : Nat) (B : Nat) : Below B w (w.drewN n) := ⟨rfl, rfl, rfl, Nat.le_refl _, fun _ _ => rfl⟩
end Go.Proofs.YtimihhcidbeonaaGreat

namespace Go.Proofs.YtimihhcidbeonaaGreat
/-- An argument: its type, its number, its text's bytes. -/
structure Ag where
  t : Int
  n : Int
  s : List Int
  deriving DecidableEq
instance : Inhabited Ag := ⟨⟨0, 0, []⟩⟩
/-- An event: its predicate's number, its arguments. -/
structure Ev where
  p : Int
  args : List Ag
  deriving DecidableEq
instance : Inhabited Ev := ⟨⟨0, []⟩⟩
/-- A point: its time, its events. -/
structure Pn where
  tm : Int
  evs : List Ev
  deriving DecidableEq
instance : Inhabited Pn := ⟨⟨0, []⟩⟩
/-- Why an argument may not stand where a type is asked for; 0. -/
def whyG (t : Int) (a : Ag) : Int := if a.t ≠ t then 7 else if t = 1 ∧ a.s ≠ [] then 1 else if t = 2 ∧ a.n ≠ 0 then 1 else if 200 < a.s.length then 6 else 0
/-- Why an event isn't of a signature; 0. -/
def eventT (sig : List Pr) (e : Ev) : Int :=
  if e.p < 0 ∨ (sig.length : Int) ≤ e.p then 9
  else if e.args.length ≠ (sig.getD e.p.toNat default).args.length then 1
  else firstWhy (fun i => whyG ((sig.getD e.p.toNat default).args.getD i 0) (e.args.getD i default)) e.args.length 0
/-- Why a point may not have its events; 0. -/
def whyE (sig : List Pr) (l : List Ev) : Int := if 1024 < l.length then 6 else firstWhy (fun k => eventT sig (l.getD k default)) l.length 0
def whyT (sig : List Pr) (t : List Pn) (i : Nat) : Int :=
  if 0 < i ∧ (t.getD i default).tm < (t.getD (i - 1) default).tm then 8 else whyE sig (t.getD i default).evs
/-- The first of n places from a on at which something is wrong: what, and where; (0, 0). -/
def firstBad (f : Nat → Int) : Nat → Nat → Int × Int
  | 0, _ => (0, 0)
  | n + 1, a => if f a = 0 then firstBad f n (a + 1) else (f a, (a : Int))
def checkT (sig : List Pr) (t : List Pn) : Int × Int := if checkP sig = 0 then firstBad (whyT sig t) t.length 0 else (checkP sig, 0)
theorem eventT_name {sig : List Pr} {e : Ev} (h : e.p < 0 ∨ (sig.length : Int) ≤ e.p) : eventT sig e = 9 := if_pos h
section
variable {sig : List Pr} {e : Ev} {k : Nat} {p : Pr}
theorem eventT_has (hk : e.p = (k : Int)) (hp : sig[k]? = some p) : eventT sig e = if e.args.length ≠ p.args.length then 1 else firstWhy (fun i => whyG (p.args.getD i 0) (e.args.getD i default)) e.args.length 0 := by
  have hl := (List.getElem?_eq_some_iff.1 hp).1
  unfold eventT
  rw [if_neg (by omega), hk, Int.toNat_natCast, show sig.getD k default = p by simp [List.getD, hp]]
theorem eventT_arg (hk : e.p = (k : Int)) (hp : sig[k]? = some p) (h : e.args.length ≠ p.args.length) : eventT sig e = 1 := by rw [eventT_has hk hp, if_pos h]
theorem eventT_found (hk : e.p = (k : Int)) (hp : sig[k]? = some p) (h : e.args.length = p.args.length) {r : Nat} (hr : r < e.args.length) (h3 : ∀ j, j < r → whyG (p.args.getD j 0) (e.args.getD j default) = 0) (h4 : whyG (p.args.getD r 0) (e.args.getD r default) ≠ 0) :
    eventT sig e = whyG (p.args.getD r 0) (e.args.getD r default) := by
  rw [eventT_has hk hp, if_neg (by omega)]
  exact firstWhy_found _ _ r (Nat.zero_le _) (by omega) (fun j _ hj => h3 j hj) h4
theorem eventT_none (hk : e.p = (k : Int)) (hp : sig[k]? = some p) (h : e.args.length = p.args.length) (h3 : ∀ j, j < e.args.length → whyG (p.args.getD j 0) (e.args.getD j default) = 0) : eventT sig e = 0 := by
  rw [eventT_has hk hp, if_neg (by omega)]
  exact firstWhy_none _ _ (fun j _ hj => h3 j (by omega))
end
theorem whyE_many {sig : List Pr} {l : List Ev} (h : 1024 < l.length) : whyE sig l = 6 := if_pos h
theorem whyE_found {sig : List Pr} {l : List Ev} (h : l.length ≤ 1024) {r : Nat} (hr : r < l.length) (h3 : ∀ j, j < r → eventT sig (l.getD j default) = 0) (h4 : eventT sig (l.getD r default) ≠ 0) : whyE sig l = eventT sig (l.getD r default) := by
  unfold whyE
  rw [if_neg (by omega)]
  exact firstWhy_found _ _ r (Nat.zero_le _) (by omega) (fun j _ hj => h3 j hj) h4
theorem whyE_none {sig : List Pr} {l : List Ev} (h : l.length ≤ 1024) (h3 : ∀ j, j < l.length → eventT sig (l.getD j default) = 0) : whyE sig l = 0 := by
  unfold whyE
  rw [if_neg (by omega)]
  exact firstWhy_none _ _ (fun j _ hj => h3 j (by omega))
theorem firstBad_none {f : Nat → Int} : ∀ (n a : Nat), (∀ j, a ≤ j → j < a + n → f j = 0) → firstBad f n a = (0, 0)
  | 0, _, _ => rfl
  | n + 1, a, h => by
    rw [firstBad, if_pos (h a (Nat.le_refl _) (by omega))]
    exact firstBad_none n (a + 1) fun j h1 h2 => h j (by omega) (by omega)
theorem firstBad_found {f : Nat → Int} : ∀ (n a r : Nat), a ≤ r → r < a + n → (∀ j, a ≤ j → j < r → f j = 0) → f r ≠ 0 → firstBad f n a = (f r, (r : Int))
  | 0, a, r, h1, h2, _, _ => by omega
  | n + 1, a, r, h1, h2, h3, h4 => by
    by_cases he : r = a
    · subst he
      rw [firstBad, if_neg h4]
    · rw [firstBad, if_pos (h3 a (Nat.le_refl _) (by omega))]
      exact firstBad_found n (a + 1) r (by omega) (by omega) (fun j h5 h6 => h3 j (by omega) h6) h4
theorem firstBad_zero {f : Nat → Int} : ∀ (n a : Nat), (firstBad f n a).1 = 0 → ∀ j, a ≤ j → j < a + n → f j = 0
  | 0, a, _, j, h1, h2 => by omega
  | n + 1, a, h, j, h1, h2 => by
    unfold firstBad at h
    by_cases hf : f a = 0
    · rw [if_pos hf] at h
      by_cases he : j = a
      · rw [he]; exact hf
      · exact firstBad_zero n (a + 1) h j (by omega) (by omega)
    · rw [if_neg hf] at h
      exact absurd h hf
section
variable {sig : List Pr} {t : List Pn}
theorem checkT_sig (h : checkP sig ≠ 0) : checkT sig t = (checkP sig, 0) := if_neg h
theorem checkT_found (h : checkP sig = 0) {r : Nat} (hr : r < t.length) (h3 : ∀ j, j < r → whyT sig t j = 0) (h4 : whyT sig t r ≠ 0) : checkT sig t = (whyT sig t r, (r : Int)) := by
  unfold checkT
  rw [if_pos h]
  exact firstBad_found _ _ r (Nat.zero_le _) (by omega) (fun j _ hj => h3 j hj) h4
theorem checkT_none (h : checkP sig = 0) (h3 : ∀ j, j < t.length → whyT sig t j = 0) : checkT sig t = (0, 0) := by
  unfold checkT
  rw [if_pos h]
  exact firstBad_none _ _ (fun j _ hj => h3 j (by omega))
theorem whyT_order {r : Nat} (h : 0 < r ∧ (t.getD r default).tm < (t.getD (r - 1) default).tm) : whyT sig t r = 8 := if_pos h
theorem whyT_else {r : Nat} (h : ¬ (0 < r ∧ (t.getD r default).tm < (t.getD (r - 1) default).tm)) : whyT sig t r = whyE sig (t.getD r default).evs := if_neg h
/-- A trace is of a signature just if all is right at each place. -/
theorem checkT_zero : (checkT sig t).1 = 0 ↔ checkP sig = 0 ∧ ∀ j, j < t.length → whyT sig t j = 0 := by
  constructor
  · intro h
    by_cases hs : checkP sig = 0
    · unfold checkT at h
      rw [if_pos hs] at h
      exact ⟨hs, fun j hj => firstBad_zero _ _ h j (Nat.zero_le _) (by omega)⟩
    · rw [checkT_sig hs] at h
      exact absurd h hs
  · rintro ⟨hs, h⟩
    rw [checkT_none hs h]
/-- Its first points are. -/
theorem checkT_take (h : (checkT sig t).1 = 0) (k : Nat) : checkT sig (t.take k) = (0, 0) := by
  obtain ⟨hs, ha⟩ := checkT_zero.1 h
  refine checkT_none hs fun j hj => ?_
  rw [List.length_take] at hj
  have := ha j (by omega)
  unfold whyT at this ⊢
  have e : ∀ i, i < k → (t.take k).getD i default = t.getD i default := fun i hi => by simp [List.getD, hi]
  rwa [e j (by omega), e (j - 1) (by omega)]
/-- So are its last ones. -/
theorem checkT_drop (h : (checkT sig t).1 = 0) (k : Nat) : checkT sig (t.drop k) = (0, 0) := by
  obtain ⟨hs, ha⟩ := checkT_zero.1 h
  refine checkT_none hs fun j hj => ?_
  rw [List.length_drop] at hj
  have := ha (k + j) (by omega)
  have e : ∀ i, (t.drop k).getD i default = t.getD (k + i) default := fun i => by simp [List.getD, List.getElem?_drop]
  by_cases h0 : 0 < j
  · unfold whyT at this ⊢
    rw [e j, e (j - 1), show k + (j - 1) = k + j - 1 by omega]
    by_cases hc : (t.getD (k + j) default).tm < (t.getD (k + j - 1) default).tm
    · rw [if_pos ⟨by omega, hc⟩] at this
      cases this
    · rw [if_neg (by omega)] at this ⊢
      exact this
  · rw [whyT_else (by omega), e j]
    by_cases hc : 0 < k + j ∧ (t.getD (k + j) default).tm < (t.getD (k + j - 1) default).tm
    · rw [whyT_order hc] at this
      cases this
    · rw [whyT_else hc] at this
      exact this
end
def sumS : List Ag → Nat
  | [] => 0
  | a :: l => a.s.length + sumS l
theorem sumS_append : ∀ l m : List Ag, sumS (l ++ m) = sumS l + sumS m
  | [], m => by simp [sumS]
  | a :: l, m => by simp only [List.cons_append, sumS, sumS_append l m]; omega
end Go.Proofs.YtimihhcidbeonaaGreat
namespace Go.Proofs.YtimihhcidbeonaaGreat
open Go.RowKit Go.ChangeShapes Go.WideShapes
/-- The slice value v has n elements, whose cells are us, one behind the other. -/
def ERow (w : World) (B : Nat) (v : Value) (n : Nat) (us : List Value) : Prop :=
  ∃ A c, v = .slice A n c ∧ n ≤ c ∧ c ≤ maxLen ∧ (A = none → c = 0) ∧ (0 < n → ∃ b o, A = some ⟨b, o, none⟩ ∧ b < B ∧ ∀ i u, us[i]? = some u → w.cell? ⟨b, o + i, none⟩ = some u)
section
variable {w w' : World} {B B' n : Nat} {v : Value} {us : List Value}
theorem ERow.keep (h : ERow w B v n us) (hk : ∀ p : Addr, p.block < B → w'.cell? p = w.cell? p) : ERow w' B v n us := by
  obtain ⟨A, c, hv, h1, h2, h3, h4⟩ := h
  refine ⟨A, c, hv, h1, h2, h3, fun hn => ?_⟩
  obtain ⟨b, o, e, hlt, hc⟩ := h4 hn
  exact ⟨b, o, e, hlt, fun i u hi => (hk ⟨b, o + i, none⟩ hlt).trans (hc i u hi)⟩
theorem ERow.below (h : ERow w B v n us) (hb : Below B w w') : ERow w' B v n us := h.keep fun _ hp => hb.cell hp
theorem ERow.more (h : ERow w B v n us) (hB : B ≤ B') : ERow w B' v n us := by
  obtain ⟨A, c, hv, h1, h2, h3, h4⟩ := h
  refine ⟨A, c, hv, h1, h2, h3, fun hn => ?_⟩
  obtain ⟨b, o, e, hlt, hc⟩ := h4 hn
  exact ⟨b, o, e, Nat.lt_of_lt_of_le hlt hB, hc⟩
theorem ERow.nil (w : World) (B : Nat) : ERow w B (.slice none 0 0) 0 [] := ⟨none, 0, rfl, Nat.le_refl _, Nat.zero_le _, fun _ => rfl, fun h => absurd h (by simp)⟩
theorem ERow.form (h : ERow w B v n us) : ∃ A c, v = .slice A n c ∧ n ≤ c ∧ c ≤ 9223372036854775807 := by
  obtain ⟨A, c, hv, h1, h2, _⟩ := h
  unfold maxLen at h2
  exact ⟨A, c, hv, h1, by omega⟩
theorem ERow.len {A : Option Addr} {m c : Nat} (h : ERow w B (.slice A m c) n us) : m = n ∧ n ≤ c ∧ c ≤ 9223372036854775807 := by
  obtain ⟨A', c', hv, h1, h2⟩ := h.form
  injection hv with _ e2 e3
  exact ⟨e2, by omega, by omega⟩
theorem ERow.block {A : Option Addr} {m c : Nat} (h : ERow w B (.slice A m c) n us) (hn : 0 < n) : ∃ b o, A = some ⟨b, o, none⟩ ∧ b < B ∧ ∀ i u, us[i]? = some u → w.cell? ⟨b, o + i, none⟩ = some u := by
  obtain ⟨A', c', hv, _, _, _, h4⟩ := h
  injection hv with e1 _ _
  obtain ⟨b, o, e, r⟩ := h4 hn
  exact ⟨b, o, e1.trans e, r⟩
theorem ERow.of_own {base k : Nat} {e : TypeId} (h : w.ownsRow base e k v n us) : ERow w w.heap.size v n us := by
  rcases h.2 with ⟨rfl, rfl⟩ | ⟨g, cap, cur, rfl, _, hg, q1, q2, _⟩
  · exact ⟨none, 0, rfl, Nat.le_refl _, Nat.zero_le _, fun _ => rfl, fun h => absurd h (by simp)⟩
  · refine ⟨_, cap, rfl, q1, q2, by simp, fun _ => ⟨g, 0, rfl, (Array.getElem?_eq_some_iff.1 hg).1, fun i u hi => ?_⟩⟩
    have hl := (List.getElem?_eq_some_iff.1 hi).1
    rw [h.1] at hl
    rw [Nat.zero_add, World.ownsRow.cellAt h i hl]
    exact hi
end
def flatG : List Ag → List Value
  | [] => []
  | a :: l => .int .i64 a.t :: .int .i64 a.n :: .string (strOfNums a.s) :: flatG l
/-- An event, and where its arguments lie. -/
structure Em where
  p : Int
  args : List Ag
  A : Option Addr
  c : Nat
abbrev Em.e (d : Em) : Ev := ⟨d.p, d.args⟩
abbrev Em.val (d : Em) : Value := .agg #[.int .i64 d.p, .slice d.A d.args.length d.c]
def flatE : List Em → List Value
  | [] => []
  | d :: l => .int .i64 d.p :: .slice d.A d.args.length d.c :: flatE l
/-- A point, and where its events lie. -/
structure Pm where
  tm : Int
  evs : List Em
  A : Option Addr
  c : Nat
abbrev Pm.p (d : Pm) : Pn := ⟨d.tm, d.evs.map (·.e)⟩
abbrev Pm.val (d : Pm) : Value := .agg #[.int .u64 d.tm, .slice d.A d.evs.length d.c]
def flatN : List Pm → List Value
  | [] => []
  | d :: l => .int .u64 d.tm :: .slice d.A d.evs.length d.c :: flatN l
abbrev Ag.val (a : Ag) : Value := .agg #[.int .i64 a.t, .int .i64 a.n, .string (strOfNums a.s)]
theorem flatG_length : ∀ l : List Ag, (flatG l).length = l.length * 3
  | [] => rfl
  | a :: l => by simp only [flatG, List.length_cons, flatG_length l]; omega
theorem flatE_length : ∀ l : List Em, (flatE l).length = l.length * 2
  | [] => rfl
  | a :: l => by simp only [flatE, List.length_cons, flatE_length l]; omega
theorem flatN_length : ∀ l : List Pm, (flatN l).length = l.length * 2
  | [] => rfl
  | a :: l => by simp only [flatN, List.length_cons, flatN_length l]; omega
theorem flatG_append : ∀ l m : List Ag, flatG (l ++ m) = flatG l ++ flatG m
  | [], _ => rfl
  | a :: l, m => by simp only [List.cons_append, flatG, flatG_append l m]
theorem flatE_append : ∀ l m : List Em, flatE (l ++ m) = flatE l ++ flatE m
  | [], _ => rfl
  | a :: l, m => by simp only [List.cons_append, flatE, flatE_append l m]
theorem flatN_append : ∀ l m : List Pm, flatN (l ++ m) = flatN l ++ flatN m
  | [], _ => rfl
  | a :: l, m => by simp only [List.cons_append, flatN, flatN_append l m]
theorem flatG_at : ∀ (l : List Ag) (i : Nat) (a : Ag), l[i]? = some a → (flatG l)[i * 3]? = some (.int .i64 a.t) ∧ (flatG l)[i * 3 + 1]? = some (.int .i64 a.n) ∧ (flatG l)[i * 3 + 2]? = some (.string (strOfNums a.s))
  | [], i, d, h => by simp at h
  | e :: l, 0, d, h => by
    simp only [List.getElem?_cons_zero, Option.some.injEq] at h
    subst h
    exact ⟨rfl, rfl, rfl⟩
  | e :: l, i + 1, d, h => by
    rw [List.getElem?_cons_succ] at h
    rw [flatG, show (i + 1) * 3 = i * 3 + 1 + 1 + 1 by omega]
    simp only [List.getElem?_cons_succ]
    exact flatG_at l i d h
theorem flatE_at : ∀ (l : List Em) (i : Nat) (d : Em), l[i]? = some d → (flatE l)[i * 2]? = some (.int .i64 d.p) ∧ (flatE l)[i * 2 + 1]? = some (.slice d.A d.args.length d.c)
  | [], i, d, h => by simp at h
  | e :: l, 0, d, h => by
    simp only [List.getElem?_cons_zero, Option.some.injEq] at h
    subst h
    exact ⟨rfl, rfl⟩
  | e :: l, i + 1, d, h => by
    rw [List.getElem?_cons_succ] at h
    rw [flatE, show (i + 1) * 2 = i * 2 + 1 + 1 by omega, List.getElem?_cons_succ, List.getElem?_cons_succ, List.getElem?_cons_succ, List.getElem?_cons_succ]
    exact flatE_at l i d h
theorem flatN_at : ∀ (l : List Pm) (i : Nat) (d : Pm), l[i]? = some d → (flatN l)[i * 2]? = some (.int .u64 d.tm) ∧ (flatN l)[i * 2 + 1]? = some (.slice d.A d.evs.length d.c)
  | [], i, d, h => by simp at h
  | e :: l, 0, d, h => by
    simp only [List.getElem?_cons_zero, Option.some.injEq] at h
    subst h
    exact ⟨rfl, rfl⟩
  | e :: l, i + 1, d, h => by
    rw [List.getElem?_cons_succ] at h
    rw [flatN, show (i + 1) * 2 = i * 2 + 1 + 1 by omega, List.getElem?_cons_succ, List.getElem?_cons_succ, List.getElem?_cons_succ, List.getElem?_cons_succ]
    exact flatN_at l i d h
def Ag.Fits (a : Ag) : Prop := a.s.length ≤ maxLen ∧ (∀ x ∈ a.s, 0 ≤ x ∧ x < 256) ∧ (-9223372036854775808 ≤ a.t ∧ a.t ≤ 9223372036854775807) ∧ (-9223372036854775808 ≤ a.n ∧ a.n ≤ 9223372036854775807)
/-- The slice value reads as these arguments. -/
def GRow (w : World) (B : Nat) (v : Value) (l : List Ag) : Prop := ERow w B v l.length (flatG l) ∧ ∀ a ∈ l, a.Fits
def Em.Fits (d : Em) : Prop := -9223372036854775808 ≤ d.p ∧ d.p ≤ 9223372036854775807
/-- What an event's parts are in memory. -/
def Em.Ok (w : World) (B : Nat) (d : Em) : Prop := GRow w B (.slice d.A d.args.length d.c) d.args ∧ d.Fits
/-- The slice value reads as these events. -/
def EvRow (w : World) (B : Nat) (v : Value) (l : List Em) : Prop := ERow w B v l.length (flatE l) ∧ ∀ d ∈ l, d.Ok w B
def Pm.Fits (d : Pm) : Prop := 0 ≤ d.tm ∧ d.tm < 18446744073709551616
def Pm.Ok (w : World) (B : Nat) (d : Pm) : Prop := EvRow w B (.slice d.A d.evs.length d.c) d.evs ∧ d.Fits
/-- The slice value reads as these points. -/
def TrRow (w : World) (B : Nat) (v : Value) (l : List Pm) : Prop := ERow w B v l.length (flatN l) ∧ ∀ d ∈ l, d.Ok w B
section
variable {w w' : World} {B B' : Nat} {v : Value}
theorem GRow.below {l : List Ag} (h : GRow w B v l) (hb : Below B w w') : GRow w' B v l := ⟨h.1.below hb, h.2⟩
theorem GRow.more {l : List Ag} (h : GRow w B v l) (hB : B ≤ B') : GRow w B' v l := ⟨h.1.more hB, h.2⟩
theorem Em.Ok.below {d : Em} (h : d.Ok w B) (hb : Below B w w') : d.Ok w' B := ⟨h.1.below hb, h.2⟩
theorem Em.Ok.more {d : Em} (h : d.Ok w B) (hB : B ≤ B') : d.Ok w B' := ⟨h.1.more hB, h.2⟩
theorem EvRow.below {l : List Em} (h : EvRow w B v l) (hb : Below B w w') : EvRow w' B v l := ⟨h.1.below hb, fun d hd => (h.2 d hd).below hb⟩
theorem EvRow.more {l : List Em} (h : EvRow w B v l) (hB : B ≤ B') : EvRow w B' v l := ⟨h.1.more hB, fun d hd => (h.2 d hd).more hB⟩
theorem Pm.Ok.below {d : Pm} (h : d.Ok w B) (hb : Below B w w') : d.Ok w' B := ⟨h.1.below hb, h.2⟩
theorem Pm.Ok.more {d : Pm} (h : d.Ok w B) (hB : B ≤ B') : d.Ok w B' := ⟨h.1.more hB, h.2⟩
theorem TrRow.below {l : List Pm} (h : TrRow w B v l) (hb : Below B w w') : TrRow w' B v l := ⟨h.1.below hb, fun d hd => (h.2 d hd).below hb⟩
theorem TrRow.more {l : List Pm} (h : TrRow w B v l) (hB : B ≤ B') : TrRow w B' v l := ⟨h.1.more hB, fun d hd => (h.2 d hd).more hB⟩
/-- The cells of an argument, of an event, of a point. -/
theorem GRow.at {A : Option Addr} {n c : Nat} {l : List Ag} (h : GRow w B (.slice A n c) l) {i : Nat} {a : Ag} (ha : l[i]? = some a) : ∃ b o, A = some ⟨b, o, none⟩ ∧ b < B ∧
    w.cell? ⟨b, o + i * 3, none⟩ = some (.int .i64 a.t) ∧ w.cell? ⟨b, o + i * 3 + 1, none⟩ = some (.int .i64 a.n) ∧ w.cell? ⟨b, o + i * 3 + 2, none⟩ = some (.string (strOfNums a.s)) ∧ a.Fits := by
  have hlt := (List.getElem?_eq_some_iff.1 ha).1
  obtain ⟨b, o, e, hb, hc⟩ := h.1.block (by omega)
  obtain ⟨f0, f1, f2⟩ := flatG_at l i a ha
  exact ⟨b, o, e, hb, hc _ _ f0, hc _ _ f1, hc _ _ f2, h.2 a (List.mem_of_getElem? ha)⟩
theorem EvRow.at {A : Option Addr} {n c : Nat} {l : List Em} (h : EvRow w B (.slice A n c) l) {i : Nat} {d : Em} (hd : l[i]? = some d) : ∃ b o, A = some ⟨b, o, none⟩ ∧ b < B ∧
    w.cell? ⟨b, o + i * 2, none⟩ = some (.int .i64 d.p) ∧ w.cell? ⟨b, o + i * 2 + 1, none⟩ = some (.slice d.A d.args.length d.c) ∧ d.Ok w B ∧ d.args.length ≤ d.c ∧ d.c ≤ 9223372036854775807 := by
  have hlt := (List.getElem?_eq_some_iff.1 hd).1
  obtain ⟨b, o, e, hb, hc⟩ := h.1.block (by omega)
  obtain ⟨f0, f1⟩ := flatE_at l i d hd
  have hk := h.2 d (List.mem_of_getElem? hd)
  obtain ⟨_, l1, l2⟩ := hk.1.1.len
  exact ⟨b, o, e, hb, hc _ _ f0, hc _ _ f1, hk, l1, l2⟩
theorem TrRow.at {A : Option Addr} {n c : Nat} {l : List Pm} (h : TrRow w B (.slice A n c) l) {i : Nat} {d : Pm} (hd : l[i]? = some d) : ∃ b o, A = some ⟨b, o, none⟩ ∧ b < B ∧
    w.cell? ⟨b, o + i * 2, none⟩ = some (.int .u64 d.tm) ∧ w.cell? ⟨b, o + i * 2 + 1, none⟩ = some (.slice d.A d.evs.length d.c) ∧ d.Ok w B ∧ d.evs.length ≤ d.c ∧ d.c ≤ 9223372036854775807 := by
  have hlt := (List.getElem?_eq_some_iff.1 hd).1
  obtain ⟨b, o, e, hb, hc⟩ := h.1.block (by omega)
  obtain ⟨f0, f1⟩ := flatN_at l i d hd
  have hk := h.2 d (List.mem_of_getElem? hd)
  obtain ⟨_, l1, l2⟩ := hk.1.1.len
  exact ⟨b, o, e, hb, hc _ _ f0, hc _ _ f1, hk, l1, l2⟩
theorem flatN_take : ∀ (l : List Pm) (k : Nat), flatN (l.take k) = (flatN l).take (k * 2)
  | [], k => by simp [flatN]
  | d :: l, 0 => by simp [flatN]
  | d :: l, k + 1 => by rw [List.take_succ_cons, flatN, flatN, flatN_take l k, show (k + 1) * 2 = k * 2 + 1 + 1 by omega, List.take_succ_cons, List.take_succ_cons]
theorem flatN_drop : ∀ (l : List Pm) (k : Nat), flatN (l.drop k) = (flatN l).drop (k * 2)
  | [], k => by simp [flatN]
  | d :: l, 0 => by simp
  | d :: l, k + 1 => by rw [List.drop_succ_cons, flatN, flatN_drop l k, show (k + 1) * 2 = k * 2 + 1 + 1 by omega, List.drop_succ_cons, List.drop_succ_cons]
theorem TrRow.take {A : Option Addr} {n c : Nat} {l : List Pm} (h : TrRow w B (.slice A n c) l) {k : Nat} (hk : k ≤ l.length) : TrRow w B (.slice A (l.take k).length c) (l.take k) := by
  obtain ⟨⟨A', c', hv, h1, h2, h3, h4⟩, h5⟩ := h
  injection hv with e1 e2 e3
  subst e1 e3
  have hl : (l.take k).length = k := by simp; omega
  refine ⟨⟨A, c, rfl, by omega, h2, h3, fun hn => ?_⟩, fun d hd => h5 d (List.mem_of_mem_take hd)⟩
  obtain ⟨b, o, e, hb, hc⟩ := h4 (by omega)
  refine ⟨b, o, e, hb, fun i u hi => hc i u ?_⟩
  rw [flatN_take] at hi
  rw [List.getElem?_take] at hi
  split at hi
  · exact hi
  · cases hi
end
theorem at_pn {l : List Pm} {i : Nat} {d : Pm} (h : l[i]? = some d) : (l.map (·.p))[i]? = some d.p := by rw [List.getElem?_map, h]; rfl
theorem at_ev {l : List Em} {i : Nat} {d : Em} (h : l[i]? = some d) : (l.map (·.e))[i]? = some d.e := by rw [List.getElem?_map, h]; rfl
theorem getD_of {α : Type} [Inhabited α] {l : List α} {i : Nat} {a : α} (h : l[i]? = some a) : l.getD i default = a := by simp [List.getD, h]
end Go.Proofs.YtimihhcidbeonaaGreat

namespace Go.Proofs.YtimihhcidbeonaaGreat
section
variable {α : Type} [DecidableEq α]
/-- Where x stands first, from k on; -1. -/
def placeF (x : α) : List α → Nat → Int
  | [], _ => -1
  | t :: l, k => if t = x then (k : Int) else placeF x l (k + 1)
def placeD (l : List α) (x : α) : Int := placeF x l 0
theorem placeF_ways (x : α) : ∀ (l : List α) (k : Nat), (placeF x l k = -1 ∧ x ∉ l) ∨ ∃ j, j < l.length ∧ placeF x l k = ((k + j : Nat) : Int) ∧ l[j]? = some x ∧ ∀ i, i < j → l[i]? ≠ some x
  | [], _ => .inl ⟨rfl, by simp⟩
  | t :: l, k => by
    by_cases h : t = x
    · subst h
      exact .inr ⟨0, by simp, by simp [placeF], rfl, fun i hi => by omega⟩
    · rcases placeF_ways x l (k + 1) with ⟨h1, h2⟩ | ⟨j, h0, h1, h2, h3⟩
      · exact .inl ⟨by rw [placeF, if_neg h, h1], by simp [h2, Ne.symm h]⟩
      · refine .inr ⟨j + 1, by simp; omega, by rw [placeF, if_neg h, h1, Nat.add_right_comm, Nat.add_assoc], by simpa using h2, fun i hi => ?_⟩
        cases i with
        | zero => simp [h]
        | succ i => simpa using h3 i (by omega)
theorem placeD_ways (l : List α) (x : α) : (placeD l x = -1 ∧ x ∉ l) ∨ ∃ j : Nat, j < l.length ∧ placeD l x = (j : Int) ∧ l[j]? = some x ∧ ∀ i, i < j → l[i]? ≠ some x := by
  rcases placeF_ways x l 0 with h | ⟨j, h⟩
  · exact .inl h
  · rw [Nat.zero_add] at h
    exact .inr ⟨j, h⟩
/-- With a text put: the list, and the text's number. -/
def putD (l : List α) (x : α) : List α × Int := if placeD l x < 0 then (l ++ [x], (l.length : Int)) else (l, placeD l x)
theorem putD_new {l : List α} {x : α} (h : placeD l x = -1) : putD l x = (l ++ [x], (l.length : Int)) := by
  unfold putD
  rw [h, if_pos (by omega)]
theorem putD_old {l : List α} {x : α} {j : Nat} (h : placeD l x = (j : Int)) : putD l x = (l, (j : Int)) := by
  unfold putD
  rw [h, if_neg (by omega)]
theorem putD_nodup {l : List α} (x : α) (h : l.Nodup) : (putD l x).1.Nodup := by
  rcases placeD_ways l x with ⟨h1, h2⟩ | ⟨j, _, h1, _, _⟩
  · rw [putD_new h1]
    exact List.nodup_append.2 ⟨h, by simp, fun a ha b hb e => h2 (by rw [← List.mem_singleton.1 hb, ← e]; exact ha)⟩
  · rw [putD_old h1]
    exact h
theorem putD_length (l : List α) (x : α) : l.length ≤ (putD l x).1.length ∧ (putD l x).1.length ≤ l.length + 1 := by
  rcases placeD_ways l x with ⟨h1, h2⟩ | ⟨j, _, h1, _, _⟩
  · rw [putD_new h1]; simp
  · rw [putD_old h1]; simp
theorem putD_mem {l : List α} {x t : α} (h : t ∈ (putD l x).1) : t ∈ l ∨ t = x := by
  rcases placeD_ways l x with ⟨h1, h2⟩ | ⟨j, _, h1, _, _⟩
  · rw [putD_new h1] at h
    simpa using h
  · rw [putD_old h1] at h
    exact .inl h
end
def stepA (L : List (List Int)) (a : Ag) : List (List Int) := if a.t = 2 then (putD L a.s).1 else L
def addA (L : List (List Int)) (l : List Ag) : List (List Int) := l.foldl stepA L
def addE (L : List (List Int)) (l : List Em) : List (List Int) := l.foldl (fun L e => addA L e.args) L
def addT (L : List (List Int)) (l : List Pm) : List (List Int) := l.foldl (fun L p => addE L p.evs) L
theorem take_one {α : Type} {l : List α} {m : Nat} {x : α} (h : l[m]? = some x) : l.take (m + 1) = l.take m ++ [x] := by rw [List.take_add_one, h]; rfl
theorem addA_succ {L : List (List Int)} {l : List Ag} {k : Nat} {a : Ag} (h : l[k]? = some a) : addA L (l.take (k + 1)) = stepA (addA L (l.take k)) a := by rw [take_one h, addA, List.foldl_append]; rfl
theorem addE_succ {L : List (List Int)} {l : List Em} {k : Nat} {e : Em} (h : l[k]? = some e) : addE L (l.take (k + 1)) = addA (addE L (l.take k)) e.args := by rw [take_one h, addE, List.foldl_append]; rfl
theorem addT_succ {L : List (List Int)} {l : List Pm} {k : Nat} {p : Pm} (h : l[k]? = some p) : addT L (l.take (k + 1)) = addE (addT L (l.take k)) p.evs := by rw [take_one h, addT, List.foldl_append]; rfl
/-- How many arguments there are. -/
def nA (l : List Em) : Nat := l.foldr (fun e n => e.args.length + n) 0
def nT (l : List Pm) : Nat := l.foldr (fun p n => nA p.evs + n) 0
/-- A text that may be. -/
def TxOk (L : List (List Int)) : Prop := ∀ t ∈ L, t.length ≤ Go.maxLen ∧ ∀ x ∈ t, 0 ≤ x ∧ x < 256
structure DOk (L L' : List (List Int)) (n : Nat) : Prop where
  nodup : L.Nodup → L'.Nodup
  low : L.length ≤ L'.length
  high : L'.length ≤ L.length + n
theorem stepA_ok (L : List (List Int)) (a : Ag) : DOk L (stepA L a) 1 := by
  unfold stepA
  by_cases h : a.t = 2
  · rw [if_pos h]
    exact ⟨putD_nodup _, (putD_length _ _).1, (putD_length _ _).2⟩
  · rw [if_neg h]
    exact ⟨id, Nat.le_refl _, by omega⟩
theorem DOk.trans {L M N : List (List Int)} {a b c : Nat} (h : DOk L M a) (k : DOk M N b) (hc : a + b = c) : DOk L N c :=
  ⟨fun q => k.nodup (h.nodup q), Nat.le_trans h.low k.low, by have := h.high; have := k.high; omega⟩
theorem addA_ok : ∀ (l : List Ag) (L : List (List Int)), DOk L (addA L l) l.length
  | [], L => ⟨id, Nat.le_refl _, by simp [addA]⟩
  | a :: l, L => (stepA_ok L a).trans (addA_ok l (stepA L a)) (by simp; omega)
theorem addE_ok : ∀ (l : List Em) (L : List (List Int)), DOk L (addE L l) (nA l)
  | [], L => ⟨id, Nat.le_refl _, by simp [addE]⟩
  | a :: l, L => (addA_ok a.args L).trans (addE_ok l (addA L a.args)) rfl
theorem addT_ok : ∀ (l : List Pm) (L : List (List Int)), DOk L (addT L l) (nT l)
  | [], L => ⟨id, Nat.le_refl _, by simp [addT]⟩
  | a :: l, L => (addE_ok a.evs L).trans (addT_ok l (addE L a.evs)) rfl
theorem nA_at : ∀ (l : List Em) (k : Nat) (e : Em), l[k]? = some e → nA (l.take k) + e.args.length ≤ nA l
  | [], k, e, h => by simp at h
  | a :: l, 0, e, h => by
    simp only [List.getElem?_cons_zero, Option.some.injEq] at h
    subst h
    simp [nA]
  | a :: l, k + 1, e, h => by
    have := nA_at l k e (by simpa using h)
    simp only [nA, List.take_succ_cons, List.foldr_cons] at this ⊢
    omega
theorem nT_at : ∀ (l : List Pm) (k : Nat) (e : Pm), l[k]? = some e → nT (l.take k) + nA e.evs ≤ nT l
  | [], k, e, h => by simp at h
  | a :: l, 0, e, h => by
    simp only [List.getElem?_cons_zero, Option.some.injEq] at h
    subst h
    simp [nT]
  | a :: l, k + 1, e, h => by
    have := nT_at l k e (by simpa using h)
    simp only [nT, List.take_succ_cons, List.foldr_cons] at this ⊢
    omega
end Go.Proofs.YtimihhcidbeonaaGreat

namespace Go.Proofs.YtimihhcidbeonaaGreat
theorem encI_mono : ∀ (k m n : Nat), n < k → m ≤ n → (encI m).length ≤ (encI n).length
  | 0, _, _, h, _ => by omega
  | k + 1, m, n, h, hm => by
    by_cases h1 : m < 128
    · rw [encI_small h1]
      by_cases h2 : n < 128
      · rw [encI_small h2]; simp
      · rw [encI_great h2]; simp
    · have h2 : ¬ n < 128 := by omega
      rw [encI_great h1, encI_great h2, List.length_cons, List.length_cons]
      have := encI_mono k (m / 128) (n / 128) (by omega) (by omega)
      omega
theorem encI_one_at_least (n : Nat) : 1 ≤ (encI n).length := by
  by_cases h : n < 128
  · rw [encI_small h]; simp
  · rw [encI_great h]; simp
def tmAt (l : List Pm) (i : Nat) : Int := match l[i]? with
  | some p => p.tm
  | none => 0
def evsAt (l : List Pm) (i : Nat) : List Em := match l[i]? with
  | some p => p.evs
  | none => []
theorem tmAt_of {l : List Pm} {i : Nat} {p : Pm} (h : l[i]? = some p) : tmAt l i = p.tm := by unfold tmAt; rw [h]
theorem evsAt_of {l : List Pm} {i : Nat} {p : Pm} (h : l[i]? = some p) : evsAt l i = p.evs := by unfold evsAt; rw [h]
/-- What is put of an argument. -/
def argN (D : List (List Int)) (a : Ag) : Nat := if a.t = 1 then (foldI a.n).toNat else (placeD D a.s).toNat
def argsB (D : List (List Int)) (l : List Ag) : List Int := l.flatMap fun a => encI (argN D a)
def evB (D : List (List Int)) (e : Em) : List Int := encI e.p.toNat ++ argsB D e.args
def evlB (D : List (List Int)) (l : List Em) : List Int := l.flatMap (evB D)
def evsB (D : List (List Int)) (l : List Em) : List Int := encI l.length ++ evlB D l
def stepN (l : List Pm) (i : Nat) : Nat := (tmAt l i - tmAt l (i - 1)).toNat
def ptB (D : List (List Int)) (l : List Pm) (i : Nat) : List Int := (if 0 < i then encI (stepN l i) else []) ++ evsB D (evsAt l i)
def ptsB (D : List (List Int)) (l : List Pm) (k : Nat) : List Int := (List.range k).flatMap (ptB D l)
def dictB (D : List (List Int)) : List Int := encI D.length ++ catT D
def headB (l : List Pm) : List Int := encI l.length ++ dictB (addT [] l) ++ ptsB (addT [] l) l l.length
/-- The payload of points. -/
def payB (l : List Pm) : List Int := encI (tmAt l 0).toNat ++ headB l
theorem ptsB_zero (D : List (List Int)) (l : List Pm) : ptsB D l 0 = [] := rfl
theorem ptsB_succ (D : List (List Int)) (l : List Pm) (k : Nat) : ptsB D l (k + 1) = ptsB D l k ++ ptB D l k := by simp [ptsB, List.range_succ]
theorem argsB_succ {D : List (List Int)} {l : List Ag} {k : Nat} {a : Ag} (h : l[k]? = some a) : argsB D (l.take (k + 1)) = argsB D (l.take k) ++ encI (argN D a) := by rw [take_one h]; simp [argsB]
theorem evlB_succ {D : List (List Int)} {l : List Em} {k : Nat} {e : Em} (h : l[k]? = some e) : evlB D (l.take (k + 1)) = evlB D (l.take k) ++ evB D e := by rw [take_one h]; simp [evlB]
structure AOk (a : Ag) : Prop where
  kind : a.t = 1 ∨ a.t = 2
  len : a.s.length ≤ 200
  fits : a.Fits
structure EOk (e : Em) : Prop where
  low : 0 ≤ e.p
  high : e.p < 64
  few : e.args.length ≤ 8
  args : ∀ a ∈ e.args, AOk a
structure POk (p : Pm) : Prop where
  fits : p.Fits
  few : p.evs.length ≤ 1024
  evs : ∀ e ∈ p.evs, EOk e
structure BOk (l : List Pm) : Prop where
  few : l.length ≤ 1024
  pts : ∀ p ∈ l, POk p
  ord : ∀ i p q, l[i]? = some p → l[i + 1]? = some q → p.tm ≤ q.tm
theorem BOk.take {l : List Pm} (h : BOk l) (n : Nat) : BOk (l.take n) :=
  ⟨by rw [List.length_take]; have := h.few; omega, fun p hp => h.pts p (List.mem_of_mem_take hp), fun i p q h1 h2 => by
    rw [List.getElem?_take] at h1 h2
    split at h2
    · rename_i hlt
      rw [if_pos (by omega)] at h1
      exact h.ord i p q h1 h2
    · cases h2⟩
theorem argN_lt {D : List (List Int)} {a : Ag} (h : AOk a) (hD : D.length ≤ 1000000000) : argN D a < 18446744073709551616 := by
  unfold argN
  split
  · obtain ⟨_, _, _, h1, h2⟩ := h.fits
    obtain ⟨q1, q2⟩ := foldI_range h1 h2
    omega
  · rcases placeD_ways D a.s with ⟨q, _⟩ | ⟨j, h0, q, _⟩
    · rw [q]; decide
    · rw [q]; omega
theorem argsB_len {D : List (List Int)} (hD : D.length ≤ 1000000000) : ∀ (l : List Ag), (∀ a ∈ l, AOk a) → (argsB D l).length ≤ 10 * l.length
  | [], _ => by simp [argsB]
  | a :: l, h => by
    have h1 := argsB_len hD l (fun b hb => h b (List.mem_cons_of_mem _ hb))
    have h2 := (encI_ten (argN_lt (D := D) (h a (List.mem_cons_self ..)) hD)).2
    simp only [argsB, List.flatMap_cons, List.length_append, List.length_cons] at h1 ⊢
    omega
theorem evB_len {D : List (List Int)} (hD : D.length ≤ 1000000000) {e : Em} (h : EOk e) : (evB D e).length ≤ 90 := by
  have h1 := argsB_len hD e.args h.args
  have h2 := (encI_ten (n := e.p.toNat) (by have := h.high; omega)).2
  have := h.few
  simp only [evB, List.length_append]
  omega
theorem evlB_len {D : List (List Int)} (hD : D.length ≤ 1000000000) : ∀ (l : List Em), (∀ e ∈ l, EOk e) → (evlB D l).length ≤ 90 * l.length
  | [], _ => by simp [evlB]
  | a :: l, h => by
    have h1 := evlB_len hD l (fun b hb => h b (List.mem_cons_of_mem _ hb))
    have h2 := evB_len hD (h a (List.mem_cons_self ..))
    simp only [evlB, List.flatMap_cons, List.length_append, List.length_cons] at h1 ⊢
    omega
theorem evsB_len {D : List (List Int)} (hD : D.length ≤ 1000000000) {p : Pm} (h : POk p) : 1 ≤ (evsB D p.evs).length ∧ (evsB D p.evs).length ≤ 92170 := by
  have h1 := evlB_len hD p.evs h.evs
  have h2 := (encI_ten (n := p.evs.length) (by have := h.few; omega)).2
  have h3 := encI_one_at_least p.evs.length
  have := h.few
  simp only [evsB, List.length_append]
  omega
theorem stepN_lt {l : List Pm} (h : ∀ p ∈ l, POk p) (i : Nat) : stepN l i < 18446744073709551616 := by
  have key : ∀ j, 0 ≤ tmAt l j ∧ tmAt l j < 18446744073709551616 := fun j => by
    unfold tmAt
    cases hj : l[j]? with
    | none => exact ⟨Int.le_refl _, by decide⟩
    | some p => exact (h p (List.mem_of_getElem? hj)).fits
  have h1 := key i
  have h2 := key (i - 1)
  unfold stepN
  omega
theorem ptB_len {D : List (List Int)} (hD : D.length ≤ 1000000000) {l : List Pm} (h : ∀ p ∈ l, POk p) {i : Nat} (hi : i < l.length) : 1 ≤ (ptB D l i).length ∧ (ptB D l i).length ≤ 92180 := by
  have h1 := evsB_len hD (h _ (List.getElem_mem hi))
  rw [← evsAt_of (List.getElem?_eq_getElem hi)] at h1
  have h2 := (encI_ten (stepN_lt h i)).2
  simp only [ptB, List.length_append]
  split
  · omega
  · simp; omega
theorem ptsB_len {D : List (List Int)} (hD : D.length ≤ 1000000000) {l : List Pm} (h : ∀ p ∈ l, POk p) : ∀ k, k ≤ l.length → (ptsB D l k).length ≤ 92180 * k
  | 0, _ => by simp [ptsB]
  | k + 1, hk => by
    have h1 := ptsB_len hD h k (by omega)
    have h2 := (ptB_len hD h (i := k) (by omega)).2
    rw [ptsB_succ, List.length_append]
    omega
theorem nA_le : ∀ l : List Em, (∀ e ∈ l, EOk e) → nA l ≤ 8 * l.length
  | [], _ => by simp [nA]
  | e :: l, h => by
    have h1 := nA_le l (fun b hb => h b (List.mem_cons_of_mem _ hb))
    have h2 := (h e (List.mem_cons_self ..)).few
    simp only [nA, List.foldr_cons, List.length_cons] at h1 ⊢
    omega
theorem nT_le : ∀ l : List Pm, (∀ p ∈ l, POk p) → nT l ≤ 8192 * l.length
  | [], _ => by simp [nT]
  | p :: l, h => by
    have h1 := nT_le l (fun b hb => h b (List.mem_cons_of_mem _ hb))
    have h2 := nA_le p.evs (h p (List.mem_cons_self ..)).evs
    have h3 := (h p (List.mem_cons_self ..)).few
    simp only [nT, List.foldr_cons, List.length_cons] at h1 ⊢
    omega
/-- Texts of at most 200 bytes. -/
def Tx200 (L : List (List Int)) : Prop := ∀ t ∈ L, t.length ≤ 200 ∧ ∀ x ∈ t, 0 ≤ x ∧ x < 256
theorem addA_200 : ∀ (l : List Ag) (L : List (List Int)), Tx200 L → (∀ a ∈ l, AOk a) → Tx200 (addA L l)
  | [], _, h, _ => h
  | a :: l, L, h, hl => by
    refine addA_200 l (stepA L a) ?_ (fun b hb => hl b (List.mem_cons_of_mem _ hb))
    have ha := hl a (List.mem_cons_self ..)
    unfold stepA
    split
    · intro t ht
      rcases putD_mem ht with h1 | rfl
      · exact h t h1
      · exact ⟨ha.len, ha.fits.2.1⟩
    · exact h
theorem addE_200 : ∀ (l : List Em) (L : List (List Int)), Tx200 L → (∀ e ∈ l, EOk e) → Tx200 (addE L l)
  | [], _, h, _ => h
  | e :: l, L, h, hl => addE_200 l (addA L e.args) (addA_200 _ _ h (hl e (List.mem_cons_self ..)).args) (fun b hb => hl b (List.mem_cons_of_mem _ hb))
theorem addT_200 : ∀ (l : List Pm) (L : List (List Int)), Tx200 L → (∀ p ∈ l, POk p) → Tx200 (addT L l)
  | [], _, h, _ => h
  | p :: l, L, h, hl => addT_200 l (addE L p.evs) (addE_200 _ _ h (hl p (List.mem_cons_self ..)).evs) (fun b hb => hl b (List.mem_cons_of_mem _ hb))
theorem BOk.dict {l : List Pm} (h : BOk l) : (addT [] l).length ≤ 8388608 ∧ Tx200 (addT [] l) := by
  have h1 := (addT_ok l []).high
  have h2 := nT_le l h.pts
  have h3 := h.few
  simp only [List.length_nil] at h1
  exact ⟨by omega, addT_200 l [] (fun t ht => by simp at ht) h.pts⟩
theorem dictB_len {D : List (List Int)} (h1 : D.length ≤ 8388608) (h2 : Tx200 D) : (dictB D).length ≤ 1761607690 := by
  have h3 := (encI_ten (n := D.length) (by omega)).2
  have h4 := catT_le 200 (by decide) D (fun t ht => (h2 t ht).1)
  simp only [dictB, List.length_append]
  omega
theorem headB_len {l : List Pm} (h : BOk l) : (headB l).length ≤ 1856000020 := by
  obtain ⟨h1, h2⟩ := h.dict
  have h3 := dictB_len h1 h2
  have h4 := ptsB_len (D := addT [] l) (by omega) h.pts l.length (Nat.le_refl _)
  have h5 := (encI_ten (n := l.length) (by have := h.few; omega)).2
  have := h.few
  simp only [headB, List.length_append]
  omega
theorem payB_len {l : List Pm} (h : BOk l) : (payB l).length ≤ 1856000030 := by
  have h1 := headB_len h
  have h2 : (encI (tmAt l 0).toNat).length ≤ 10 := by
    refine (encI_ten ?_).2
    unfold tmAt
    cases hj : l[0]? with
    | none => decide
    | some p => have := (h.pts p (List.mem_of_getElem? hj)).fits; unfold Pm.Fits at this; dsimp only; omega
  simp only [payB, List.length_append]
  omega
theorem stepA_more (L : List (List Int)) (a : Ag) : ∃ X, stepA L a = L ++ X := by
  unfold stepA putD
  split
  · split
    · exact ⟨_, rfl⟩
    · exact ⟨[], by simp⟩
  · exact ⟨[], by simp⟩
theorem addA_more : ∀ (l : List Ag) (L : List (List Int)), ∃ X, addA L l = L ++ X
  | [], L => ⟨[], by simp [addA]⟩
  | a :: l, L => by
    obtain ⟨X, hX⟩ := stepA_more L a
    obtain ⟨Y, hY⟩ := addA_more l (stepA L a)
    exact ⟨X ++ Y, by rw [show addA L (a :: l) = addA (stepA L a) l from rfl, hY, hX, List.append_assoc]⟩
theorem addE_more : ∀ (l : List Em) (L : List (List Int)), ∃ X, addE L l = L ++ X
  | [], L => ⟨[], by simp [addE]⟩
  | a :: l, L => by
    obtain ⟨X, hX⟩ := addA_more a.args L
    obtain ⟨Y, hY⟩ := addE_more l (addA L a.args)
    exact ⟨X ++ Y, by rw [show addE L (a :: l) = addE (addA L a.args) l from rfl, hY, hX, List.append_assoc]⟩
theorem addT_more : ∀ (l : List Pm) (L : List (List Int)), ∃ X, addT L l = L ++ X
  | [], L => ⟨[], by simp [addT]⟩
  | a :: l, L => by
    obtain ⟨X, hX⟩ := addE_more a.evs L
    obtain ⟨Y, hY⟩ := addT_more l (addE L a.evs)
    exact ⟨X ++ Y, by rw [show addT L (a :: l) = addT (addE L a.evs) l from rfl, hY, hX, List.append_assoc]⟩
theorem placeF_more (x : List Int) (X : List (List Int)) : ∀ (D : List (List Int)) (k : Nat), x ∈ D → placeF x (D ++ X) k = placeF x D k
  | [], _, h => by simp at h
  | t :: D, k, h => by
    simp only [List.cons_append, placeF]
    split
    · rfl
    · rename_i hne
      exact placeF_more x X D (k + 1) ((List.mem_cons.1 h).resolve_left (Ne.symm hne))
theorem argN_more {D X : List (List Int)} {a : Ag} (h : a.t = 2 → a.s ∈ D) (hk : a.t = 1 ∨ a.t = 2) : argN (D ++ X) a = argN D a := by
  unfold argN
  split
  · rfl
  · rename_i h1
    unfold placeD
    rw [placeF_more a.s X D 0 (h (hk.resolve_left h1))]
theorem putD_has {D : List (List Int)} {x : List Int} : x ∈ (putD D x).1 := by
  rcases placeD_ways D x with ⟨h1, h2⟩ | ⟨j, _, h1, h2, _⟩
  · rw [putD_new h1]; simp
  · rw [putD_old h1]; exact List.mem_of_getElem? h2
theorem addA_has : ∀ (l : List Ag) (L : List (List Int)), ∀ a ∈ l, a.t = 2 → a.s ∈ addA L l
  | [], _, a, h, _ => by simp at h
  | b :: l, L, a, h, ht => by
    rw [show addA L (b :: l) = addA (stepA L b) l from rfl]
    rcases List.mem_cons.1 h with rfl | h
    · obtain ⟨X, hX⟩ := addA_more l (stepA L a)
      rw [hX, stepA, if_pos ht]
      exact List.mem_append.2 (.inl putD_has)
    · exact addA_has l _ a h ht
theorem addE_has : ∀ (l : List Em) (L : List (List Int)), ∀ e ∈ l, ∀ a ∈ e.args, a.t = 2 → a.s ∈ addE L l
  | [], _, e, h, _, _, _ => by simp at h
  | b :: l, L, e, h, a, ha, ht => by
    rw [show addE L (b :: l) = addE (addA L b.args) l from rfl]
    rcases List.mem_cons.1 h with rfl | h
    · obtain ⟨X, hX⟩ := addE_more l (addA L e.args)
      rw [hX]
      exact List.mem_append.2 (.inl (addA_has _ _ a ha ht))
    · exact addE_has l _ e h a ha ht
theorem addT_has : ∀ (l : List Pm) (L : List (List Int)), ∀ p ∈ l, ∀ e ∈ p.evs, ∀ a ∈ e.args, a.t = 2 → a.s ∈ addT L l
  | [], _, p, h, _, _, _, _, _ => by simp at h
  | b :: l, L, p, h, e, he, a, ha, ht => by
    rw [show addT L (b :: l) = addT (addE L b.evs) l from rfl]
    rcases List.mem_cons.1 h with rfl | h
    · obtain ⟨X, hX⟩ := addT_more l (addE L p.evs)
      rw [hX]
      exact List.mem_append.2 (.inl (addE_has _ _ e he a ha ht))
    · exact addT_has l _ p h e he a ha ht
theorem flatMap_same {α β : Type} {f g : α → List β} {l : List α} (h : ∀ a ∈ l, f a = g a) : l.flatMap f = l.flatMap g := by
  induction l with
  | nil => rfl
  | cons a l ih => rw [List.flatMap_cons, List.flatMap_cons, h a (List.mem_cons_self ..), ih fun b hb => h b (List.mem_cons_of_mem _ hb)]
theorem evsB_more {D X : List (List Int)} {l : List Em} (h : ∀ e ∈ l, ∀ a ∈ e.args, (a.t = 2 → a.s ∈ D) ∧ (a.t = 1 ∨ a.t = 2)) : evsB (D ++ X) l = evsB D l := by
  unfold evsB evlB
  rw [flatMap_same (g := evB D) fun e he => ?_]
  unfold evB argsB
  rw [flatMap_same (g := fun a => encI (argN D a)) fun a ha => ?_]
  rw [argN_more (h e he a ha).1 (h e he a ha).2]
theorem payB_longer {l : List Pm} (h : BOk l) {n : Nat} (h1 : 1 ≤ n) (hn : n < l.length) : (payB (l.take n)).length < (payB (l.take (n + 1))).length := by
  obtain ⟨p, hp⟩ : ∃ p, l[n]? = some p := ⟨_, List.getElem?_eq_getElem hn⟩
  have hT : addT [] (l.take (n + 1)) = addE (addT [] (l.take n)) p.evs := addT_succ hp
  obtain ⟨X, hX⟩ := addE_more p.evs (addT [] (l.take n))
  have hat : ∀ i, i < n → (l.take n)[i]? = l[i]? ∧ (l.take (n + 1))[i]? = l[i]? := fun i hi => ⟨by rw [List.getElem?_take, if_pos hi], by rw [List.getElem?_take, if_pos (by omega)]⟩
  have htm : ∀ i, i < n → tmAt (l.take (n + 1)) i = tmAt (l.take n) i := fun i hi => by unfold tmAt; rw [(hat i hi).1, (hat i hi).2]
  have hev : ∀ i, i < n → evsAt (l.take (n + 1)) i = evsAt (l.take n) i := fun i hi => by unfold evsAt; rw [(hat i hi).1, (hat i hi).2]
  have hl1 : (l.take n).length = n := by rw [List.length_take]; omega
  have hl2 : (l.take (n + 1)).length = n + 1 := by rw [List.length_take]; omega
  have hB := h.take n
  have hpt : ∀ i, i < n → ptB (addT [] (l.take (n + 1))) (l.take (n + 1)) i = ptB (addT [] (l.take n)) (l.take n) i := fun i hi => by
    obtain ⟨q, hq⟩ : ∃ q, (l.take n)[i]? = some q := ⟨_, List.getElem?_eq_getElem (by omega)⟩
    have hm := List.mem_of_getElem? hq
    unfold ptB stepN
    rw [hev i hi, htm i hi, htm (i - 1) (by omega), hT, hX, evsAt_of hq, evsB_more fun e he a ha => ⟨addT_has _ _ q hm e he a ha, (((hB.pts q hm).evs e he).args a ha).kind⟩]
  have hpts : ∀ k, k ≤ n → ptsB (addT [] (l.take (n + 1))) (l.take (n + 1)) k = ptsB (addT [] (l.take n)) (l.take n) k := fun k => by
    induction k with
    | zero => intro _; rfl
    | succ k ih => intro hk; rw [ptsB_succ, ptsB_succ, ih (by omega), hpt k (by omega)]
  have hlast := (ptB_len (D := addT [] (l.take (n + 1))) (by have := ((h.take (n + 1)).dict).1; omega) (h.take (n + 1)).pts (i := n) (by omega)).1
  unfold payB headB
  rw [htm 0 (by omega), hl1, hl2, ptsB_succ, hpts n (Nat.le_refl _)]
  generalize ptB (addT [] (l.take (n + 1))) (l.take (n + 1)) n = P at hlast ⊢
  rw [hT, hX]
  have m1 := encI_mono (n + 2) n (n + 1) (by omega) (by omega)
  have m2 := encI_mono ((addT [] (l.take n) ++ X).length + 1) (addT [] (l.take n)).length (addT [] (l.take n) ++ X).length (by omega) (by simp)
  simp only [dictB, catT, List.flatMap_append, List.length_append] at m2 ⊢
  omega
theorem catT_take_le (L : List (List Int)) (k : Nat) : (catT (L.take k)).length ≤ (catT L).length := by
  have h : catT L = catT (L.take k) ++ catT (L.drop k) := by unfold catT; rw [← List.flatMap_append, List.take_append_drop]
  rw [h, List.length_append]
  omega
theorem flatMap_take_le {α β : Type} (f : α → List β) (l : List α) (k : Nat) : ((l.take k).flatMap f).length ≤ (l.flatMap f).length := by
  have h : l.flatMap f = (l.take k).flatMap f ++ (l.drop k).flatMap f := by rw [← List.flatMap_append, List.take_append_drop]
  rw [h, List.length_append]
  omega
theorem placeD_in {L : List (List Int)} {s : List Int} (h : s ∈ L) : placeD L s = ((placeD L s).toNat : Int) := by
  rcases placeD_ways L s with ⟨_, h1⟩ | ⟨j, _, h1, _⟩
  · exact absurd h h1
  · rw [h1]; rfl
end Go.Proofs.YtimihhcidbeonaaGreat
namespace Go.Proofs.YtimihhcidbeonaaGreat
theorem whyG_zero {t : Int} {a : Ag} (h : whyG t a = 0) : a.t = t ∧ a.s.length ≤ 200 := by
  unfold whyG at h
  split at h
  · cases h
  · rename_i h1
    refine ⟨by simpa using h1, ?_⟩
    split at h
    · cases h
    · split at h
      · cases h
      · split at h
        · cases h
        · omega
theorem eok_of {sig : List Pr} (hs : checkP sig = 0) {e : Em} (h : eventT sig e.e = 0) (hf : ∀ a ∈ e.args, a.Fits) : EOk e := by
  obtain ⟨h1, h2⟩ := checkP_zero.1 hs
  by_cases hp : e.p < 0 ∨ (sig.length : Int) ≤ e.p
  · rw [eventT_name hp] at h
    cases h
  · obtain ⟨p, hp'⟩ : ∃ p, sig[e.p.toNat]? = some p := ⟨_, List.getElem?_eq_getElem (by omega)⟩
    obtain ⟨_, _, o1, o2⟩ := h2 _ p hp'
    rw [eventT_has (k := e.p.toNat) (by show e.p = _; omega) hp'] at h
    split at h
    · cases h
    · rename_i hl
      have hl : e.args.length = p.args.length := by simpa using hl
      refine ⟨by omega, by omega, by omega, fun a ha => ?_⟩
      obtain ⟨i, hi⟩ := List.mem_iff_getElem?.1 ha
      have hil := (List.getElem?_eq_some_iff.1 hi).1
      have hw := firstWhy_zero _ _ h i (Nat.zero_le _) (by show i < 0 + e.args.length; omega)
      rw [show e.e.args.getD i default = a from getD_of hi] at hw
      obtain ⟨w1, w2⟩ := whyG_zero hw
      have ht := o2 (p.args.getD i 0) (by rw [List.getD, List.getElem?_eq_getElem (by omega)]; exact List.getElem_mem (by omega))
      exact ⟨by omega, w2, hf a ha⟩
/-- What points that are of a signature are. -/
theorem bok_of {sig : List Pr} {l : List Pm} (h : (checkT sig (l.map (·.p))).1 = 0) (hlen : l.length ≤ 1024) (hf : ∀ p ∈ l, p.Fits ∧ ∀ e ∈ p.evs, ∀ a ∈ e.args, a.Fits) : BOk l := by
  obtain ⟨hs, hw⟩ := checkT_zero.1 h
  have hat : ∀ (i : Nat) (p : Pm), l[i]? = some p → (l.map (·.p)).getD i default = p.p := fun i p hi => getD_of (at_pn hi)
  have hE : ∀ (i : Nat) (p : Pm), l[i]? = some p → ¬ (0 < i ∧ p.tm < ((l.map (·.p)).getD (i - 1) default).tm) ∧ whyE sig (p.evs.map (·.e)) = 0 := fun i p hi => by
    have hil := (List.getElem?_eq_some_iff.1 hi).1
    have := hw i (by rw [List.length_map]; exact hil)
    unfold whyT at this
    rw [hat i p hi] at this
    split at this
    · cases this
    · rename_i h1
      exact ⟨h1, this⟩
  refine ⟨hlen, fun p hp => ?_, fun i p q h1 h2 => ?_⟩
  · obtain ⟨i, hi⟩ := List.mem_iff_getElem?.1 hp
    have h1 := (hE i p hi).2
    unfold whyE at h1
    split at h1
    · cases h1
    · rename_i hl
      rw [List.length_map] at hl h1
      refine ⟨(hf p hp).1, by omega, fun e he => ?_⟩
      obtain ⟨k, hk⟩ := List.mem_iff_getElem?.1 he
      have hkl := (List.getElem?_eq_some_iff.1 hk).1
      have := firstWhy_zero _ _ h1 k (Nat.zero_le _) (by omega)
      rw [getD_of (at_ev hk)] at this
      exact eok_of hs this ((hf p hp).2 e he)
  · have := (hE (i + 1) q h2).1
    rw [Nat.add_sub_cancel, hat i p h1] at this
    have : ¬ q.tm < p.tm := fun h => this ⟨Nat.succ_pos i, h⟩
    omega
/-- Why points have no payload, however long; 0. -/
def checkB (sig : List Pr) (l : List Pm) : Int := if l.length = 0 then 1 else if (checkT sig (l.map (·.p))).1 ≠ 0 then (checkT sig (l.map (·.p))).1 else if 1024 < l.length then 6 else 0
def wholeB (sig : List Pr) (l : List Pm) : List Int × Int := if checkB sig l = 0 then (payB l, 0) else ([], checkB sig l)
def putB (sig : List Pr) (l : List Pm) : List Int × Int := if checkB sig l = 0 then (if 4096 < (payB l).length then ([], 6) else (payB l, 0)) else ([], checkB sig l)
theorem checkB_zero {sig : List Pr} {l : List Pm} (h : checkB sig l = 0) : 0 < l.length ∧ (checkT sig (l.map (·.p))).1 = 0 ∧ l.length ≤ 1024 := by
  unfold checkB at h
  split at h
  · cases h
  · split at h
    · rename_i h2
      exact absurd h h2
    · rename_i h1 h2
      split at h
      · cases h
      · exact ⟨by omega, by simpa using h2, by omega⟩
theorem TrRow.fits {w : World} {B : Nat} {v : Value} {l : List Pm} (h : TrRow w B v l) : ∀ p ∈ l, p.Fits ∧ ∀ e ∈ p.evs, ∀ a ∈ e.args, a.Fits := fun p hp => ⟨(h.2 p hp).2, fun e he a ha => ((h.2 p hp).1.2 e he).1.2 a ha⟩
theorem TrRow.bok {w : World} {B : Nat} {v : Value} {l : List Pm} {sig : List Pr} (h : TrRow w B v l) (hc : checkB sig l = 0) : BOk l := by
  obtain ⟨_, h1, h2⟩ := checkB_zero hc
  exact bok_of h1 h2 h.fits
theorem argsB_byte {D : List (List Int)} (hD : D.length ≤ 1000000000) {l : List Ag} (h : ∀ a ∈ l, AOk a) : ∀ x ∈ argsB D l, 0 ≤ x ∧ x < 256 := fun x hx => by
  obtain ⟨a, ha, hx⟩ := List.mem_flatMap.1 hx
  exact encI_bytes (argN_lt (D := D) (h a ha) hD) x hx
theorem evsB_byte {D : List (List Int)} (hD : D.length ≤ 1000000000) {p : Pm} (h : POk p) : ∀ x ∈ evsB D p.evs, 0 ≤ x ∧ x < 256 := fun x hx => by
  rcases List.mem_append.1 hx with hx | hx
  · exact encI_bytes (by have := h.few; omega) x hx
  · obtain ⟨e, he, hx⟩ := List.mem_flatMap.1 hx
    rcases List.mem_append.1 hx with hx | hx
    · exact encI_bytes (by have := (h.evs e he).high; omega) x hx
    · exact argsB_byte hD (h.evs e he).args x hx
theorem payB_bytes {l : List Pm} (h : BOk l) : ∀ x ∈ payB l, 0 ≤ x ∧ x < 256 := fun x hx => by
  obtain ⟨h1, h2⟩ := h.dict
  have htm : (tmAt l 0).toNat < 18446744073709551616 := by
    unfold tmAt
    cases hj : l[0]? with
    | none => decide
    | some p => have := (h.pts p (List.mem_of_getElem? hj)).fits; unfold Pm.Fits at this; dsimp only; omega
  simp only [payB, headB, dictB, List.mem_append] at hx
  rcases hx with hx | (hx | hx | hx) | hx
  · exact encI_bytes htm x hx
  · exact encI_bytes (by have := h.few; omega) x hx
  · exact encI_bytes (by omega) x hx
  · obtain ⟨t, ht, hx⟩ := List.mem_flatMap.1 hx
    exact encT_bytes (by have := (h2 t ht).1; omega) (h2 t ht).2 x hx
  · obtain ⟨i, hi, hx⟩ := List.mem_flatMap.1 hx
    have hi := List.mem_range.1 hi
    rcases List.mem_append.1 hx with hx | hx
    · split at hx
      · exact encI_bytes (stepN_lt h.pts i) x hx
      · simp at hx
    · rw [evsAt_of (List.getElem?_eq_getElem hi)] at hx
      exact evsB_byte (by omega) (h.pts _ (List.getElem_mem hi)) x hx
theorem putB_ok {sig : List Pr} {l : List Pm} (h : (putB sig l).2 = 0) : checkB sig l = 0 ∧ (payB l).length ≤ 4096 ∧ putB sig l = (payB l, 0) := by
  unfold putB at h
  split at h
  · rename_i h1
    split at h
    · cases h
    · rename_i h2
      exact ⟨h1, by omega, by rw [putB, if_pos h1, if_neg h2]⟩
  · rename_i h1
    exact absurd h h1
end Go.Proofs.YtimihhcidbeonaaGreat

namespace Go.Proofs.YtimihhcidbeonaaGreat
set_option linter.unusedVariables false
/-- Steps, one behind the other: what each gives, and the state behind them. -/
def stepsU {α σ : Type} (f : Nat → σ → α × σ) (s : σ) : Nat → List α × σ
  | 0 => ([], s)
  | j + 1 => ((stepsU f s j).1 ++ [(f j (stepsU f s j).2).1], (f j (stepsU f s j).2).2)
section
variable {α σ : Type} {f g : Nat → σ → α × σ} {s : σ}
theorem stepsU_length : ∀ n, (stepsU f s n).1.length = n
  | 0 => rfl
  | n + 1 => by rw [stepsU, List.length_append, stepsU_length n]; rfl
theorem stepsU_inv {I : σ → Prop} (h0 : I s) (h : ∀ j s, I s → I (f j s).2) : ∀ n, I (stepsU f s n).2
  | 0 => h0
  | n + 1 => h n _ (stepsU_inv h0 h n)
theorem stepsU_all {I : σ → Prop} {P : α → Prop} (h0 : I s) (h : ∀ j s, I s → I (f j s).2 ∧ P (f j s).1) : ∀ n, ∀ a ∈ (stepsU f s n).1, P a
  | 0, a, ha => by simp [stepsU] at ha
  | n + 1, a, ha => by
    rw [stepsU] at ha
    rcases List.mem_append.1 ha with ha | ha
    · exact stepsU_all h0 h n a ha
    · rw [List.mem_singleton.1 ha]
      exact (h n _ (stepsU_inv h0 (fun j s hs => (h j s hs).1) n)).2
/-- Behind an error it stays. -/
theorem stepsU_stop {er : σ → Int} (h : ∀ j s, er s ≠ 0 → er (f j s).2 = er s) {k : Nat} (he : er (stepsU f s k).2 ≠ 0) : ∀ n, k ≤ n → er (stepsU f s n).2 = er (stepsU f s k).2
  | 0, hk => by rw [Nat.le_zero.1 hk]
  | n + 1, hk => by
    by_cases hkn : k = n + 1
    · rw [hkn]
    · have ih := stepsU_stop h he n (by omega)
      rw [stepsU]
      exact (h n _ (by rw [ih]; exact he)).trans ih
theorem stepsU_there {S : Nat → σ} {l : List α} (h : ∀ j a, l[j]? = some a → f j (S j) = (a, S (j + 1))) : ∀ n, n ≤ l.length → stepsU f (S 0) n = (l.take n, S n)
  | 0, _ => by simp [stepsU]
  | n + 1, hn => by
    have hl : l[n]? = some (l[n]'(by omega)) := List.getElem?_eq_getElem (by omega)
    rw [stepsU, stepsU_there h n (by omega), h n _ hl, take_one hl]
end
abbrev m64 : Int := 18446744073709551615
def stU (e q : Int) : Int := if e = 0 then q else e
theorem stU_kept {e : Int} (h : e ≠ 0) (q : Int) : stU e q = e := if_neg h
/-- The next number, the next number unfolded, the next text. -/
def nx (m : Int) (xs : List Int) (p : Nat) (e : Int) : Int × Nat × Int := tk 0 p e (getN m (xs.drop p))
def sx (xs : List Int) (p : Nat) (e : Int) : Int × Nat × Int := tk 0 p e (getS (xs.drop p))
def tx (xs : List Int) (p : Nat) (e : Int) : List Int × Nat × Int := tk [] p e (getT 200 (xs.drop p))
def txtU (D : List (List Int)) (xs : List Int) (p : Nat) (e : Int) : List Int × Nat × Int :=
  if (D.length : Int) ≤ (nx m64 xs p e).1 then ([], (nx m64 xs p e).2.1, stU (nx m64 xs p e).2.2 10) else (D.getD (nx m64 xs p e).1.toNat [], (nx m64 xs p e).2)
def argU (D : List (List Int)) (t : Int) (xs : List Int) (p : Nat) (e : Int) : Ag × Nat × Int :=
  if t = 1 then (⟨t, (sx xs p e).1, []⟩, (sx xs p e).2) else (⟨t, 0, (txtU D xs p e).1⟩, (txtU D xs p e).2)
def argsU (D : List (List Int)) (ts xs : List Int) (s : Nat × Int) (n : Nat) : List Ag × Nat × Int := stepsU (fun j s => argU D (ts.getD j 0) xs s.1 s.2) s n
def evU (sig : List Pr) (D : List (List Int)) (xs : List Int) (p : Nat) (e : Int) : Ev × Nat × Int :=
  if (sig.length : Int) ≤ (nx m64 xs p e).1 then (⟨0, []⟩, (nx m64 xs p e).2.1, stU (nx m64 xs p e).2.2 9)
  else (⟨(nx m64 xs p e).1, (argsU D (sig.getD (nx m64 xs p e).1.toNat default).args xs (nx m64 xs p e).2 (sig.getD (nx m64 xs p e).1.toNat default).args.length).1⟩,
    (argsU D (sig.getD (nx m64 xs p e).1.toNat default).args xs (nx m64 xs p e).2 (sig.getD (nx m64 xs p e).1.toNat default).args.length).2)
def evnU (sig : List Pr) (D : List (List Int)) (xs : List Int) (s : Nat × Int) (n : Nat) : List Ev × Nat × Int := stepsU (fun _ s => evU sig D xs s.1 s.2) s n
def evsU (sig : List Pr) (D : List (List Int)) (xs : List Int) (p : Nat) (e : Int) : List Ev × Nat × Int := evnU sig D xs (nx 1024 xs p e).2 (nx 1024 xs p e).1.toNat
def laterU (xs : List Int) (tm : Int) (p : Nat) (e : Int) : Int × Nat × Int :=
  ((tm + (nx m64 xs p e).1) % 18446744073709551616, (nx m64 xs p e).2.1, if m64 - tm < (nx m64 xs p e).1 then stU (nx m64 xs p e).2.2 8 else (nx m64 xs p e).2.2)
def whenU (xs : List Int) (i : Nat) (s : Int × Nat × Int) : Int × Nat × Int := if i = 0 then s else laterU xs s.1 s.2.1 s.2.2
def ptU (sig : List Pr) (D : List (List Int)) (xs : List Int) (i : Nat) (s : Int × Nat × Int) : Pn × Int × Nat × Int :=
  (⟨(whenU xs i s).1, (evsU sig D xs (whenU xs i s).2.1 (whenU xs i s).2.2).1⟩, (whenU xs i s).1, (evsU sig D xs (whenU xs i s).2.1 (whenU xs i s).2.2).2)
def ptsU (sig : List Pr) (D : List (List Int)) (xs : List Int) (s : Int × Nat × Int) (n : Nat) : List Pn × Int × Nat × Int := stepsU (ptU sig D xs) s n
def countU (xs : List Int) (p : Nat) (e : Int) : Int × Nat × Int := ((nx 1024 xs p e).1, (nx 1024 xs p e).2.1, if (nx 1024 xs p e).1 = 0 then stU (nx 1024 xs p e).2.2 4 else (nx 1024 xs p e).2.2)
def txsU (xs : List Int) (s : Nat × Int) (n : Nat) : List (List Int) × Nat × Int := stepsU (fun _ s => tx xs s.1 s.2) s n
def dictU (xs : List Int) (p : Nat) (e : Int) : List (List Int) × Nat × Int := txsU xs (nx 4096 xs p e).2 (nx 4096 xs p e).1.toNat
/-- The first time, how many points, the texts; then the points. -/
def baseU (xs : List Int) : Int × Nat × Int := nx m64 xs 0 0
def cntU (xs : List Int) : Int × Nat × Int := countU xs (baseU xs).2.1 (baseU xs).2.2
def dicU (xs : List Int) : List (List Int) × Nat × Int := dictU xs (cntU xs).2.1 (cntU xs).2.2
def readU (sig : List Pr) (xs : List Int) : List Pn × Int × Nat × Int := ptsU sig (dicU xs).1 xs ((baseU xs).1, (dicU xs).2) (cntU xs).1.toNat
def bareE (e : Ev) : Em := ⟨e.p, e.args, none, 0⟩
def bareP (p : Pn) : Pm := ⟨p.tm, p.evs.map bareE, none, 0⟩
def bare (d : Pm) : Pm := bareP d.p
theorem bareP_p (p : Pn) : (bareP p).p = p := by
  obtain ⟨t, l⟩ := p
  simp only [bareP, Pm.p, List.map_map]
  congr 1
  rw [show ((fun x : Em => x.e) ∘ bareE) = id from rfl, List.map_id]
theorem map_bare_p (l : List Pn) : (l.map bareP).map (·.p) = l := by
  rw [List.map_map, show ((fun x : Pm => x.p) ∘ bareP) = id from funext bareP_p, List.map_id]
theorem addE_bare : ∀ (l : List Em) (L : List (List Int)), addE L (l.map fun e => bareE e.e) = addE L l
  | [], _ => rfl
  | e :: l, L => addE_bare l (addA L e.args)
theorem addT_bare : ∀ (l : List Pm) (L : List (List Int)), addT L (l.map bare) = addT L l
  | [], _ => rfl
  | p :: l, L => by
    show addT (addE L (bare p).evs) (l.map bare) = addT (addE L p.evs) l
    rw [show (bare p).evs = p.evs.map fun e => bareE e.e by simp [bare, bareP, List.map_map], addE_bare]
    exact addT_bare l _
theorem evsB_bare (D : List (List Int)) (p : Pm) : evsB D (bare p).evs = evsB D p.evs := by
  rw [show (bare p).evs = p.evs.map fun e => bareE e.e by simp [bare, bareP, List.map_map]]
  unfold evsB evlB
  rw [List.length_map, List.flatMap_map]
  rfl
theorem bare_at (l : List Pm) (i : Nat) : (l.map bare)[i]? = (l[i]?).map bare := List.getElem?_map
theorem tmAt_bare (l : List Pm) (i : Nat) : tmAt (l.map bare) i = tmAt l i := by
  unfold tmAt
  rw [bare_at]
  cases l[i]? <;> rfl
theorem ptB_bare (D : List (List Int)) (l : List Pm) (i : Nat) : ptB D (l.map bare) i = ptB D l i := by
  unfold ptB stepN
  rw [tmAt_bare, tmAt_bare]
  congr 1
  unfold evsAt
  rw [bare_at]
  cases l[i]? with
  | none => rfl
  | some p => exact evsB_bare D p
theorem payB_bare (l : List Pm) : payB (l.map bare) = payB l := by
  unfold payB headB ptsB
  rw [tmAt_bare, addT_bare, List.length_map]
  congr 2
  exact flatMap_same fun i _ => ptB_bare _ _ _
theorem bare_p (d : Pm) : (bare d).p = d.p := bareP_p _
theorem putB_bare (sig : List Pr) (l : List Pm) : putB sig (l.map bare) = putB sig l := by
  have h : checkB sig (l.map bare) = checkB sig l := by
    unfold checkB
    rw [List.length_map, List.map_map, show ((fun x : Pm => x.p) ∘ bare) = (·.p) from funext bare_p]
  unfold putB
  rw [h, payB_bare]
theorem putB_plain (sig : List Pr) (l : List Pm) : putB sig ((l.map (·.p)).map bareP) = putB sig l := by
  rw [List.map_map]
  exact putB_bare sig l
/-- What stands at the end: an error, or bytes that are left, or what is wrong with what was read. -/
def wayU (sig : List Pr) (xs : List Int) (l : List Pn) : Int := if 4096 < xs.length then 6 else if putB sig (l.map bareP) = (xs, 0) then 0 else 4
def endU (sig : List Pr) (xs : List Int) (r : List Pn × Int × Nat × Int) : Int := if r.2.2.2 ≠ 0 then r.2.2.2 else if r.2.2.1 < xs.length then 4 else wayU sig xs r.1
/-- The points of a payload, or why there are none. -/
def getU (sig : List Pr) (xs : List Int) : List Pn × Int :=
  if checkP sig ≠ 0 then ([], checkP sig) else if endU sig xs (readU sig xs) ≠ 0 then ([], endU sig xs (readU sig xs)) else ((readU sig xs).1, 0)
section
variable {xs : List Int} {p : Nat} {e m : Int} {D : List (List Int)} {sig : List Pr}
theorem nx_stop (h : e ≠ 0) : nx m xs p e = (0, p, e) := tk_stopped h
theorem sx_stop (h : e ≠ 0) : sx xs p e = (0, p, e) := tk_stopped h
theorem txtU_stop (h : e ≠ 0) : (txtU D xs p e).2 = (p, e) := by
  unfold txtU
  rw [nx_stop h]
  split
  · rw [stU_kept h]
  · rfl
theorem argU_stop {t : Int} (h : e ≠ 0) : (argU D t xs p e).2 = (p, e) := by
  unfold argU
  split
  · rw [sx_stop h]
  · exact txtU_stop h
theorem argsU_stop {ts : List Int} (h : e ≠ 0) (n : Nat) : (argsU D ts xs (p, e) n).2.2 = e :=
  stepsU_stop (f := fun j s => argU D (ts.getD j 0) xs s.1 s.2) (s := (p, e)) (er := fun s : Nat × Int => s.2) (k := 0) (fun j s hs => by rw [argU_stop hs]) h n (Nat.zero_le n)
theorem evU_stop (h : e ≠ 0) : (evU sig D xs p e).2.2 = e := by
  unfold evU
  rw [nx_stop h]
  split
  · exact stU_kept h 9
  · exact argsU_stop h _
theorem evnU_stop (h : e ≠ 0) (n : Nat) : (evnU sig D xs (p, e) n).2.2 = e :=
  stepsU_stop (f := fun _ s => evU sig D xs s.1 s.2) (s := (p, e)) (er := fun s : Nat × Int => s.2) (k := 0) (fun j s hs => evU_stop hs) h n (Nat.zero_le n)
theorem evsU_stop (h : e ≠ 0) : (evsU sig D xs p e).2.2 = e := by
  unfold evsU
  rw [nx_stop h]
  exact evnU_stop h _
theorem laterU_stop {tm : Int} (h : e ≠ 0) : (laterU xs tm p e).2.2 = e := by
  unfold laterU
  rw [nx_stop h]
  dsimp only
  split
  · exact stU_kept h 8
  · rfl
theorem ptU_stop {i : Nat} {s : Int × Nat × Int} (h : s.2.2 ≠ 0) : (ptU sig D xs i s).2.2.2 = s.2.2 := by
  unfold ptU whenU
  dsimp only
  split
  · exact evsU_stop h
  · have h2 := laterU_stop (xs := xs) (tm := s.1) (p := s.2.1) h
    rw [evsU_stop (by rw [h2]; exact h), h2]
end
section
variable {xs : List Int} {p : Nat} {e m : Int} {D : List (List Int)} {sig : List Pr} (hb : ∀ x ∈ xs, 0 ≤ x ∧ x < 256)
include hb
theorem nx_range (hm : 0 ≤ m) (hp : p ≤ xs.length) : (∃ n : Nat, (nx m xs p e).1 = (n : Int) ∧ (n : Int) ≤ m ∧ n < 18446744073709551616) ∧ p ≤ (nx m xs p e).2.1 ∧ (nx m xs p e).2.1 ≤ xs.length := by
  obtain ⟨h1, h2, _⟩ := tk_never (z := (0 : Int)) (e := e) (r := getN m (xs.drop p)) hp (fun h => by have := (getN_fits m (xs.drop p) (drop_bytes hb p)).1 h; rw [List.length_drop] at this; exact this)
  refine ⟨?_, h1, h2⟩
  unfold nx tk
  split
  · exact ⟨0, rfl, hm, by omega⟩
  · split
    · exact ⟨0, rfl, hm, by omega⟩
    · rename_i _ h
      have h0 : (getN m (xs.drop p)).2.2 = 0 := by simpa using h
      have hr := getI_range (xs.drop p) (drop_bytes hb p)
      unfold getN at h0 ⊢
      split
      · rename_i q
        rw [if_pos q] at h0
        cases h0
      · rename_i q
        rw [if_neg q] at h0
        have : ¬ m < (getI (xs.drop p)).1 := fun h => q ⟨h0, h⟩
        exact ⟨(getI (xs.drop p)).1.toNat, by simp only; omega, by omega, by omega⟩
theorem nx_le (hm : 0 ≤ m) (hp : p ≤ xs.length) : (nx m xs p e).2.1 ≤ xs.length := (nx_range hb hm hp).2.2
theorem sx_range (hp : p ≤ xs.length) : (-9223372036854775808 ≤ (sx xs p e).1 ∧ (sx xs p e).1 ≤ 9223372036854775807) ∧ (sx xs p e).2.1 ≤ xs.length := by
  obtain ⟨_, h2, _⟩ := tk_never (z := (0 : Int)) (e := e) (r := getS (xs.drop p)) hp (fun h => by have := (getS_fits (xs.drop p) (drop_bytes hb p)).1 h; rw [List.length_drop] at this; exact this)
  refine ⟨?_, h2⟩
  unfold sx tk
  split
  · simp
  · split
    · simp
    · obtain ⟨h3, h4⟩ := getI_range (xs.drop p) (drop_bytes hb p)
      exact unfoldI_range h3 h4
theorem tx_range (hp : p ≤ xs.length) : ((tx xs p e).1.length ≤ 200 ∧ ∀ x ∈ (tx xs p e).1, 0 ≤ x ∧ x < 256) ∧ (tx xs p e).2.1 ≤ xs.length := by
  refine ⟨⟨?_, (tkT_bytes hb 200).2⟩, (tkT_le hb 200 hp).2⟩
  unfold tx tk
  split
  · simp
  · split
    · simp
    · rename_i _ h
      have h0 : (getT 200 (xs.drop p)).2.2 = 0 := by simpa using h
      unfold getT at h0 ⊢
      split
      · simp
      · split
        · simp
        · split
          · simp
          · simp only [List.length_take, List.length_drop]
            omega
theorem txtU_range (hD : Tx200 D) (hp : p ≤ xs.length) : ((txtU D xs p e).1.length ≤ 200 ∧ ∀ x ∈ (txtU D xs p e).1, 0 ≤ x ∧ x < 256) ∧ (txtU D xs p e).2.1 ≤ xs.length := by
  obtain ⟨⟨n, h1, _, _⟩, _, h2⟩ := nx_range (e := e) hb (m := m64) (by decide) hp
  unfold txtU
  rw [h1]
  split
  · exact ⟨by simp, h2⟩
  · rename_i h
    refine ⟨?_, h2⟩
    rw [Int.toNat_natCast]
    have hlt : n < D.length := by omega
    rw [List.getD, List.getElem?_eq_getElem hlt, Option.getD_some]
    exact hD _ (List.getElem_mem hlt)
theorem argU_range {t : Int} (ht : -9223372036854775808 ≤ t ∧ t ≤ 9223372036854775807) (hD : Tx200 D) (hp : p ≤ xs.length) : (argU D t xs p e).1.Fits ∧ (argU D t xs p e).2.1 ≤ xs.length := by
  unfold argU
  split
  · obtain ⟨h1, h2⟩ := sx_range (e := e) hb hp
    exact ⟨⟨by simp, by simp, ht, h1⟩, h2⟩
  · obtain ⟨⟨h1, h2⟩, h3⟩ := txtU_range (e := e) hb hD hp
    exact ⟨⟨by simp only [Go.maxLen]; omega, h2, ht, by simp⟩, h3⟩
theorem argsU_range {ts : List Int} (ht : ∀ t ∈ ts, -9223372036854775808 ≤ t ∧ t ≤ 9223372036854775807) (hD : Tx200 D) (hp : p ≤ xs.length) (n : Nat) : (∀ a ∈ (argsU D ts xs (p, e) n).1, a.Fits) ∧ (argsU D ts xs (p, e) n).2.1 ≤ xs.length := by
  have key : ∀ (j : Nat) (s : Nat × Int), s.1 ≤ xs.length → (argU D (ts.getD j 0) xs s.1 s.2).2.1 ≤ xs.length ∧ (argU D (ts.getD j 0) xs s.1 s.2).1.Fits := fun j s hs => by
    have htj : -9223372036854775808 ≤ ts.getD j 0 ∧ ts.getD j 0 ≤ 9223372036854775807 := by
      by_cases hj : j < ts.length
      · rw [List.getD, List.getElem?_eq_getElem hj]; exact ht _ (List.getElem_mem hj)
      · rw [List.getD, List.getElem?_eq_none (by omega)]; simp
    exact (argU_range hb htj hD hs).symm
  exact ⟨stepsU_all (I := fun s : Nat × Int => s.1 ≤ xs.length) hp key n, stepsU_inv (I := fun s : Nat × Int => s.1 ≤ xs.length) hp (fun j s hs => (key j s hs).1) n⟩
theorem evU_range (hs : ∀ q ∈ sig, ∀ t ∈ q.args, -9223372036854775808 ≤ t ∧ t ≤ 9223372036854775807) (hD : Tx200 D) (hp : p ≤ xs.length) : (∀ a ∈ (evU sig D xs p e).1.args, a.Fits) ∧ (evU sig D xs p e).2.1 ≤ xs.length := by
  obtain ⟨⟨n, h1, _, _⟩, _, h2⟩ := nx_range (e := e) hb (m := m64) (by decide) hp
  unfold evU
  rw [h1]
  split
  · exact ⟨by simp, h2⟩
  · rename_i h
    rw [Int.toNat_natCast]
    have hlt : n < sig.length := by omega
    refine argsU_range hb (fun t ht => ?_) hD h2 _
    rw [List.getD, List.getElem?_eq_getElem hlt, Option.getD_some] at ht
    exact hs _ (List.getElem_mem hlt) t ht
theorem evnU_le (hs : ∀ q ∈ sig, ∀ t ∈ q.args, -9223372036854775808 ≤ t ∧ t ≤ 9223372036854775807) (hD : Tx200 D) (hp : p ≤ xs.length) (n : Nat) : (evnU sig D xs (p, e) n).2.1 ≤ xs.length :=
  stepsU_inv (I := fun s : Nat × Int => s.1 ≤ xs.length) hp (fun j s h => (evU_range hb hs hD h).2) n
theorem evsU_le (hs : ∀ q ∈ sig, ∀ t ∈ q.args, -9223372036854775808 ≤ t ∧ t ≤ 9223372036854775807) (hD : Tx200 D) (hp : p ≤ xs.length) : (evsU sig D xs p e).2.1 ≤ xs.length := evnU_le hb hs hD (nx_le hb (by decide) hp) _
theorem laterU_range {tm : Int} (hp : p ≤ xs.length) : (0 ≤ (laterU xs tm p e).1 ∧ (laterU xs tm p e).1 < 18446744073709551616) ∧ (laterU xs tm p e).2.1 ≤ xs.length :=
  ⟨⟨Int.emod_nonneg _ (by decide), Int.emod_lt_of_pos _ (by decide)⟩, nx_le hb (by decide) hp⟩
theorem whenU_range {i : Nat} {s : Int × Nat × Int} (hp : s.2.1 ≤ xs.length) (ht : 0 ≤ s.1 ∧ s.1 < 18446744073709551616) : (0 ≤ (whenU xs i s).1 ∧ (whenU xs i s).1 < 18446744073709551616) ∧ (whenU xs i s).2.1 ≤ xs.length := by
  unfold whenU
  split
  · exact ⟨ht, hp⟩
  · exact laterU_range hb hp
theorem ptU_range {i : Nat} {s : Int × Nat × Int} (hs : ∀ q ∈ sig, ∀ t ∈ q.args, -9223372036854775808 ≤ t ∧ t ≤ 9223372036854775807) (hD : Tx200 D) (hp : s.2.1 ≤ xs.length) (ht : 0 ≤ s.1 ∧ s.1 < 18446744073709551616) :
    (ptU sig D xs i s).2.2.1 ≤ xs.length ∧ 0 ≤ (ptU sig D xs i s).2.1 ∧ (ptU sig D xs i s).2.1 < 18446744073709551616 := by
  obtain ⟨h1, h2⟩ := whenU_range (i := i) hb hp ht
  exact ⟨evsU_le hb hs hD h2, h1⟩
theorem ptsU_range {s : Int × Nat × Int} (hs : ∀ q ∈ sig, ∀ t ∈ q.args, -9223372036854775808 ≤ t ∧ t ≤ 9223372036854775807) (hD : Tx200 D) (hp : s.2.1 ≤ xs.length) (ht : 0 ≤ s.1 ∧ s.1 < 18446744073709551616) (n : Nat) :
    (ptsU sig D xs s n).2.2.1 ≤ xs.length ∧ 0 ≤ (ptsU sig D xs s n).2.1 ∧ (ptsU sig D xs s n).2.1 < 18446744073709551616 :=
  stepsU_inv (I := fun s : Int × Nat × Int => s.2.1 ≤ xs.length ∧ 0 ≤ s.1 ∧ s.1 < 18446744073709551616) ⟨hp, ht⟩ (fun j s h => ptU_range hb hs hD h.1 h.2) n
theorem txsU_range (hp : p ≤ xs.length) (n : Nat) : Tx200 (txsU xs (p, e) n).1 ∧ (txsU xs (p, e) n).2.1 ≤ xs.length :=
  ⟨stepsU_all (I := fun s : Nat × Int => s.1 ≤ xs.length) hp (fun j s h => ⟨(tx_range hb h).2, (tx_range hb h).1⟩) n, stepsU_inv (I := fun s : Nat × Int => s.1 ≤ xs.length) hp (fun j s h => (tx_range hb h).2) n⟩
theorem dictU_range (hp : p ≤ xs.length) : Tx200 (dictU xs p e).1 ∧ (dictU xs p e).2.1 ≤ xs.length := txsU_range hb (nx_le hb (by decide) hp) _
theorem countU_range (hp : p ≤ xs.length) : (∃ n : Nat, (countU xs p e).1 = (n : Int) ∧ n ≤ 1024) ∧ (countU xs p e).2.1 ≤ xs.length := by
  obtain ⟨⟨n, h1, h2, _⟩, _, h3⟩ := nx_range (e := e) hb (m := 1024) (by decide) hp
  exact ⟨⟨n, h1, by omega⟩, h3⟩
theorem cntU_range : (∃ n : Nat, (cntU xs).1 = (n : Int) ∧ n ≤ 1024) ∧ (cntU xs).2.1 ≤ xs.length := countU_range hb (nx_le hb (by decide) (Nat.zero_le _))
theorem dicU_range : Tx200 (dicU xs).1 ∧ (dicU xs).2.1 ≤ xs.length := dictU_range hb (cntU_range hb).2
theorem readU_le (hs : ∀ q ∈ sig, ∀ t ∈ q.args, -9223372036854775808 ≤ t ∧ t ≤ 9223372036854775807) : (readU sig xs).2.2.1 ≤ xs.length := by
  obtain ⟨⟨n, h1, _, h4⟩, _, h3⟩ := nx_range (e := 0) hb (m := m64) (by decide) (Nat.zero_le xs.length)
  have h1 : (baseU xs).1 = (n : Int) := h1
  obtain ⟨d1, d2⟩ := dicU_range hb
  exact (ptsU_range (s := ((baseU xs).1, (dicU xs).2)) hb hs d1 d2 (by rw [h1]; omega) _).1
end
end Go.Proofs.YtimihhcidbeonaaGreat
namespace Go.Proofs.YtimihhcidbeonaaGreat
set_option linter.unusedVariables false
theorem drop_past {xs a ys : List Int} {p : Nat} (h : xs.drop p = a ++ ys) : xs.drop (p + a.length) = ys := by rw [← List.drop_drop, h, List.drop_left]
section
variable {xs ys : List Int} {p : Nat}
theorem nx_there {n : Nat} {m : Int} (h : xs.drop p = encI n ++ ys) (hn : n < 18446744073709551616) (hm : (n : Int) ≤ m) : nx m xs p 0 = ((n : Int), p + (encI n).length, 0) := by
  unfold nx
  have e : getN m (xs.drop p) = ((n : Int), (encI n).length, 0) := by
    unfold getN
    rw [h, getI_enc hn, if_neg (fun q => by have := q.2; simp only at this; omega)]
  rw [e, tk_ok rfl]
theorem sx_there {x : Int} (h : xs.drop p = encI (foldI x).toNat ++ ys) (h1 : -9223372036854775808 ≤ x) (h2 : x ≤ 9223372036854775807) : sx xs p 0 = (x, p + (encI (foldI x).toNat).length, 0) := by
  obtain ⟨f1, f2⟩ := foldI_range h1 h2
  unfold sx
  have e : getS (xs.drop p) = (x, (encI (foldI x).toNat).length, 0) := by
    unfold getS
    rw [h, getI_enc (by omega)]
    simp only [Int.toNat_of_nonneg f1, unfold_fold]
  rw [e, tk_ok rfl]
theorem tx_there {t : List Int} (h : xs.drop p = encT t ++ ys) (ht : t.length ≤ 200) : tx xs p 0 = (t, p + (encT t).length, 0) := by
  unfold tx
  rw [h, getT_enc (by omega) (by omega), tk_ok rfl]
end
theorem flatMap_at {α : Type} {f : α → List Int} {l : List α} {j : Nat} {a : α} (h : l[j]? = some a) : l.flatMap f = (l.take j).flatMap f ++ (f a ++ (l.drop (j + 1)).flatMap f) := by
  obtain ⟨hj, ha⟩ := List.getElem?_eq_some_iff.1 h
  have e : l = l.take j ++ (a :: l.drop (j + 1)) := by
    rw [← ha, ← List.drop_eq_getElem_cons hj, List.take_append_drop]
  conv => lhs; rw [e]
  rw [List.flatMap_append, List.flatMap_cons]
theorem stepsU_row {α : Type} {f : Nat → Nat × Int → α × Nat × Int} {xs ys : List Int} {p : Nat} {enc : α → List Int} {l : List α} (hx : xs.drop p = l.flatMap enc ++ ys)
    (h : ∀ j a q zs, l[j]? = some a → xs.drop q = enc a ++ zs → f j (q, 0) = (a, q + (enc a).length, 0)) : stepsU f (p, 0) l.length = (l, p + (l.flatMap enc).length, 0) := by
  have h2 := stepsU_there (f := f) (S := fun j => (p + ((l.take j).flatMap enc).length, (0 : Int))) (l := l) (fun j a ha => by
    have e := flatMap_at (f := enc) ha
    rw [e, List.append_assoc, List.append_assoc] at hx
    rw [h j a _ _ ha (drop_past hx)]
    simp only [take_one ha, List.flatMap_append, List.flatMap_cons, List.flatMap_nil, List.append_nil, List.length_append, Nat.add_assoc]) l.length (Nat.le_refl _)
  simp only [List.take_zero, List.flatMap_nil, List.length_nil, Nat.add_zero, List.take_length] at h2
  exact h2
section
variable {xs ys : List Int} {p : Nat} {D : List (List Int)}
theorem argU_there {t : Int} {a : Ag} (hD : D.length ≤ 4096) (ha : AOk a) (hw : whyG t a = 0) (ht : a.t = 2 → a.s ∈ D) (h : xs.drop p = encI (argN D a) ++ ys) : argU D t xs p 0 = (a, p + (encI (argN D a)).length, 0) := by
  have hlt := argN_lt (D := D) ha (by omega)
  obtain ⟨_, _, _, n1, n2⟩ := ha.fits
  obtain ⟨at', an, as'⟩ := a
  unfold whyG at hw
  simp only at hw ht n1 n2
  split at hw
  · cases hw
  · rename_i e1
    have e1 : at' = t := by simpa using e1
    subst e1
    split at hw
    · cases hw
    · rename_i e2
      split at hw
      · cases hw
      · rename_i e3
        rcases ha.kind with hk | hk
        · simp only at hk
          subst hk
          have es : as' = [] := Classical.byContradiction fun q => e2 ⟨rfl, q⟩
          subst es
          have hv : argN D ⟨1, an, []⟩ = (foldI an).toNat := rfl
          rw [hv] at h ⊢
          unfold argU
          rw [if_pos rfl, sx_there h n1 n2]
        · simp only at hk
          subst hk
          have en : an = 0 := Classical.byContradiction fun q => e3 ⟨rfl, q⟩
          subst en
          have hin := ht rfl
          have hv : argN D ⟨2, 0, as'⟩ = (placeD D as').toNat := rfl
          rcases placeD_ways D as' with ⟨_, q⟩ | ⟨j, j0, j1, j2, _⟩
          · exact absurd hin q
          · rw [hv, j1, Int.toNat_natCast] at h ⊢
            unfold argU
            rw [if_neg (by decide)]
            unfold txtU
            rw [nx_there h (by omega) (by unfold m64; omega), if_neg (by simp only; omega)]
            simp only [Int.toNat_natCast]
            rw [List.getD, j2, Option.getD_some]
theorem argsU_there {ts : List Int} {l : List Ag} (hD : D.length ≤ 4096) (ha : ∀ a ∈ l, AOk a) (hw : ∀ i a, l[i]? = some a → whyG (ts.getD i 0) a = 0) (ht : ∀ a ∈ l, a.t = 2 → a.s ∈ D) (h : xs.drop p = argsB D l ++ ys) :
    argsU D ts xs (p, 0) l.length = (l, p + (argsB D l).length, 0) :=
  stepsU_row (enc := fun a => encI (argN D a)) h fun j a q zs hj hq => argU_there hD (ha a (List.mem_of_getElem? hj)) (hw j a hj) (ht a (List.mem_of_getElem? hj)) hq
theorem evU_there {sig : List Pr} {e : Ev} (hD : D.length ≤ 4096) (hsl : sig.length ≤ 64) (he : eventT sig e = 0) (ha : ∀ a ∈ e.args, AOk a) (ht : ∀ a ∈ e.args, a.t = 2 → a.s ∈ D) (h : xs.drop p = evB D (bareE e) ++ ys) :
    evU sig D xs p 0 = (e, p + (evB D (bareE e)).length, 0) := by
  by_cases hp : e.p < 0 ∨ (sig.length : Int) ≤ e.p
  · rw [eventT_name hp] at he
    cases he
  · obtain ⟨k, hk⟩ : ∃ k : Nat, e.p = (k : Int) := ⟨e.p.toNat, by omega⟩
    obtain ⟨q, hq⟩ : ∃ q, sig[k]? = some q := ⟨_, List.getElem?_eq_getElem (show k < sig.length by omega)⟩
    rw [eventT_has hk hq] at he
    split at he
    · cases he
    · rename_i hl
      have hl : e.args.length = q.args.length := by simpa using hl
      have hwh := firstWhy_zero _ _ he
      have hB : evB D (bareE e) = encI k ++ argsB D e.args := by
        show encI e.p.toNat ++ argsB D e.args = _
        rw [hk, Int.toNat_natCast]
      rw [hB, List.append_assoc] at h
      have hn := nx_there (m := m64) h (by omega) (by unfold m64; omega)
      have hg := argsU_there (ts := q.args) hD ha (fun i a hi => by
        have := hwh i (Nat.zero_le _) (by have := (List.getElem?_eq_some_iff.1 hi).1; omega)
        rwa [getD_of hi] at this) ht (drop_past h)
      unfold evU
      rw [hn, if_neg (by simp only; omega)]
      simp only [Int.toNat_natCast]
      rw [show sig.getD k default = q by simp [List.getD, hq], ← hl, hg, hB]
      obtain ⟨ep, ea⟩ := e
      simp only at hk
      subst hk
      simp only [List.length_append, Nat.add_assoc]
theorem evsU_there {sig : List Pr} {l : List Em} (hD : D.length ≤ 4096) (hsl : sig.length ≤ 64) (hl : l.length ≤ 1024) (he : ∀ e ∈ l, eventT sig e.e = 0 ∧ (∀ a ∈ e.args, AOk a) ∧ ∀ a ∈ e.args, a.t = 2 → a.s ∈ D) (h : xs.drop p = evsB D l ++ ys) :
    evsU sig D xs p 0 = (l.map (·.e), p + (evsB D l).length, 0) := by
  unfold evsB at h
  rw [List.append_assoc] at h
  have hn := nx_there (m := 1024) h (by omega) (by omega)
  have hB : evlB D l = (l.map (·.e)).flatMap (fun e => evB D (bareE e)) := by rw [List.flatMap_map]; rfl
  have h2 := drop_past h
  rw [hB] at h2
  have hg := stepsU_row (f := fun _ s => evU sig D xs s.1 s.2) (enc := fun e => evB D (bareE e)) h2 fun j a q zs hj hq => by
    obtain ⟨e, he1, rfl⟩ := List.mem_map.1 (List.mem_of_getElem? hj)
    obtain ⟨k1, k2, k3⟩ := he e he1
    exact evU_there hD hsl k1 k2 k3 hq
  unfold evsU evnU
  rw [hn]
  simp only [Int.toNat_natCast]
  rw [List.length_map] at hg
  rw [hg, ← hB, evsB, List.length_append, Nat.add_assoc]
end
theorem drop_range (n i : Nat) (h : i < n) : (List.range n)[i]? = some i := by simp [h]
theorem ptsU_there {sig : List Pr} {l : List Pm} {D : List (List Int)} {xs ys : List Int} {p : Nat} (hD : D.length ≤ 4096) (hsl : sig.length ≤ 64) (hB : BOk l) (he : ∀ q ∈ l, ∀ e ∈ q.evs, eventT sig e.e = 0) (ht : ∀ q ∈ l, ∀ e ∈ q.evs, ∀ a ∈ e.args, a.t = 2 → a.s ∈ D)
    (h : xs.drop p = ptsB D l l.length ++ ys) : ptsU sig D xs (tmAt l 0, p, 0) l.length = (l.map (·.p), tmAt l (l.length - 1), p + (ptsB D l l.length).length, 0) := by
  have h2 := stepsU_there (f := ptU sig D xs) (S := fun i => (tmAt l (i - 1), p + (ptsB D l i).length, (0 : Int))) (l := l.map (·.p)) (fun i a ha => by
    rw [List.getElem?_map] at ha
    obtain ⟨q, hq, rfl⟩ : ∃ q, l[i]? = some q ∧ q.p = a := by
      cases hi : l[i]? with
      | none => rw [hi] at ha; cases ha
      | some q => rw [hi] at ha; exact ⟨q, rfl, by simpa using ha⟩
    have hi := (List.getElem?_eq_some_iff.1 hq).1
    have hm := List.mem_of_getElem? hq
    have e := flatMap_at (f := ptB D l) (drop_range l.length i hi)
    have hfit := (hB.pts q hm).fits
    unfold Pm.Fits at hfit
    rw [List.take_range, Nat.min_eq_left (Nat.le_of_lt hi)] at e
    unfold ptsB at h
    rw [e, List.append_assoc, List.append_assoc] at h
    have h3 := drop_past h
    generalize (List.drop (i + 1) (List.range l.length)).flatMap (ptB D l) ++ ys = zs at h3
    change xs.drop (p + (ptsB D l i).length) = ptB D l i ++ zs at h3
    have hsuc : (ptsB D l (i + 1)).length = (ptsB D l i).length + (ptB D l i).length := by rw [ptsB_succ, List.length_append]
    simp only [Nat.add_sub_cancel]
    rw [hsuc, ← Nat.add_assoc]
    generalize p + (ptsB D l i).length = P at h3
    unfold ptB at h3 ⊢
    rw [tmAt_of hq, evsAt_of hq] at *
    have hev : ∀ (P : Nat) (zs : List Int), xs.drop P = evsB D q.evs ++ zs → evsU sig D xs P 0 = (q.evs.map (·.e), P + (evsB D q.evs).length, 0) := fun P zs hz =>
      evsU_there hD hsl (hB.pts q hm).few (fun e he1 => ⟨he q hm e he1, fun a ha => (((hB.pts q hm).evs e he1).args a ha), fun a ha => ht q hm e he1 a ha⟩) hz
    by_cases h0 : i = 0
    · subst h0
      rw [if_neg (by omega), List.nil_append] at h3 ⊢
      unfold ptU whenU
      rw [if_pos rfl]
      simp only [Nat.zero_sub]
      rw [tmAt_of hq, hev _ _ h3]
    · rw [if_pos (by omega), List.append_assoc] at h3
      rw [if_pos (by omega)]
      obtain ⟨q0, hq0⟩ : ∃ q0, l[i - 1]? = some q0 := ⟨_, List.getElem?_eq_getElem (by omega)⟩
      have hfit0 := (hB.pts q0 (List.mem_of_getElem? hq0)).fits
      unfold Pm.Fits at hfit0
      have hord := hB.ord (i - 1) q0 q hq0 (by rw [show i - 1 + 1 = i by omega]; exact hq)
      have hst : stepN l i = (q.tm - q0.tm).toNat := by unfold stepN; rw [tmAt_of hq, tmAt_of hq0]
      have hsi : ((stepN l i : Nat) : Int) = q.tm - q0.tm := by rw [hst]; omega
      have hn := nx_there (m := m64) h3 (stepN_lt hB.pts i) (by rw [hsi]; unfold m64; omega)
      unfold ptU whenU
      rw [if_neg h0]
      unfold laterU
      simp only
      rw [hn, hsi, tmAt_of hq0, if_neg (by unfold m64; omega), show q0.tm + (q.tm - q0.tm) = q.tm by omega, Int.emod_eq_of_lt hfit.1 hfit.2, hev _ _ (drop_past h3), List.length_append, Nat.add_assoc]) l.length (by rw [List.length_map]; exact Nat.le_refl _)
  have h3 : (l.map (·.p)).take l.length = l.map (·.p) := by rw [List.take_of_length_le]; rw [List.length_map]; exact Nat.le_refl _
  simp only [h3, ptsB_zero, List.length_nil, Nat.add_zero, Nat.zero_sub] at h2
  exact h2
theorem catT_ge : ∀ D : List (List Int), Tx200 D → D.length ≤ (catT D).length
  | [], _ => by simp [catT]
  | t :: D, h => by
    have h1 := catT_ge D (fun s hs => h s (List.mem_cons_of_mem _ hs))
    have h2 := encT_pos (s := t) (by have := (h t (List.mem_cons_self ..)).1; omega)
    simp only [catT, List.flatMap_cons, List.length_append, List.length_cons] at h1 ⊢
    omega
/-- What points that are of a signature have for events. -/
theorem checkT_events {sig : List Pr} {l : List Pm} (h : (checkT sig (l.map (·.p))).1 = 0) : ∀ q ∈ l, ∀ e ∈ q.evs, eventT sig e.e = 0 := by
  intro q hq e he
  obtain ⟨hs, hw⟩ := checkT_zero.1 h
  obtain ⟨i, hi⟩ := List.mem_iff_getElem?.1 hq
  have hil := (List.getElem?_eq_some_iff.1 hi).1
  have := hw i (by rw [List.length_map]; exact hil)
  unfold whyT at this
  rw [getD_of (at_pn hi)] at this
  split at this
  · cases this
  · unfold whyE at this
    split at this
    · cases this
    · obtain ⟨k, hk⟩ := List.mem_iff_getElem?.1 he
      have hkl := (List.getElem?_eq_some_iff.1 hk).1
      have h2 := firstWhy_zero _ _ this k (Nat.zero_le _) (by rw [List.length_map]; omega)
      rw [getD_of (at_ev hk)] at h2
      exact h2
theorem readU_there {sig : List Pr} {l : List Pm} (hB : BOk l) (h0 : 0 < l.length) (hsl : sig.length ≤ 64) (he : ∀ q ∈ l, ∀ e ∈ q.evs, eventT sig e.e = 0) (hlen : (payB l).length ≤ 4096) :
    readU sig (payB l) = (l.map (·.p), tmAt l (l.length - 1), (payB l).length, 0) := by
  obtain ⟨d1, d2⟩ := hB.dict
  have hge := catT_ge _ d2
  have hD : (addT [] l).length ≤ 4096 := by
    have : (catT (addT [] l)).length ≤ (payB l).length := by simp only [payB, headB, dictB, List.length_append]; omega
    omega
  have hfew := hB.few
  obtain ⟨t0, ht0, ht1⟩ : ∃ t0 : Nat, tmAt l 0 = (t0 : Int) ∧ t0 < 18446744073709551616 := by
    obtain ⟨q, hq⟩ : ∃ q, l[0]? = some q := ⟨_, List.getElem?_eq_getElem h0⟩
    have := (hB.pts q (List.mem_of_getElem? hq)).fits
    unfold Pm.Fits at this
    exact ⟨(tmAt l 0).toNat, by rw [tmAt_of hq]; omega, by rw [tmAt_of hq]; omega⟩
  obtain ⟨xs, hxs⟩ : ∃ xs, payB l = xs := ⟨_, rfl⟩
  obtain ⟨D, hDD⟩ : ∃ D, addT [] l = D := ⟨_, rfl⟩
  have e0 : xs.drop 0 = encI t0 ++ (encI l.length ++ (encI D.length ++ (catT D ++ (ptsB D l l.length ++ [])))) := by
    rw [List.drop_zero, ← hxs]
    simp only [payB, headB, dictB, ht0, Int.toNat_natCast, hDD, List.append_assoc, List.append_nil]
  have e1 := drop_past e0
  have e2 := drop_past e1
  have e3 := drop_past e2
  have e4 := drop_past e3
  rw [hDD] at hD d2
  have n0 := nx_there (m := m64) e0 (by omega) (by unfold m64; omega)
  have n1 := nx_there (m := 1024) e1 (by omega) (by omega)
  have n2 := nx_there (m := 4096) e2 (by omega) (by omega)
  have b0 : baseU xs = ((t0 : Int), 0 + (encI t0).length, 0) := n0
  have b1 : cntU xs = ((l.length : Int), 0 + (encI t0).length + (encI l.length).length, 0) := by
    unfold cntU countU
    rw [b0]
    simp only
    rw [n1, if_neg (by simp only; omega)]
  have b2 : dicU xs = (D, 0 + (encI t0).length + (encI l.length).length + (encI D.length).length + (catT D).length, 0) := by
    unfold dicU dictU
    rw [b1]
    simp only
    rw [n2]
    simp only [Int.toNat_natCast]
    exact stepsU_row (enc := encT) e3 fun j a q zs hj hq => tx_there hq (d2 a (List.mem_of_getElem? hj)).1
  rw [hxs]
  unfold readU
  rw [b0, b1, b2]
  simp only [Int.toNat_natCast]
  have h5 := ptsU_there (sig := sig) hD hsl hB he (fun q hq e he a ha => by rw [← hDD]; exact addT_has l [] q hq e he a ha) e4
  rw [ht0] at h5
  rw [h5]
  have hl : xs.length = (encI t0).length + ((encI l.length).length + ((encI D.length).length + ((catT D).length + (ptsB D l l.length).length))) := by
    have := congrArg List.length e0
    simpa using this
  rw [hl]
  simp only [Nat.zero_add, Nat.add_assoc]
theorem putB_sig {sig : List Pr} {l : List Pm} (h : (putB sig l).2 = 0) : checkP sig = 0 ∧ 0 < l.length ∧ sig.length ≤ 64 ∧ (∀ q ∈ l, ∀ e ∈ q.evs, eventT sig e.e = 0) ∧ (payB l).length ≤ 4096 ∧ putB sig l = (payB l, 0) := by
  obtain ⟨h1, h2, h3⟩ := putB_ok h
  obtain ⟨k1, k2, k3⟩ := checkB_zero h1
  have hs := (checkT_zero.1 k2).1
  exact ⟨hs, k1, (check_small hs).1, checkT_events k2, h2, h3⟩
/-- The payload of points is read as these. -/
theorem getU_there {sig : List Pr} {l : List Pm} (hB : BOk l) (h : (putB sig l).2 = 0) : getU sig (payB l) = (l.map (·.p), 0) := by
  obtain ⟨hs, h0, hsl, he, hlen, hput⟩ := putB_sig h
  have hr := readU_there hB h0 hsl he hlen
  have hend : endU sig (payB l) (readU sig (payB l)) = 0 := by
    rw [hr]
    unfold endU wayU
    simp only
    rw [if_neg (by simp), if_neg (by omega), if_neg (by omega), if_pos (by rw [putB_plain]; exact hput)]
  unfold getU
  rw [if_neg (by rw [hs]; simp), if_neg (by rw [hend]; simp), hr]
/-- What is read has the payload, and was read to its end. -/
theorem getU_back {sig : List Pr} {xs : List Int} (hb : ∀ x ∈ xs, 0 ≤ x ∧ x < 256) (hss : ∀ q ∈ sig, ∀ t ∈ q.args, -9223372036854775808 ≤ t ∧ t ≤ 9223372036854775807) (h : (getU sig xs).2 = 0) :
    checkP sig = 0 ∧ putB sig ((getU sig xs).1.map bareP) = (xs, 0) ∧ (readU sig xs).2.2.2 = 0 ∧ (readU sig xs).2.2.1 = xs.length := by
  unfold getU at h ⊢
  split at h
  · rename_i h1
    exact absurd h h1
  · rename_i h1
    split at h
    · rename_i h2
      exact absurd h h2
    · rename_i h2
      rw [if_neg h1, if_neg h2]
      have h2 : endU sig xs (readU sig xs) = 0 := by simpa using h2
      have hle := readU_le hb hss
      unfold endU at h2
      split at h2
      · rename_i h3
        exact absurd h2 h3
      · rename_i h3
        split at h2
        · cases h2
        · rename_i h4
          unfold wayU at h2
          split at h2
          · cases h2
          · split at h2
            · rename_i h6
              exact ⟨by simpa using h1, h6, by simpa using h3, by omega⟩
            · cases h2
end Go.Proofs.YtimihhcidbeonaaGreat

namespace Go.Proofs.YtimihhcidbeonaaGreat
/-- What was read, and whether a signature was taken. -/
structure Gp where
  sig : List Pr
  isg : Bool
  pts : List Pn
  sk : Int
  fr : Int
  rej : List (Int × Int)
/-- Of nothing. -/
def noG : Gp := ⟨[], false, [], 0, 0, []⟩
/-- A part: where it begins, how many bytes it has, whether it is a frame, and that frame. -/
structure Sj where
  frm : Int
  n : Int
  isf : Bool
  kind : Int
  pay : List Int
/-- Does the first of some points stand ahead of the last of others? -/
def lateG (l m : List Pn) : Bool := decide (0 < l.length) && decide ((m.getD 0 default).tm < (l.getD (l.length - 1) default).tm)
/-- A frame is taken; the error's number. -/
def frameG (g : Gp) (k : Int) (p : List Int) : Gp × Int :=
  if k = 1 then
    if (getSig p).2 ≠ 0 then (g, (getSig p).2)
    else if g.isg = true ∧ (getSig p).1 ≠ g.sig then (g, 7)
    else (⟨(getSig p).1, true, g.pts, g.sk, g.fr, g.rej⟩, 0)
  else if k ≠ 2 then (g, 4)
  else if g.isg = false then (g, 10)
  else if (getU g.sig p).2 ≠ 0 then (g, (getU g.sig p).2)
  else if lateG g.pts (getU g.sig p).1 = true then (g, 8)
  else (⟨g.sig, g.isg, g.pts ++ (getU g.sig p).1, g.sk, g.fr, g.rej⟩, 0)
/-- A part is taken. -/
def takeS (g : Gp) (s : Sj) : Gp :=
  if s.isf = false then ⟨g.sig, g.isg, g.pts, g.sk + s.n, g.fr, g.rej⟩
  else if (frameG g s.kind s.pay).2 ≠ 0 then ⟨g.sig, g.isg, g.pts, g.sk, g.fr, g.rej ++ [(s.frm, (frameG g s.kind s.pay).2)]⟩
  else ⟨(frameG g s.kind s.pay).1.sig, (frameG g s.kind s.pay).1.isg, (frameG g s.kind s.pay).1.pts, g.sk, g.fr + 1, g.rej⟩
def takeL (g : Gp) (l : List Sj) : Gp := l.foldl takeS g
theorem takeL_succ {g : Gp} {l : List Sj} {k : Nat} {s : Sj} (h : l[k]? = some s) : takeL g (l.take (k + 1)) = takeS (takeL g (l.take k)) s := by
  unfold takeL
  rw [List.take_add_one, h, List.foldl_append]
  rfl
theorem frameG_kept {g : Gp} {k : Int} {p : List Int} (h : (frameG g k p).2 ≠ 0) : (frameG g k p).1 = g := by
  unfold frameG at h ⊢
  split
  · rename_i h1
    rw [if_pos h1] at h
    split
    · rfl
    · rename_i h2
      rw [if_neg h2] at h
      split
      · rfl
      · rename_i h3; rw [if_neg h3] at h; exact absurd rfl h
  · rename_i h1
    rw [if_neg h1] at h
    split
    · rfl
    · rename_i h2
      rw [if_neg h2] at h
      split
      · rfl
      · rename_i h3
        rw [if_neg h3] at h
        split
        · rfl
        · rename_i h4
          rw [if_neg h4] at h
          split
          · rfl
          · rename_i h5; rw [if_neg h5] at h; exact absurd rfl h
theorem frameG_counts (g : Gp) (k : Int) (p : List Int) : (frameG g k p).1.sk = g.sk ∧ (frameG g k p).1.fr = g.fr ∧ (frameG g k p).1.rej = g.rej := by
  unfold frameG
  split
  · split
    · exact ⟨rfl, rfl, rfl⟩
    · split <;> exact ⟨rfl, rfl, rfl⟩
  · split
    · exact ⟨rfl, rfl, rfl⟩
    · split
      · exact ⟨rfl, rfl, rfl⟩
      · split
        · exact ⟨rfl, rfl, rfl⟩
        · split <;> exact ⟨rfl, rfl, rfl⟩
end Go.Proofs.YtimihhcidbeonaaGreat
