/-
  What the theorem of TopAny rests on, part 2 of 16.
-/
import Derived.Maps.AppendAt
import Derived.Deep.QuietTactic
import Derived.BigQuiet
import Derived.RangeFuncNested
import Derived.RangeFuncBox
import Derived.RangeFuncLeaves
import Derived.WalkKit
import Derived.OrdersIn
import Derived.Deep.RegionHeld3
import Derived.TacticsIn
import Derived.Laws.StructEq
import Derived.MapKept
import Derived.Test.YtnlfcmbpocdpjaaGreatTopAnyZ1
set_option maxRecDepth 100000
set_option maxHeartbeats 16000000
namespace Go.Proofs.YtnlfcmbpocdpjaaGreat
open Lib (hid)
open Go.RowKit
def FreshP (n : Nat) (w : World) (A : Option Addr) (c : Nat) (es : List Pd) : Prop :=
 PredRow w w.heap.size (.slice A es.length c) es ∧ (∀ a, A = some a → n ≤ a.block) ∧ (∀ d ∈ es, ∀ a, d.A = some a → n ≤ a.block) ∧
 (∀ b o, A = some ⟨b, o, none⟩ → ∀ i, i < es.length → w.frozen? ⟨b, o + i * 2, none⟩ = false) ∧ (∀ d ∈ es, ∀ b o, d.A = some ⟨b, o, none⟩ → ∀ k, k < d.p.args.length → w.frozen? ⟨b, o + k, none⟩ = false)
theorem Tryz.infoIntB : (Tryz.prog.info? 3).map (fun i => (i.zero, i.size, i.bytes)) = some (some (.int .i64 0), 1, 8) := by kernel_rfl
theorem Tryz.infoPred : (Tryz.prog.info? 58).map (fun i => (i.zero, i.size, i.bytes)) = some (some (.agg #[.string ⟨#[]⟩, .slice none 0 0]), 2, 40) := by kernel_rfl
def flatD : List Pd → List Value
 | [] => []
 | d :: l => .string (strOfNums d.p.name) :: .slice d.A d.p.args.length d.c :: flatD l
theorem flatD_length : ∀ l : List Pd, (flatD l).length = l.length * 2
 | [] => rfl
 | d :: l => by
  rw [flatD, List.length_cons, List.length_cons, flatD_length l, List.length_cons]
  omega
theorem flatD_append : ∀ l m : List Pd, flatD (l ++ m) = flatD l ++ flatD m
 | [], _ => rfl
 | d :: l, m => by rw [List.cons_append, flatD, flatD, flatD_append l m, List.cons_append, List.cons_append]
theorem flatD_at : ∀ (l : List Pd) (i : Nat) (d : Pd), l[i]? = some d → (flatD l)[i * 2]? = some (.string (strOfNums d.p.name)) ∧ (flatD l)[i * 2 + 1]? = some (.slice d.A d.p.args.length d.c)
 | [], i, d, h => by simp at h
 | e :: l, 0, d, h => by
  simp only [List.getElem?_cons_zero, Option.some.injEq] at h
  subst h
  exact ⟨rfl, rfl⟩
 | e :: l, i + 1, d, h => by
  rw [List.getElem?_cons_succ] at h
  rw [flatD, show (i + 1) * 2 = i * 2 + 1 + 1 by omega, List.getElem?_cons_succ, List.getElem?_cons_succ, List.getElem?_cons_succ, List.getElem?_cons_succ]
  exact flatD_at l i d h
def OwnA (w : World) (n : Nat) (d : Pd) : Prop := w.ownsRow n 3 1 (.slice d.A d.p.args.length d.c) d.p.args.length (d.p.args.map (.int .i64))
def OwnP (w : World) (n : Nat) (v : Value) (es : List Pd) : Prop := w.ownsRow n 58 2 v es.length (flatD es) ∧ ∀ d ∈ es, OwnA w n d ∧ d.Fits
section
variable {w w' : World} {n : Nat} {v : Value} {es : List Pd}
theorem OwnP.nil (w : World) (n : Nat) : OwnP w n (.slice none 0 0) [] := ⟨World.ownsRow_nil _ _ _ _, by simp⟩
theorem OwnA.below {d : Pd} (h : OwnA w n d) (hb : Below w.heap.size w w') : OwnA w' n d := own_below h hb
theorem OwnP.below (h : OwnP w n v es) (hb : Below w.heap.size w w') : OwnP w' n v es := ⟨own_below h.1 hb, fun d hd => ⟨(h.2 d hd).1.below hb, (h.2 d hd).2⟩⟩
theorem OwnP.form (h : OwnP w n v es) : ∃ A c, v = .slice A es.length c ∧ es.length ≤ c ∧ c ≤ 9223372036854775807 := by
 rcases h.1.2 with ⟨rfl, h0⟩ | ⟨g, cap, cur, rfl, _, _, h1, h2, _⟩
 ·exact ⟨none, 0, by rw [h0], by omega, by omega⟩
 ·unfold maxLen at h2
  exact ⟨_, cap, rfl, h1, by omega⟩
theorem own_parts {n m k : Nat} {u : Value} {us vs : List Value} {j : Nat} (h : w.ownsRow n 3 1 u k us) (h2 : w.ownsRow m 58 2 v j vs) : u.ownBlock = none ∨ u.ownBlock ≠ v.ownBlock := by
 rcases h.2 with ⟨rfl, _⟩ | ⟨g, cap, cur, rfl, _, hg, _⟩
 ·exact .inl rfl
 ·refine .inr fun e => ?_
  rcases h2.2 with ⟨rfl, _⟩ | ⟨g2, cap2, cur2, rfl, _, hg2, _⟩
  ·simp [Value.ownBlock] at e
  ·obtain rfl : g = g2 := by simpa [Value.ownBlock] using e
   rw [hg] at hg2
   injection hg2 with hg2
   injection hg2 with _ e3 _
   exact absurd e3 (by decide)
theorem OwnA.grown {d : Pd} {m j : Nat} {vs : List Value} (h : OwnA w n d) (h2 : w.ownsRow m 58 2 v j vs) (hg : w.grownBy w' v.ownBlock) : OwnA w' n d := World.ownsRow.kept h hg (own_parts h h2)
theorem OwnP.fresh {A : Option Addr} {c : Nat} (h : OwnP w n (.slice A es.length c) es) : FreshP n w A c es := by
 obtain ⟨h1, h2⟩ := h
 have hargs : ∀ d ∈ es, IRow w w.heap.size (.slice d.A d.p.args.length d.c) d.p.args ∧ d.Fits := fun d hd => ⟨VRow.of_own (h2 d hd).1, (h2 d hd).2⟩
 have hb2 : ∀ d ∈ es, ∀ a, d.A = some a → n ≤ a.block := fun d hd a e => (World.ownsRow.lt (h2 d hd).1 a.block (by rw [e]; rfl)).1
 have hfz : ∀ d ∈ es, ∀ b o, d.A = some ⟨b, o, none⟩ → ∀ k, k < d.p.args.length → w.frozen? ⟨b, o + k, none⟩ = false := by
  intro d hd b o e k _
  have h3 := (h2 d hd).1
  unfold OwnA at h3
  rw [e] at h3
  rcases h3.2 with ⟨e4, _⟩ | ⟨g, cap, cur, e4, _⟩
  ·simp at e4
  ·injection e4 with e5 _ e6
   injection e5 with e5
   injection e5 with e7 e8 _
   subst e7 e8 e6
   exact World.ownsRow.frozenAt h3 _
 rcases h1.2 with ⟨e, h0⟩ | ⟨g, cap, cur, e, hng, hg, q1, q2, q3, q4⟩
 ·injection e with e1 e2 e3
  subst e1 e3
  have h0' : es = [] := List.eq_nil_of_length_eq_zero h0
  subst h0'
  exact ⟨PredRow.nil _ _, (fun a e => by cases e), hb2, (fun b o e => by cases e), hfz⟩
 ·injection e with e1 _ e3
  subst e1 e3
  refine ⟨⟨_, _, rfl, q1, q2, by simp, fun _ => ⟨g, 0, rfl, (Array.getElem?_eq_some_iff.1 hg).1, fun i d hd => ?_⟩, hargs⟩, (fun a e => by injection e with e; subst e; exact hng), hb2, fun b o e i _ => ?_, hfz⟩
  ·obtain ⟨f1, f2⟩ := flatD_at es i d hd
   have hl := (List.getElem?_eq_some_iff.1 hd).1
   rw [Nat.zero_add, World.ownsRow.cellAt h1 _ (by omega), World.ownsRow.cellAt h1 _ (by omega)]
   exact ⟨f1, f2⟩
  ·injection e with e
   injection e with e1 e2 _
   subst e1 e2
   exact World.ownsRow.frozenAt h1 _
end
theorem run_append_ints {P : Program} (w : World) (base : Nat) (t ty : TypeId) (i : TypeInfo) (z : Value) (ht : P.underlying t = some (.slice 3)) (hi : P.info? 3 = some i) (hz : i.zero = some z)
  (hsize : i.size = 1) (hby : i.bytes = 8) (hzs : z.cells.size = 1) (B : Nat) (sv : Value) (xs : List Int) (hr : IRow w B sv xs) (hlen : xs.length ≤ 1000000000) (hbase : base ≤ w.heap.size) :
  ∃ A c w', (Builtin.append_ #[t, t] ty #[.slice none 0 0, sv]).run P w = .ok (.slice A xs.length c) w' ∧ w'.ownsRow base 3 1 (.slice A xs.length c) xs.length (xs.map (.int .i64)) ∧ Below w.heap.size w w' := by
 obtain ⟨A, c, rfl, h1, h2, h3, h4⟩ := hr
 rw [List.length_map] at h1 h4 ⊢
 rcases A with _ | ad
 ·have hx : xs = [] := by
   rcases Nat.eq_zero_or_pos xs.length with h0 | h0
   ·exact List.eq_nil_of_length_eq_zero h0
   ·obtain ⟨b, o, he, _⟩ := h4 h0
    cases he
  subst hx
  obtain rfl := h3 rfl
  exact ⟨none, 0, w, run_append_owned_none w base t ty _ i 1 ht hi _ 0 [] (World.ownsRow_nil _ _ _ _), World.ownsRow_nil _ _ _ _, Below.refl _ _⟩
 ·obtain ⟨v', w', q1, q2, q3, _, _⟩ := run_append_own_at (P := P) w base t ty _ i z 1 8 ht hi hz hsize hby hzs (by omega) (.slice none 0 0) 0 [] (World.ownsRow_nil _ _ _ _) ad xs.length c (xs.map (.int .i64)) (by simp) (fun j u hu => by
   have hj : j < xs.length := by
    have := (List.getElem?_eq_some_iff.1 hu).1
    simpa using this
   obtain ⟨b, o, he, _, hc⟩ := h4 (by omega)
   obtain rfl : ad = ⟨b, o, none⟩ := by injection he
   rw [← hc j u hu, Go.WideShapes.add_plain]) (fun u hu => by
   obtain ⟨x, _, rfl⟩ := List.mem_map.1 hu
   simp [Value.oneCell']) (by simp only [maxLen]; omega) (by omega) hbase
  rw [Nat.zero_add, List.nil_append] at q2
  have hform : ∃ A c, v' = .slice A xs.length c := by
   rcases q2.2 with ⟨e, h0⟩ | ⟨g, cap, cur, e, _⟩
   ·exact ⟨none, 0, by rw [e, h0]⟩
   ·exact ⟨_, _, e⟩
  obtain ⟨A', c', rfl⟩ := hform
  exact ⟨A', c', w', q1, q2, q3.os, q3.tape, q3.output, q3.size, fun k hk => q3.block k hk (by simp [Value.ownBlock])⟩
theorem run_append_pred {P : Program} (w : World) (t ty : TypeId) (i : TypeInfo) (z : Value) (ht : P.underlying t = some (.slice 58)) (hi : P.info? 58 = some i) (hz : i.zero = some z)
  (hsize : i.size = 2) (hby : i.bytes = 40) (hzs : z.cells.size = 2) (n : Nat) (v : Value) (es : List Pd) (hs : OwnP w n v es) (ad : Addr) (c : Nat) (d : Pd)
  (hc0 : w.cell? (ad.add 0) = some (.string (strOfNums d.p.name))) (hc1 : w.cell? (ad.add 1) = some (.slice d.A d.p.args.length d.c)) (hd : OwnA w n d) (hf : d.Fits) (hlen : es.length + 1 ≤ 1000000001) (hbase : n ≤ w.heap.size) :
  ∃ v' w', (Builtin.append_ #[t, t] ty #[v, .slice (some ad) 1 c]).run P w = .ok v' w' ∧ OwnP w' n v' (es ++ [d]) ∧ w.grownBy w' v.ownBlock := by
 obtain ⟨v', w', q1, q2, q3, _, _⟩ := run_append_own_at (P := P) w n t ty _ i z 2 40 ht hi hz hsize hby hzs (by omega) v es.length (flatD es) hs.1 ad 1 c (flatD [d]) (by rw [flatD_length]; rfl) (fun j u hu => by
  match j with
  | 0 => rw [hc0]; simpa [flatD] using hu
  | 1 => rw [hc1]; simpa [flatD] using hu
  | j + 2 => simp [flatD] at hu) (fun u hu => by
  simp only [flatD, List.mem_cons, List.not_mem_nil, or_false] at hu
  rcases hu with rfl | rfl <;> rfl) (by simp only [maxLen]; omega) (by omega) hbase
 refine ⟨v', w', q1, ⟨by rw [flatD_append, List.length_append]; exact q2, fun e he => ?_⟩, q3⟩
 rcases List.mem_append.1 he with h | h
 ·exact ⟨(hs.2 e h).1.grown hs.1 q3, (hs.2 e h).2⟩
 ·obtain rfl : e = d := by simpa using h
  exact ⟨hd.grown hs.1 q3, hf⟩
section
variable {P : Program} {w : World} {ops : Array Oper} {o : Oper} {a : Act} {Q : Exit → Act → World → Prop} {K : Act → World → Prop} {E : Prop}
theorem step_append_ints (hgd : o.guard = none) (s x : Operand) (t : TypeId) (ho : o.op = .call { callee := .builtin .append, args := #[s, x], argTypes := #[t, t] })
  (base : Nat) (i : TypeInfo) (z : Value) (ht : P.underlying t = some (.slice 3)) (hi : P.info? 3 = some i) (hz : i.zero = some z) (hsize : i.size = 1) (hby : i.bytes = 8) (hzs : z.cells.size = 1)
  (hs : a.eval s = .slice none 0 0) (B : Nat) (sv : Value) (xs : List Int) (hx : a.eval x = sv) (hr : IRow w B sv xs) (hlen : xs.length ≤ 1000000000) (hbase : base ≤ w.heap.size) (N : Nat) (hN : xs.length = N)
  (h : ∀ A c w', w'.ownsRow base 3 1 (.slice A N c) N (xs.map (.int .i64)) → Below w.heap.size w w' → K (a.put o.dst (.slice A N c)) w') : if Region.wanted o (yielded ops a.tmps) = true then Oper.wp P o a w K Q else E := by
 have hw : Region.wanted o (yielded ops a.tmps) = true := by simp [Region.wanted, hgd]
 subst hN
 obtain ⟨A, c, w', hr, h2, h3⟩ := run_append_ints (P := P) w base t o.type i z ht hi hz hsize hby hzs B sv xs hr hlen hbase
 rw [if_pos hw]
 unfold Oper.wp execOp
 simp only [ho, resolve, invoke, builtin, Sem.run_bind, Sem.run_pure, Result.andThen_ok, List.map_toArray, List.map_cons, List.map_nil, hs, hx, hr]
 exact h A c w' h2 h3
theorem step_append_pred (hgd : o.guard = none) (s x : Operand) (t : TypeId) (ho : o.op = .call { callee := .builtin .append, args := #[s, x], argTypes := #[t, t] })
  (i : TypeInfo) (z : Value) (ht : P.underlying t = some (.slice 58)) (hi : P.info? 58 = some i) (hz : i.zero = some z) (hsize : i.size = 2) (hby : i.bytes = 40) (hzs : z.cells.size = 2)
  (n : Nat) (v : Value) (es : List Pd) (hs : a.eval s = v) (hown : OwnP w n v es) (ad : Addr) (c : Nat) (d : Pd) (hx : a.eval x = .slice (some ad) 1 c)
  (hc0 : w.cell? (ad.add 0) = some (.string (strOfNums d.p.name))) (hc1 : w.cell? (ad.add 1) = some (.slice d.A d.p.args.length d.c)) (hd : OwnA w n d) (hf : d.Fits) (hlen : es.length + 1 ≤ 1000000001) (hbase : n ≤ w.heap.size)
  (h : ∀ v' w', OwnP w' n v' (es ++ [d]) → w.grownBy w' v.ownBlock → K (a.put o.dst v') w') : if Region.wanted o (yielded ops a.tmps) = true then Oper.wp P o a w K Q else E := by
 have hw : Region.wanted o (yielded ops a.tmps) = true := by simp [Region.wanted, hgd]
 obtain ⟨v', w', hr, h2, h3⟩ := run_append_pred (P := P) w t o.type i z ht hi hz hsize hby hzs n v es hown ad c d hc0 hc1 hd hf hlen hbase
 rw [if_pos hw]
 unfold Oper.wp execOp
 simp only [ho, resolve, invoke, builtin, Sem.run_bind, Sem.run_pure, Result.andThen_ok, List.map_toArray, List.map_cons, List.map_nil, hs, hx, hr]
 exact h v' w' h2 h3
end
theorem own_form {w : World} {n k : Nat} {e : TypeId} {size : Nat} {v : Value} {us : List Value} (h : w.ownsRow n e size v k us) : ∃ A c, v = .slice A k c := by
 rcases h.2 with ⟨rfl, rfl⟩ | ⟨g, cap, cur, rfl, _⟩
 ·exact ⟨none, 0, rfl⟩
 ·exact ⟨_, _, rfl⟩
theorem own_base {w : World} {n m k : Nat} {e : TypeId} {size : Nat} {v : Value} {us : List Value} (h : w.ownsRow n e size v k us) (hm : m ≤ n) : w.ownsRow m e size v k us := by
 refine ⟨h.1, ?_⟩
 rcases h.2 with h2 | ⟨g, cap, cur, q1, q2, q3⟩
 ·exact .inl h2
 ·exact .inr ⟨g, cap, cur, q1, Nat.le_trans hm q2, q3⟩
theorem own_low {w : World} {n m k : Nat} {e : TypeId} {size : Nat} {v : Value} {us : List Value} (h : w.ownsRow n e size v k us) (hm : m < n) : v.ownBlock ≠ some m := fun e => by
 have := (World.ownsRow.lt h m e).1
 omega
theorem own_put1 {w : World} {n m k i : Nat} {e : TypeId} {size : Nat} {v u : Value} {us : List Value} (h : w.ownsRow n e size v k us) (hm : m < n) : (w.setCell ⟨m, i, none⟩ u).ownsRow n e size v k us :=
 World.ownsRow.kept h (grown_put w m i u) (.inr (own_low h hm))
theorem below_put {w : World} {B m i : Nat} (u : Value) (hm : B ≤ m) : Below B w (w.setCell ⟨m, i, none⟩ u) := (Below.refl _ _).setCell (p := ⟨m, i, none⟩) hm u
section
variable {P : Program} {w : World} {ops : Array Oper} {rest : List Oper} {o : Oper} {a : Act} {Q : Exit → Act → World → Prop}
theorem wpList_append_pred (hgd : o.guard = none) (s x : Operand) (t : TypeId) (ho : o.op = .call { callee := .builtin .append, args := #[s, x], argTypes := #[t, t] })
  (i : TypeInfo) (z : Value) (ht : P.underlying t = some (.slice 58)) (hi : P.info? 58 = some i) (hz : i.zero = some z) (hsize : i.size = 2) (hby : i.bytes = 40) (hzs : z.cells.size = 2)
  (n : Nat) (v : Value) (es : List Pd) (hs : a.eval s = v) (hown : OwnP w n v es) (ad : Addr) (c : Nat) (d : Pd) (hx : a.eval x = .slice (some ad) 1 c)
  (hc0 : w.cell? (ad.add 0) = some (.string (strOfNums d.p.name))) (hc1 : w.cell? (ad.add 1) = some (.slice d.A d.p.args.length d.c)) (hd : OwnA w n d) (hf : d.Fits) (hlen : es.length + 1 ≤ 1000000001) (hbase : n ≤ w.heap.size)
  (h : ∀ v' w', OwnP w' n v' (es ++ [d]) → w.grownBy w' v.ownBlock → wpList P ops Q rest (a.put o.dst v') w') : wpList P ops Q (o :: rest) a w := by
 refine wpList_plain hgd fun K hK => ?_
 obtain ⟨v', w', hr, h2, h3⟩ := run_append_pred (P := P) w t o.type i z ht hi hz hsize hby hzs n v es hown ad c d hc0 hc1 hd hf hlen hbase
 unfold Oper.wp execOp
 simp only [ho, resolve, invoke, builtin, Sem.run_bind, Sem.run_pure, Result.andThen_ok, List.map_toArray, List.map_cons, List.map_nil, hs, hx, hr]
 exact hK _ _ (h v' w' h2 h3)
end
theorem OwnA.base {w : World} {n m : Nat} {d : Pd} (h : OwnA w n d) (hm : m ≤ n) : OwnA w m d := own_base h hm
theorem OwnP.base {w : World} {n m : Nat} {v : Value} {es : List Pd} (h : OwnP w n v es) (hm : m ≤ n) : OwnP w m v es := ⟨own_base h.1 hm, fun d hd => ⟨(h.2 d hd).1.base hm, (h.2 d hd).2⟩⟩
theorem row_one {w : World} {g : Nat} {d : Pd} (h : Held w g 58 #[.string (strOfNums d.p.name), .slice d.A d.p.args.length d.c]) (hr : IRow w w.heap.size (.slice d.A d.p.args.length d.c) d.p.args) (hf : d.Fits) :
  PredRow w w.heap.size (.slice (some ⟨g, 0, none⟩) [d].length 1) [d] := by
 refine ⟨_, _, rfl, Nat.le_refl _, by unfold maxLen; omega, by simp, fun _ => ⟨g, 0, rfl, h.lt, fun i e he => ?_⟩, fun e he => ?_⟩
 ·match i with
  | 0 =>
   simp only [List.getElem?_cons_zero, Option.some.injEq] at he
   subst he
   exact ⟨h.cell 0, h.cell 1⟩
  | i + 1 => simp at he
 ·obtain rfl : e = d := by simpa using he
  exact ⟨hr, hf⟩
theorem prs_ext {l m : List Pr} (hl : l.length = m.length) (h : ∀ i, i < l.length → l.getD i default = m.getD i default) : l = m := by
 refine List.ext_getElem hl fun i h1 h2 => ?_
 have := h i h1
 simpa [List.getD, List.getElem?_eq_getElem h1, List.getElem?_eq_getElem h2] using this
theorem args_ext {l m : List Int} (hl : l.length = m.length) (h : ∀ i, i < l.length → l.getD i 0 = m.getD i 0) : l = m := by
 refine List.ext_getElem hl fun i h1 h2 => ?_
 have := h i h1
 simpa [List.getD, List.getElem?_eq_getElem h1, List.getElem?_eq_getElem h2] using this
theorem drewN_low (w : World) (n : Nat) (B : Nat) : Below B w (w.drewN n) := ⟨rfl, rfl, rfl, Nat.le_refl _, fun _ _ => rfl⟩
structure Ag where
 t : Int
 n : Int
 s : List Int
 deriving DecidableEq
instance : Inhabited Ag := ⟨⟨0, 0, []⟩⟩
structure Ev where
 p : Int
 args : List Ag
 deriving DecidableEq
instance : Inhabited Ev := ⟨⟨0, []⟩⟩
structure Pn where
 tm : Int
 evs : List Ev
 deriving DecidableEq
instance : Inhabited Pn := ⟨⟨0, []⟩⟩
def whyG (t : Int) (a : Ag) : Int := if a.t ≠ t then 7 else if t = 1 ∧ a.s ≠ [] then 1 else if t = 2 ∧ a.n ≠ 0 then 1 else if 200 < a.s.length then 6 else 0
def eventT (sig : List Pr) (e : Ev) : Int :=
 if e.p < 0 ∨ (sig.length : Int) ≤ e.p then 9
 else if e.args.length ≠ (sig.getD e.p.toNat default).args.length then 1
 else firstWhy (fun i => whyG ((sig.getD e.p.toNat default).args.getD i 0) (e.args.getD i default)) e.args.length 0
def whyE (sig : List Pr) (l : List Ev) : Int := if 1024 < l.length then 6 else firstWhy (fun k => eventT sig (l.getD k default)) l.length 0
def whyT (sig : List Pr) (t : List Pn) (i : Nat) : Int :=
 if 0 < i ∧ (t.getD i default).tm < (t.getD (i - 1) default).tm then 8 else whyE sig (t.getD i default).evs
def firstBad (f : Nat → Int) : Nat → Nat → Int × Int
 | 0, _ => (0, 0)
 | n + 1, a => if f a = 0 then firstBad f n (a + 1) else (f a, (a : Int))
def checkT (sig : List Pr) (t : List Pn) : Int × Int := if checkP sig = 0 then firstBad (whyT sig t) t.length 0 else (checkP sig, 0)
theorem eventT_name {sig : List Pr} {e : Ev} (h : e.p < 0 ∨ (sig.length : Int) ≤ e.p) : eventT sig e = 9 := if_pos h
section
variable {sig : List Pr} {e : Ev} {k : Nat} {p : Pr}
theorem eventT_has (hk : e.p = (k : Int)) (hp : sig[k]? = some p) : eventT sig e = if e.args.length ≠ p.args.length then 1 else firstWhy (fun i => whyG (p.args.getD i 0) (e.args.getD i default)) e.args.length 0 := by
 have hl := (List.getElem?_eq_some_iff.1 hp).1
 unfold eventT
 rw [if_neg (by omega), hk, Int.toNat_natCast, show sig.getD k default = p by simp [List.getD, hp]]
theorem eventT_arg (hk : e.p = (k : Int)) (hp : sig[k]? = some p) (h : e.args.length ≠ p.args.length) : eventT sig e = 1 := by rw [eventT_has hk hp, if_pos h]
theorem eventT_found (hk : e.p = (k : Int)) (hp : sig[k]? = some p) (h : e.args.length = p.args.length) {r : Nat} (hr : r < e.args.length) (h3 : ∀ j, j < r → whyG (p.args.getD j 0) (e.args.getD j default) = 0) (h4 : whyG (p.args.getD r 0) (e.args.getD r default) ≠ 0) :
  eventT sig e = whyG (p.args.getD r 0) (e.args.getD r default) := by
 rw [eventT_has hk hp, if_neg (by omega)]
 exact firstWhy_found _ _ r (Nat.zero_le _) (by omega) (fun j _ hj => h3 j hj) h4
theorem eventT_none (hk : e.p = (k : Int)) (hp : sig[k]? = some p) (h : e.args.length = p.args.length) (h3 : ∀ j, j < e.args.length → whyG (p.args.getD j 0) (e.args.getD j default) = 0) : eventT sig e = 0 := by
 rw [eventT_has hk hp, if_neg (by omega)]
 exact firstWhy_none _ _ (fun j _ hj => h3 j (by omega))
end
theorem whyE_many {sig : List Pr} {l : List Ev} (h : 1024 < l.length) : whyE sig l = 6 := if_pos h
theorem whyE_found {sig : List Pr} {l : List Ev} (h : l.length ≤ 1024) {r : Nat} (hr : r < l.length) (h3 : ∀ j, j < r → eventT sig (l.getD j default) = 0) (h4 : eventT sig (l.getD r default) ≠ 0) : whyE sig l = eventT sig (l.getD r default) := by
 unfold whyE
 rw [if_neg (by omega)]
 exact firstWhy_found _ _ r (Nat.zero_le _) (by omega) (fun j _ hj => h3 j hj) h4
theorem whyE_none {sig : List Pr} {l : List Ev} (h : l.length ≤ 1024) (h3 : ∀ j, j < l.length → eventT sig (l.getD j default) = 0) : whyE sig l = 0 := by
 unfold whyE
 rw [if_neg (by omega)]
 exact firstWhy_none _ _ (fun j _ hj => h3 j (by omega))
theorem firstBad_none {f : Nat → Int} : ∀ (n a : Nat), (∀ j, a ≤ j → j < a + n → f j = 0) → firstBad f n a = (0, 0)
 | 0, _, _ => rfl
 | n + 1, a, h => by
  rw [firstBad, if_pos (h a (Nat.le_refl _) (by omega))]
  exact firstBad_none n (a + 1) fun j h1 h2 => h j (by omega) (by omega)
theorem firstBad_found {f : Nat → Int} : ∀ (n a r : Nat), a ≤ r → r < a + n → (∀ j, a ≤ j → j < r → f j = 0) → f r ≠ 0 → firstBad f n a = (f r, (r : Int))
 | 0, a, r, h1, h2, _, _ => by omega
 | n + 1, a, r, h1, h2, h3, h4 => by
  by_cases he : r = a
  ·subst he
   rw [firstBad, if_neg h4]
  ·rw [firstBad, if_pos (h3 a (Nat.le_refl _) (by omega))]
   exact firstBad_found n (a + 1) r (by omega) (by omega) (fun j h5 h6 => h3 j (by omega) h6) h4
theorem firstBad_zero {f : Nat → Int} : ∀ (n a : Nat), (firstBad f n a).1 = 0 → ∀ j, a ≤ j → j < a + n → f j = 0
 | 0, a, _, j, h1, h2 => by omega
 | n + 1, a, h, j, h1, h2 => by
  unfold firstBad at h
  by_cases hf : f a = 0
  ·rw [if_pos hf] at h
   by_cases he : j = a
   ·rw [he]; exact hf
   ·exact firstBad_zero n (a + 1) h j (by omega) (by omega)
  ·rw [if_neg hf] at h
   exact absurd h hf
section
variable {sig : List Pr} {t : List Pn}
theorem checkT_sig (h : checkP sig ≠ 0) : checkT sig t = (checkP sig, 0) := if_neg h
theorem checkT_found (h : checkP sig = 0) {r : Nat} (hr : r < t.length) (h3 : ∀ j, j < r → whyT sig t j = 0) (h4 : whyT sig t r ≠ 0) : checkT sig t = (whyT sig t r, (r : Int)) := by
 unfold checkT
 rw [if_pos h]
 exact firstBad_found _ _ r (Nat.zero_le _) (by omega) (fun j _ hj => h3 j hj) h4
theorem checkT_none (h : checkP sig = 0) (h3 : ∀ j, j < t.length → whyT sig t j = 0) : checkT sig t = (0, 0) := by
 unfold checkT
 rw [if_pos h]
 exact firstBad_none _ _ (fun j _ hj => h3 j (by omega))
theorem whyT_order {r : Nat} (h : 0 < r ∧ (t.getD r default).tm < (t.getD (r - 1) default).tm) : whyT sig t r = 8 := if_pos h
theorem whyT_else {r : Nat} (h : ¬ (0 < r ∧ (t.getD r default).tm < (t.getD (r - 1) default).tm)) : whyT sig t r = whyE sig (t.getD r default).evs := if_neg h
theorem checkT_zero : (checkT sig t).1 = 0 ↔ checkP sig = 0 ∧ ∀ j, j < t.length → whyT sig t j = 0 := by
 constructor
 ·intro h
  by_cases hs : checkP sig = 0
  ·unfold checkT at h
   rw [if_pos hs] at h
   exact ⟨hs, fun j hj => firstBad_zero _ _ h j (Nat.zero_le _) (by omega)⟩
  ·rw [checkT_sig hs] at h
   exact absurd h hs
 ·rintro ⟨hs, h⟩
  rw [checkT_none hs h]
theorem checkT_take (h : (checkT sig t).1 = 0) (k : Nat) : checkT sig (t.take k) = (0, 0) := by
 obtain ⟨hs, ha⟩ := checkT_zero.1 h
 refine checkT_none hs fun j hj => ?_
 rw [List.length_take] at hj
 have := ha j (by omega)
 unfold whyT at this ⊢
 have e : ∀ i, i < k → (t.take k).getD i default = t.getD i default := fun i hi => by simp [List.getD, hi]
 rwa [e j (by omega), e (j - 1) (by omega)]
theorem checkT_drop (h : (checkT sig t).1 = 0) (k : Nat) : checkT sig (t.drop k) = (0, 0) := by
 obtain ⟨hs, ha⟩ := checkT_zero.1 h
 refine checkT_none hs fun j hj => ?_
 rw [List.length_drop] at hj
 have := ha (k + j) (by omega)
 have e : ∀ i, (t.drop k).getD i default = t.getD (k + i) default := fun i => by simp [List.getD, List.getElem?_drop]
 by_cases h0 : 0 < j
 ·unfold whyT at this ⊢
  rw [e j, e (j - 1), show k + (j - 1) = k + j - 1 by omega]
  by_cases hc : (t.getD (k + j) default).tm < (t.getD (k + j - 1) default).tm
  ·rw [if_pos ⟨by omega, hc⟩] at this
   cases this
  ·rw [if_neg (by omega)] at this ⊢
   exact this
 ·rw [whyT_else (by omega), e j]
  by_cases hc : 0 < k + j ∧ (t.getD (k + j) default).tm < (t.getD (k + j - 1) default).tm
  ·rw [whyT_order hc] at this
   cases this
  ·rw [whyT_else hc] at this
   exact this
end
def sumS : List Ag → Nat
 | [] => 0
 | a :: l => a.s.length + sumS l
theorem sumS_append : ∀ l m : List Ag, sumS (l ++ m) = sumS l + sumS m
 | [], m => by simp [sumS]
 | a :: l, m => by simp only [List.cons_append, sumS, sumS_append l m]; omega
open Go.RowKit Go.ChangeShapes Go.WideShapes
def ERow (w : World) (B : Nat) (v : Value) (n : Nat) (us : List Value) : Prop :=
 ∃ A c, v = .slice A n c ∧ n ≤ c ∧ c ≤ maxLen ∧ (A = none → c = 0) ∧ (0 < n → ∃ b o, A = some ⟨b, o, none⟩ ∧ b < B ∧ ∀ i u, us[i]? = some u → w.cell? ⟨b, o + i, none⟩ = some u)
section
variable {w w' : World} {B B' n : Nat} {v : Value} {us : List Value}
theorem ERow.keep (h : ERow w B v n us) (hk : ∀ p : Addr, p.block < B → w'.cell? p = w.cell? p) : ERow w' B v n us := by
 obtain ⟨A, c, hv, h1, h2, h3, h4⟩ := h
 refine ⟨A, c, hv, h1, h2, h3, fun hn => ?_⟩
 obtain ⟨b, o, e, hlt, hc⟩ := h4 hn
 exact ⟨b, o, e, hlt, fun i u hi => (hk ⟨b, o + i, none⟩ hlt).trans (hc i u hi)⟩
theorem ERow.below (h : ERow w B v n us) (hb : Below B w w') : ERow w' B v n us := h.keep fun _ hp => hb.cell hp
theorem ERow.more (h : ERow w B v n us) (hB : B ≤ B') : ERow w B' v n us := by
 obtain ⟨A, c, hv, h1, h2, h3, h4⟩ := h
 refine ⟨A, c, hv, h1, h2, h3, fun hn => ?_⟩
 obtain ⟨b, o, e, hlt, hc⟩ := h4 hn
 exact ⟨b, o, e, Nat.lt_of_lt_of_le hlt hB, hc⟩
theorem ERow.nil (w : World) (B : Nat) : ERow w B (.slice none 0 0) 0 [] := ⟨none, 0, rfl, Nat.le_refl _, Nat.zero_le _, fun _ => rfl, fun h => absurd h (by simp)⟩
theorem ERow.form (h : ERow w B v n us) : ∃ A c, v = .slice A n c ∧ n ≤ c ∧ c ≤ 9223372036854775807 := by
 obtain ⟨A, c, hv, h1, h2, _⟩ := h
 unfold maxLen at h2
 exact ⟨A, c, hv, h1, by omega⟩
theorem ERow.len {A : Option Addr} {m c : Nat} (h : ERow w B (.slice A m c) n us) : m = n ∧ n ≤ c ∧ c ≤ 9223372036854775807 := by
 obtain ⟨A', c', hv, h1, h2⟩ := h.form
 injection hv with _ e2 e3
 exact ⟨e2, by omega, by omega⟩
theorem ERow.block {A : Option Addr} {m c : Nat} (h : ERow w B (.slice A m c) n us) (hn : 0 < n) : ∃ b o, A = some ⟨b, o, none⟩ ∧ b < B ∧ ∀ i u, us[i]? = some u → w.cell? ⟨b, o + i, none⟩ = some u := by
 obtain ⟨A', c', hv, _, _, _, h4⟩ := h
 injection hv with e1 _ _
 obtain ⟨b, o, e, r⟩ := h4 hn
 exact ⟨b, o, e1.trans e, r⟩
theorem ERow.of_own {base k : Nat} {e : TypeId} (h : w.ownsRow base e k v n us) : ERow w w.heap.size v n us := by
 rcases h.2 with ⟨rfl, rfl⟩ | ⟨g, cap, cur, rfl, _, hg, q1, q2, _⟩
 ·exact ⟨none, 0, rfl, Nat.le_refl _, Nat.zero_le _, fun _ => rfl, fun h => absurd h (by simp)⟩
 ·refine ⟨_, cap, rfl, q1, q2, by simp, fun _ => ⟨g, 0, rfl, (Array.getElem?_eq_some_iff.1 hg).1, fun i u hi => ?_⟩⟩
  have hl := (List.getElem?_eq_some_iff.1 hi).1
  rw [h.1] at hl
  rw [Nat.zero_add, World.ownsRow.cellAt h i hl]
  exact hi
end
def flatG : List Ag → List Value
 | [] => []
 | a :: l => .int .i64 a.t :: .int .i64 a.n :: .string (strOfNums a.s) :: flatG l
structure Em where
 p : Int
 args : List Ag
 A : Option Addr
 c : Nat
abbrev Em.e (d : Em) : Ev := ⟨d.p, d.args⟩
abbrev Em.val (d : Em) : Value := .agg #[.int .i64 d.p, .slice d.A d.args.length d.c]
def flatE : List Em → List Value
 | [] => []
 | d :: l => .int .i64 d.p :: .slice d.A d.args.length d.c :: flatE l
structure Pm where
 tm : Int
 evs : List Em
 A : Option Addr
 c : Nat
abbrev Pm.p (d : Pm) : Pn := ⟨d.tm, d.evs.map (·.e)⟩
abbrev Pm.val (d : Pm) : Value := .agg #[.int .u64 d.tm, .slice d.A d.evs.length d.c]
def flatN : List Pm → List Value
 | [] => []
 | d :: l => .int .u64 d.tm :: .slice d.A d.evs.length d.c :: flatN l
abbrev Ag.val (a : Ag) : Value := .agg #[.int .i64 a.t, .int .i64 a.n, .string (strOfNums a.s)]
theorem flatG_length : ∀ l : List Ag, (flatG l).length = l.length * 3
 | [] => rfl
 | a :: l => by simp only [flatG, List.length_cons, flatG_length l]; omega
theorem flatE_length : ∀ l : List Em, (flatE l).length = l.length * 2
 | [] => rfl
 | a :: l => by simp only [flatE, List.length_cons, flatE_length l]; omega
theorem flatN_length : ∀ l : List Pm, (flatN l).length = l.length * 2
 | [] => rfl
 | a :: l => by simp only [flatN, List.length_cons, flatN_length l]; omega
theorem flatG_append : ∀ l m : List Ag, flatG (l ++ m) = flatG l ++ flatG m
 | [], _ => rfl
 | a :: l, m => by simp only [List.cons_append, flatG, flatG_append l m]
theorem flatE_append : ∀ l m : List Em, flatE (l ++ m) = flatE l ++ flatE m
 | [], _ => rfl
 | a :: l, m => by simp only [List.cons_append, flatE, flatE_append l m]
theorem flatN_append : ∀ l m : List Pm, flatN (l ++ m) = flatN l ++ flatN m
 | [], _ => rfl
 | a :: l, m => by simp only [List.cons_append, flatN, flatN_append l m]
theorem flatG_at : ∀ (l : List Ag) (i : Nat) (a : Ag), l[i]? = some a → (flatG l)[i * 3]? = some (.int .i64 a.t) ∧ (flatG l)[i * 3 + 1]? = some (.int .i64 a.n) ∧ (flatG l)[i * 3 + 2]? = some (.string (strOfNums a.s))
 | [], i, d, h => by simp at h
 | e :: l, 0, d, h => by
  simp only [List.getElem?_cons_zero, Option.some.injEq] at h
  subst h
  exact ⟨rfl, rfl, rfl⟩
 | e :: l, i + 1, d, h => by
  rw [List.getElem?_cons_succ] at h
  rw [flatG, show (i + 1) * 3 = i * 3 + 1 + 1 + 1 by omega]
  simp only [List.getElem?_cons_succ]
  exact flatG_at l i d h
theorem flatE_at : ∀ (l : List Em) (i : Nat) (d : Em), l[i]? = some d → (flatE l)[i * 2]? = some (.int .i64 d.p) ∧ (flatE l)[i * 2 + 1]? = some (.slice d.A d.args.length d.c)
 | [], i, d, h => by simp at h
 | e :: l, 0, d, h => by
  simp only [List.getElem?_cons_zero, Option.some.injEq] at h
  subst h
  exact ⟨rfl, rfl⟩
 | e :: l, i + 1, d, h => by
  rw [List.getElem?_cons_succ] at h
  rw [flatE, show (i + 1) * 2 = i * 2 + 1 + 1 by omega, List.getElem?_cons_succ, List.getElem?_cons_succ, List.getElem?_cons_succ, List.getElem?_cons_succ]
  exact flatE_at l i d h
theorem flatN_at : ∀ (l : List Pm) (i : Nat) (d : Pm), l[i]? = some d → (flatN l)[i * 2]? = some (.int .u64 d.tm) ∧ (flatN l)[i * 2 + 1]? = some (.slice d.A d.evs.length d.c)
 | [], i, d, h => by simp at h
 | e :: l, 0, d, h => by
  simp only [List.getElem?_cons_zero, Option.some.injEq] at h
  subst h
  exact ⟨rfl, rfl⟩
 | e :: l, i + 1, d, h => by
  rw [List.getElem?_cons_succ] at h
  rw [flatN, show (i + 1) * 2 = i * 2 + 1 + 1 by omega, List.getElem?_cons_succ, List.getElem?_cons_succ, List.getElem?_cons_succ, List.getElem?_cons_succ]
  exact flatN_at l i d h
def Ag.Fits (a : Ag) : Prop := a.s.length ≤ maxLen ∧ (∀ x ∈ a.s, 0 ≤ x ∧ x < 256) ∧ (-9223372036854775808 ≤ a.t ∧ a.t ≤ 9223372036854775807) ∧ (-9223372036854775808 ≤ a.n ∧ a.n ≤ 9223372036854775807)
def GRow (w : World) (B : Nat) (v : Value) (l : List Ag) : Prop := ERow w B v l.length (flatG l) ∧ ∀ a ∈ l, a.Fits
def Em.Fits (d : Em) : Prop := -9223372036854775808 ≤ d.p ∧ d.p ≤ 9223372036854775807
def Em.Ok (w : World) (B : Nat) (d : Em) : Prop := GRow w B (.slice d.A d.args.length d.c) d.args ∧ d.Fits
def EvRow (w : World) (B : Nat) (v : Value) (l : List Em) : Prop := ERow w B v l.length (flatE l) ∧ ∀ d ∈ l, d.Ok w B
def Pm.Fits (d : Pm) : Prop := 0 ≤ d.tm ∧ d.tm < 18446744073709551616
def Pm.Ok (w : World) (B : Nat) (d : Pm) : Prop := EvRow w B (.slice d.A d.evs.length d.c) d.evs ∧ d.Fits
def TrRow (w : World) (B : Nat) (v : Value) (l : List Pm) : Prop := ERow w B v l.length (flatN l) ∧ ∀ d ∈ l, d.Ok w B
section
variable {w w' : World} {B B' : Nat} {v : Value}
theorem GRow.below {l : List Ag} (h : GRow w B v l) (hb : Below B w w') : GRow w' B v l := ⟨h.1.below hb, h.2⟩
theorem GRow.more {l : List Ag} (h : GRow w B v l) (hB : B ≤ B') : GRow w B' v l := ⟨h.1.more hB, h.2⟩
theorem Em.Ok.below {d : Em} (h : d.Ok w B) (hb : Below B w w') : d.Ok w' B := ⟨h.1.below hb, h.2⟩
theorem Em.Ok.more {d : Em} (h : d.Ok w B) (hB : B ≤ B') : d.Ok w B' := ⟨h.1.more hB, h.2⟩
theorem EvRow.below {l : List Em} (h : EvRow w B v l) (hb : Below B w w') : EvRow w' B v l := ⟨h.1.below hb, fun d hd => (h.2 d hd).below hb⟩
theorem EvRow.more {l : List Em} (h : EvRow w B v l) (hB : B ≤ B') : EvRow w B' v l := ⟨h.1.more hB, fun d hd => (h.2 d hd).more hB⟩
theorem Pm.Ok.below {d : Pm} (h : d.Ok w B) (hb : Below B w w') : d.Ok w' B := ⟨h.1.below hb, h.2⟩
theorem Pm.Ok.more {d : Pm} (h : d.Ok w B) (hB : B ≤ B') : d.Ok w B' := ⟨h.1.more hB, h.2⟩
theorem TrRow.below {l : List Pm} (h : TrRow w B v l) (hb : Below B w w') : TrRow w' B v l := ⟨h.1.below hb, fun d hd => (h.2 d hd).below hb⟩
theorem TrRow.more {l : List Pm} (h : TrRow w B v l) (hB : B ≤ B') : TrRow w B' v l := ⟨h.1.more hB, fun d hd => (h.2 d hd).more hB⟩
theorem GRow.at {A : Option Addr} {n c : Nat} {l : List Ag} (h : GRow w B (.slice A n c) l) {i : Nat} {a : Ag} (ha : l[i]? = some a) : ∃ b o, A = some ⟨b, o, none⟩ ∧ b < B ∧
  w.cell? ⟨b, o + i * 3, none⟩ = some (.int .i64 a.t) ∧ w.cell? ⟨b, o + i * 3 + 1, none⟩ = some (.int .i64 a.n) ∧ w.cell? ⟨b, o + i * 3 + 2, none⟩ = some (.string (strOfNums a.s)) ∧ a.Fits := by
 have hlt := (List.getElem?_eq_some_iff.1 ha).1
 obtain ⟨b, o, e, hb, hc⟩ := h.1.block (by omega)
 obtain ⟨f0, f1, f2⟩ := flatG_at l i a ha
 exact ⟨b, o, e, hb, hc _ _ f0, hc _ _ f1, hc _ _ f2, h.2 a (List.mem_of_getElem? ha)⟩
theorem EvRow.at {A : Option Addr} {n c : Nat} {l : List Em} (h : EvRow w B (.slice A n c) l) {i : Nat} {d : Em} (hd : l[i]? = some d) : ∃ b o, A = some ⟨b, o, none⟩ ∧ b < B ∧
  w.cell? ⟨b, o + i * 2, none⟩ = some (.int .i64 d.p) ∧ w.cell? ⟨b, o + i * 2 + 1, none⟩ = some (.slice d.A d.args.length d.c) ∧ d.Ok w B ∧ d.args.length ≤ d.c ∧ d.c ≤ 9223372036854775807 := by
 have hlt := (List.getElem?_eq_some_iff.1 hd).1
 obtain ⟨b, o, e, hb, hc⟩ := h.1.block (by omega)
 obtain ⟨f0, f1⟩ := flatE_at l i d hd
 have hk := h.2 d (List.mem_of_getElem? hd)
 obtain ⟨_, l1, l2⟩ := hk.1.1.len
 exact ⟨b, o, e, hb, hc _ _ f0, hc _ _ f1, hk, l1, l2⟩
theorem TrRow.at {A : Option Addr} {n c : Nat} {l : List Pm} (h : TrRow w B (.slice A n c) l) {i : Nat} {d : Pm} (hd : l[i]? = some d) : ∃ b o, A = some ⟨b, o, none⟩ ∧ b < B ∧
  w.cell? ⟨b, o + i * 2, none⟩ = some (.int .u64 d.tm) ∧ w.cell? ⟨b, o + i * 2 + 1, none⟩ = some (.slice d.A d.evs.length d.c) ∧ d.Ok w B ∧ d.evs.length ≤ d.c ∧ d.c ≤ 9223372036854775807 := by
 have hlt := (List.getElem?_eq_some_iff.1 hd).1
 obtain ⟨b, o, e, hb, hc⟩ := h.1.block (by omega)
 obtain ⟨f0, f1⟩ := flatN_at l i d hd
 have hk := h.2 d (List.mem_of_getElem? hd)
 obtain ⟨_, l1, l2⟩ := hk.1.1.len
 exact ⟨b, o, e, hb, hc _ _ f0, hc _ _ f1, hk, l1, l2⟩
theorem flatN_take : ∀ (l : List Pm) (k : Nat), flatN (l.take k) = (flatN l).take (k * 2)
 | [], k => by simp [flatN]
 | d :: l, 0 => by simp [flatN]
 | d :: l, k + 1 => by rw [List.take_succ_cons, flatN, flatN, flatN_take l k, show (k + 1) * 2 = k * 2 + 1 + 1 by omega, List.take_succ_cons, List.take_succ_cons]
theorem flatN_drop : ∀ (l : List Pm) (k : Nat), flatN (l.drop k) = (flatN l).drop (k * 2)
 | [], k => by simp [flatN]
 | d :: l, 0 => by simp
 | d :: l, k + 1 => by rw [List.drop_succ_cons, flatN, flatN_drop l k, show (k + 1) * 2 = k * 2 + 1 + 1 by omega, List.drop_succ_cons, List.drop_succ_cons]
theorem TrRow.take {A : Option Addr} {n c : Nat} {l : List Pm} (h : TrRow w B (.slice A n c) l) {k : Nat} (hk : k ≤ l.length) : TrRow w B (.slice A (l.take k).length c) (l.take k) := by
 obtain ⟨⟨A', c', hv, h1, h2, h3, h4⟩, h5⟩ := h
 injection hv with e1 e2 e3
 subst e1 e3
 have hl : (l.take k).length = k := by simp; omega
 refine ⟨⟨A, c, rfl, by omega, h2, h3, fun hn => ?_⟩, fun d hd => h5 d (List.mem_of_mem_take hd)⟩
 obtain ⟨b, o, e, hb, hc⟩ := h4 (by omega)
 refine ⟨b, o, e, hb, fun i u hi => hc i u ?_⟩
 rw [flatN_take] at hi
 rw [List.getElem?_take] at hi
 split at hi
 ·exact hi
 ·cases hi
end
theorem at_pn {l : List Pm} {i : Nat} {d : Pm} (h : l[i]? = some d) : (l.map (·.p))[i]? = some d.p := by rw [List.getElem?_map, h]; rfl
theorem at_ev {l : List Em} {i : Nat} {d : Em} (h : l[i]? = some d) : (l.map (·.e))[i]? = some d.e := by rw [List.getElem?_map, h]; rfl
theorem getD_of {α : Type} [Inhabited α] {l : List α} {i : Nat} {a : α} (h : l[i]? = some a) : l.getD i default = a := by simp [List.getD, h]
theorem Tryz.infoArg : (Tryz.prog.info? 135).map (fun i => (i.zero, i.size, i.bytes)) = some (some (.agg #[.int .i64 0, .int .i64 0, .string ⟨#[]⟩]), 3, 32) := by kernel_rfl
theorem Tryz.infoEvent : (Tryz.prog.info? 91).map (fun i => (i.zero, i.size, i.bytes)) = some (some (.agg #[.int .i64 0, .slice none 0 0]), 2, 32) := by kernel_rfl
theorem Tryz.infoPoint : (Tryz.prog.info? 55).map (fun i => (i.zero, i.size, i.bytes)) = some (some (.agg #[.int .u64 0, .slice none 0 0]), 2, 32) := by kernel_rfl
theorem own_none {w : World} {base : Nat} {e : TypeId} {size : Nat} (hb : base ≤ w.heap.size) : (w.alloc (.cells #[] e)).ownsRow base e size (.slice (some ⟨w.heap.size, 0, none⟩) 0 0) 0 [] :=
 ⟨by simp, .inr ⟨w.heap.size, 0, #[], rfl, hb, heap_alloc_new w _, Nat.le_refl _, Nat.zero_le _, by simp, by simp⟩⟩
theorem ERow.held {w : World} {g B n : Nat} {t : TypeId} {us : List Value} (h : Held w g t us.toArray) (hB : g < B) (hn : n ≤ maxLen) : ERow w B (.slice (some ⟨g, 0, none⟩) n n) n us :=
 ⟨_, _, rfl, Nat.le_refl _, hn, by simp, fun _ => ⟨g, 0, rfl, hB, fun i u hi => by rw [Nat.zero_add, h.cell i]; simpa using hi⟩⟩
theorem ERow.new (w : World) (t : TypeId) (us : List Value) {n : Nat} (hn : n ≤ maxLen) : ERow (w.alloc (.cells us.toArray t)) (w.alloc (.cells us.toArray t)).heap.size (.slice (some ⟨w.heap.size, 0, none⟩) n n) n us :=
 ERow.held (t := t) (heap_alloc_new w _) (by simp) hn
theorem run_append_erow {P : Program} (w : World) (base : Nat) (t ty e : TypeId) (i : TypeInfo) (z : Value) (size bytes : Nat) (ht : P.underlying t = some (.slice e)) (hi : P.info? e = some i) (hz : i.zero = some z)
  (hsize : i.size = size) (hby : i.bytes = bytes) (hzs : z.cells.size = size) (hsz : 0 < size) (v : Value) (n : Nat) (xs : List Value) (hown : w.ownsRow base e size v n xs)
  (B : Nat) (sv : Value) (m : Nat) (us : List Value) (hr : ERow w B sv m us) (hl : us.length = m * size) (h1 : ∀ u ∈ us, u.oneCell' = true) (h63 : n + m ≤ maxLen) (hbytes : (n + m) * bytes ≤ 140737488355328) (hbase : base ≤ w.heap.size) :
  ∃ v' w', (Builtin.append_ #[t, t] ty #[v, sv]).run P w = .ok v' w' ∧ w'.ownsRow base e size v' (n + m) (xs ++ us) ∧ w.grownBy w' v.ownBlock := by
 obtain ⟨A, c, rfl, q1, q2, q3, q4⟩ := hr
 rcases A with _ | ad
 ·obtain rfl := q3 rfl
  obtain rfl : m = 0 := by omega
  have hu : us = [] := List.eq_nil_of_length_eq_zero (by omega)
  subst hu
  refine ⟨v, w, run_append_owned_none w base t ty e i size ht hi v n xs hown, by rw [Nat.add_zero, List.append_nil]; exact hown, World.grownBy.refl _ _⟩
 ·obtain ⟨v', w', r1, r2, r3, _⟩ := run_append_own_at (P := P) w base t ty e i z size bytes ht hi hz hsize hby hzs hsz v n xs hown ad m c us hl (fun j u hu => by
   have hj := (List.getElem?_eq_some_iff.1 hu).1
   have hm : 0 < m := by
    rcases Nat.eq_zero_or_pos m with h | h
    ·rw [h] at hl; omega
    ·exact h
   obtain ⟨b, o, he, _, hc⟩ := q4 hm
   injection he with he
   subst he
   rw [add_plain]
   exact hc j u hu) h1 h63 hbytes hbase
  exact ⟨v', w', r1, r2, r3⟩
section
variable {P : Program} {w : World} {ops : Array Oper} {o : Oper} {a : Act} {Q : Exit → Act → World → Prop} {K : Act → World → Prop} {E : Prop}
theorem step_append_erow (hgd : o.guard = none) (s x : Operand) (t e : TypeId) (ho : o.op = .call { callee := .builtin .append, args := #[s, x], argTypes := #[t, t] })
  (base : Nat) (i : TypeInfo) (z : Value) (size bytes : Nat) (ht : P.underlying t = some (.slice e)) (hi : P.info? e = some i) (hz : i.zero = some z) (hsize : i.size = size) (hby : i.bytes = bytes) (hzs : z.cells.size = size) (hsz : 0 < size)
  (v : Value) (n : Nat) (xs : List Value) (hs : a.eval s = v) (hown : w.ownsRow base e size v n xs) (B : Nat) (sv : Value) (m : Nat) (us : List Value) (hx : a.eval x = sv) (hr : ERow w B sv m us) (hl : us.length = m * size) (h1 : ∀ u ∈ us, u.oneCell' = true)
  (h63 : n + m ≤ maxLen) (hbytes : (n + m) * bytes ≤ 140737488355328) (hbase : base ≤ w.heap.size) (N : Nat) (hN : n + m = N) (ys : List Value) (hys : xs ++ us = ys)
  (h : ∀ A c w', w'.ownsRow base e size (.slice A N c) N ys → w.grownBy w' v.ownBlock → K (a.put o.dst (.slice A N c)) w') : if Region.wanted o (yielded ops a.tmps) = true then Oper.wp P o a w K Q else E := by
 subst hN hys
 have hw : Region.wanted o (yielded ops a.tmps) = true := by simp [Region.wanted, hgd]
 obtain ⟨v', w', hrun, h2, h3⟩ := run_append_erow (P := P) w base t o.type e i z size bytes ht hi hz hsize hby hzs hsz v n xs hown B sv m us hr hl h1 h63 hbytes hbase
 obtain ⟨A, c, rfl⟩ := own_form h2
 rw [if_pos hw]
 unfold Oper.wp execOp
 simp only [ho, resolve, invoke, builtin, Sem.run_bind, Sem.run_pure, Result.andThen_ok, List.map_toArray, List.map_cons, List.map_nil, hs, hx, hrun]
 exact h A c w' h2 h3
end
theorem oneN : ∀ (l : List Pm), ∀ u ∈ flatN l, u.oneCell' = true
 | [], u, h => by simp [flatN] at h
 | d :: l, u, h => by
  rw [flatN] at h
  rcases List.mem_cons.1 h with rfl | h
  ·rfl
  ·rcases List.mem_cons.1 h with rfl | h
   ·rfl
   ·exact oneN l u h
theorem oneE : ∀ (l : List Em), ∀ u ∈ flatE l, u.oneCell' = true
 | [], u, h => by simp [flatE] at h
 | d :: l, u, h => by
  rw [flatE] at h
  rcases List.mem_cons.1 h with rfl | h
  ·rfl
  ·rcases List.mem_cons.1 h with rfl | h
   ·rfl
   ·exact oneE l u h
theorem oneG : ∀ (l : List Ag), ∀ u ∈ flatG l, u.oneCell' = true
 | [], u, h => by simp [flatG] at h
 | d :: l, u, h => by
  rw [flatG] at h
  rcases List.mem_cons.1 h with rfl | h
  ·rfl
  ·rcases List.mem_cons.1 h with rfl | h
   ·rfl
   ·rcases List.mem_cons.1 h with rfl | h
    ·rfl
    ·exact oneG l u h
theorem TrRow.drop {w : World} {B : Nat} {A A' : Option Addr} {n c k : Nat} {l : List Pm} (h : TrRow w B (.slice A n c) l) (hk : k ≤ l.length) (hA : c = k ∨ A' = A.map (fun x => x.add (k * 2))) :
  TrRow w B (.slice A' (l.length - k) (c - k)) (l.drop k) := by
 obtain ⟨⟨A1, c1, hv, h1, h2, h3, h4⟩, h5⟩ := h
 injection hv with e1 e2 e3
 subst e1 e3
 have hl : (l.drop k).length = l.length - k := List.length_drop
 refine ⟨⟨A', c - k, by rw [hl], by omega, by omega, fun e => ?_, fun hn => ?_⟩, fun d hd => h5 d (List.mem_of_mem_drop hd)⟩
 ·rcases hA with hA | hA
  ·omega
  ·rw [e] at hA
   cases A with
   | none => have := h3 rfl; omega
   | some a => cases hA
 ·rw [hl] at hn
  obtain ⟨b, o, e, hb, hc⟩ := h4 (by omega)
  rcases hA with hA | hA
  ·omega
  ·refine ⟨b, o + k * 2, by rw [hA, e, Option.map_some, add_plain], hb, fun i u hi => ?_⟩
   rw [flatN_drop, List.getElem?_drop] at hi
   have := hc _ u hi
   rwa [← Nat.add_assoc] at this
variable {F : Fence} {n : Nat} {P : Program}
def Hands {α : Type} (F : Fence) (n : Nat) (P : Program) (gf : Nat) (lb : Array Value) (encs : α → Array Value) (R : α → World → Prop) (Kp : Nat → World → World → Prop) (S : List α → Prop) (N : Nat) (w : World) : Prop :=
 ∀ (l : Nat) (J : List α → World → Prop) (W : World), Below w.heap.size w W →
  (∀ pre x W0 W1, J pre W0 → Below W0.heap.size W0 W1 → R x W1 → pre.length < N → YieldAt F (n - 1) P l (encs x) W1 fun e W' => e = .returned (.bool true) ∧ J (pre ++ [x]) W' ∧ Kp W0.heap.size W1 W') →
  J [] W → CallsIn F n P gf (#[.func (.yield l) #[] #[]] ++ lb) W fun e W' => (∃ v, e = .returned v) ∧ ∃ xs W0, S xs ∧ J xs W0 ∧ Below W0.heap.size W0 W'
def recOf (fn : FuncId) (tmps : Array Value) (ps : Array Tmp) (assign body : Code) (D : Nat) (s : LoopState) : Obj :=
 .loop { state := s, pending := none, fn := fn, tmps := tmps, params := ps, assign := assign, body := body, defers := D }
theorem yield_round {l D : Nat} {fn : FuncId} {tmps args : Array Value} {ps : Array Tmp} {assign body : Code} {W : World} {E : Ending → World → Prop} (hfn : F.fn fn) (hps : args.size = ps.size)
  (hl : W.heap[l]? = some (recOf fn tmps ps assign body D .ready))
  (h : assign.wpIn (F.inRound l) n P (Exit.then (fun a1 W1 => W1.heap[l]? = some (recOf fn tmps ps assign body D .ready) ∧
    body.wpIn (F.inRound l) n P (Exit.then (fun _ W3 => W3.heap[l]? = some (recOf fn tmps ps assign body D .busy) ∧ E (.returned (.bool true)) (W3.putObj l (recOf fn tmps ps assign body D .ready))) (fun _ _ _ => False)) a1 (W1.putObj l (recOf fn tmps ps assign body D .busy))) (fun _ _ _ => False))
   { tmps := (ps.zip args).foldl (fun t (p, v) => t.setIfInBounds p v) tmps, defers := [] } W) :
  YieldAt F n P l args W E := by
 refine ⟨fn, _, assign, body, run_yield hl hps, roundIn_of_wpIn hfn (wpIn_mono h ?_)⟩
 rintro e a1 W1 hp
 cases e with
 | normal =>
  refine ⟨_, run_beginRound hp.1 rfl, wpIn_mono hp.2 ?_⟩
  rintro e a3 W3 hq
  cases e with
  | normal => exact ⟨_, _, run_endRound none hq.1, hq.2⟩
  | _ => exact (show False from hq).elim
 | _ => exact (show False from hp).elim
theorem ownFrom_below' {β : Type} {B : Nat} {I : β → World → Prop} (h : OwnFrom B I) {s : β} {w w' : World} (hs : I s w) (hb : Below w.heap.size w w') : I s w' :=
 h s w w' none hs ⟨hb.os, hb.tape, hb.output, hb.size, fun k hk _ => hb.block k hk⟩ (fun r e => by cases e)
theorem range_told {α : Type} {g : Operand} {ps : Array Tmp} {assign body : Code} {Q : Exit → Act → World → Prop} {a : Act} {w : World}
  (hro : F.round = none) (h1 : 1 ≤ n) {gf : Nat} {lb : Array Value} (hg : a.eval g = .func (.func gf) #[] lb) (hFg : F.fn gf) (eg : ∀ args w, (callFunc gf args).run P w = .ok (.enter gf args) w)
  {encs : α → Array Value} {R : α → World → Prop} {Kp : Nat → World → World → Prop} {S : List α → Prop} {N : Nat} (hseq : Hands F (n - 1) P gf lb encs R Kp S N w) (hps : ∀ x, (encs x).size = ps.size)
  (hKt : ∀ {m : Nat} {A B C : World}, Kp m A B → Kp m B C → Kp m A C) (hKb : ∀ (m : Nat) (W : World) (l : Nat) (o o' : Obj), w.heap.size ≤ l → l < m → W.heap[l]? = some o → o.isCells = false → Kp m W (W.putObj l o'))
  (I : List α → World → Prop) (hI : OwnFrom w.heap.size I) (h0 : I [] w) (Ax : Nat → List α → α → Act → World → Prop) (hAx : ∀ m pre x a', OwnFrom w.heap.size (fun (_ : Unit) W => Ax m pre x a' W))
  (htake : ∀ (l : Nat) (pre : List α) (x : α) (W0 W : World) (K : Act → World → Prop), I pre W0 → Below W0.heap.size W0 W → R x W → pre.length < N → (∀ a' W', KeepsFrom w.heap.size W W' → Kp W0.heap.size W W' → Ax W0.heap.size pre x a' W' → K a' W') →
   assign.wpIn (F.inRound l) (n - 1 - 1) P (Exit.then K (fun _ _ _ => False)) { tmps := (ps.zip (encs x)).foldl (fun t (p, v) => t.setIfInBounds p v) a.tmps, defers := [] } W)
  (hbody : ∀ (l m : Nat) (pre : List α) (x : α) (a' : Act) (W : World), Ax m pre x a' W → pre.length < N →
   body.wpIn (F.inRound l) (n - 1 - 1) P (Exit.then (fun _ W' => KeepsFrom w.heap.size W W' ∧ Kp m W W' ∧ I (pre ++ [x]) W') (fun _ _ _ => False)) a' W)
  (hdone : ∀ (D : Nat) (xs : List α) (W : World), w.heap.size ≤ D → S xs → I xs W → W.heap[D]? = some (.deferred (some [])) → Q .normal { a with defers := { target := .collected D, args := #[] } :: a.defers } W) :
  (Code.rangeFunc g ps assign body).wpIn F n P Q a w := by
 refine wpIn_rangeFunc fun fn hfn => ?_
 rw [hro]
 obtain ⟨D, hD⟩ : ∃ D, w.heap.size = D := ⟨_, rfl⟩
 obtain ⟨rec, hrec⟩ : ∃ rec, recOf fn a.tmps ps assign body D = rec := ⟨_, rfl⟩
 have hnc : ∀ s, (rec s).isCells = false := fun s => by rw [← hrec]; rfl
 obtain ⟨W0, hW0⟩ : ∃ W0, w.alloc (.deferred (some [])) = W0 := ⟨_, rfl⟩
 have hs0 : W0.heap.size = D + 1 := by rw [← hW0, World.size_alloc, hD]
 have hd0 : W0.heap[D]? = some (.deferred (some [])) := by rw [← hW0, ← hD]; exact World.alloc_heap_new w _
 have hi0 : I [] W0 := by rw [← hW0]; exact hI.alloc _ h0
 have hb0 : Below w.heap.size w W0 := by rw [← hW0]; exact (Below.refl _ w).alloc (Nat.le_refl _) _
 have hent := run_enterLoop_outer (P := P) (w := w) fn a.tmps ps assign body
 rw [hW0, hD] at hent
 change _ = Result.ok _ (W0.alloc (recOf fn a.tmps ps assign body D .ready)) at hent
 rw [hrec] at hent
 have hl1 : (W0.alloc (rec .ready)).heap[D + 1]? = some (rec .ready) := by rw [← hs0]; exact World.alloc_heap_new W0 _
 have hd1 : (W0.alloc (rec .ready)).heap[D]? = some (.deferred (some [])) := (Below.heap_alloc _ _ _ (by omega)).trans hd0
 have hi1 : I [] (W0.alloc (rec .ready)) := hI.alloc _ hi0
 have hb1 : Below w.heap.size w (W0.alloc (rec .ready)) := hb0.alloc (by omega) _
 generalize W0.alloc (rec .ready) = W1 at hent hl1 hd1 hi1 hb1
 refine ⟨D + 1, _, W1, { target := .fn (.func gf) lb, args := #[.func (.yield (D + 1)) #[] #[]] }, W1, gf, #[.func (.yield (D + 1)) #[] #[]] ++ lb, W1, hent, ?_, ?_, ?_, fun _ => h1, ?_⟩
 ·simp only [resolve, hg]
  simp [go_sem]
 ·intro f' hf'
  simp [Target.leads] at hf'
  subst hf'
  exact hFg
 ·simp [invoke, go_sem, eg]
 ·refine (hseq (D + 1) (fun pre W => I pre W ∧ W.heap[D + 1]? = some (rec .ready) ∧ W.heap[D]? = some (.deferred (some []))) W1 hb1 ?_ ⟨hi1, hl1, hd1⟩).mono ?_
  ·-- a round
   rintro pre x V W ⟨hi, hl, hd⟩ hV hR hlen
   have hlV := (Array.getElem?_eq_some_iff.1 hl).1
   replace hl := (hV.block _ hlV).trans hl
   replace hd := (hV.block _ (by omega)).trans hd
   rw [← hrec] at hl
   refine yield_round hfn (hps x) hl ?_
   rw [hrec] at hl ⊢
   refine htake _ pre x V W _ hi hV hR hlen fun a' W' hkf hkp hax => ?_
   have hl' := hkf.same _ _ (by omega) hl (hnc _)
   have hd' := hkf.same _ _ (by omega) hd rfl
   refine ⟨hl', ?_⟩
   have hax2 := (hAx _ pre x a').putObj (s := ()) (rec .busy) hax (by omega) hl' (hnc _)
   have hkp2 := hKb V.heap.size W' (D + 1) _ (rec .busy) (by omega) hlV hl' (hnc _)
   have hl2 : (W'.putObj (D + 1) (rec .busy)).heap[D + 1]? = some (rec .busy) := World.putObj_heap_same (Array.getElem?_eq_some_iff.1 hl').1
   have hd2 : (W'.putObj (D + 1) (rec .busy)).heap[D]? = some (.deferred (some [])) := (World.putObj_heap_other (by omega)).trans hd'
   refine wpIn_mono (hbody (D + 1) _ pre x a' _ hax2 hlen) ?_
   rintro e a3 W3 hp
   cases e with
   | normal =>
    obtain ⟨hkf3, hkp3, hi3⟩ := hp
    have hl3 := hkf3.same _ _ (by omega) hl2 (hnc _)
    have hd3 := hkf3.same _ _ (by omega) hd2 rfl
    refine ⟨hl3, rfl, ⟨hI.putObj _ hi3 (by omega) hl3 (hnc _), World.putObj_heap_same (Array.getElem?_eq_some_iff.1 hl3).1, (World.putObj_heap_other (by omega)).trans hd3⟩, ?_⟩
    exact hKt hkp (hKt (hKt hkp2 hkp3) (hKb _ W3 (D + 1) _ _ (by omega) hlV hl3 (hnc _)))
   | _ => exact (show False from hp).elim
  ·-- behind it
   rintro e W2 ⟨⟨v, rfl⟩, xs, V, hS, ⟨hi, hl, hd⟩, hV⟩
   have hlV := (Array.getElem?_eq_some_iff.1 hl).1
   replace hl := (hV.block _ hlV).trans hl
   replace hd := (hV.block _ (by omega)).trans hd
   have hi' := hI.putObj (.loop { state := .exhausted, pending := none, fn := fn, tmps := a.tmps, params := ps, assign := assign, body := body, defers := D }) (ownFrom_below' hI hi hV) (by omega) hl (hnc _)
   rw [← hrec] at hl
   exact ⟨none, _, run_endLoop hl (by simp), hdone D xs _ (by omega) hS hi' ((World.putObj_heap_other (by omega)).trans hd)⟩
structure Calm (m : Nat) (A B : World) : Prop where
 os : B.os = A.os
 tape : B.tape = A.tape
 output : B.output = A.output
 size : A.heap.size ≤ B.heap.size
 low : ∀ k, k < m → k < A.heap.size → B.heap[k]? = A.heap[k]?
 cells : ∀ (k : Nat) (o : Obj), A.heap[k]? = some o → o.isCells = true → B.heap[k]? = some o
theorem Calm.mono {m m' : Nat} {A B : World} (h : Calm m' A B) (hm : m ≤ m') : Calm m A B := ⟨h.os, h.tape, h.output, h.size, fun k h1 h2 => h.low k (by omega) h2, h.cells⟩
theorem Calm.of_below {m : Nat} {A B : World} (h : Below A.heap.size A B) : Calm m A B :=
 ⟨h.os, h.tape, h.output, h.size, fun k _ h2 => h.block k h2, fun k _ h1 _ => (h.block k (Array.getElem?_eq_some_iff.1 h1).1).trans h1⟩
theorem Calm.alloc (m : Nat) (A : World) (o : Obj) : Calm m A (A.alloc o) := Calm.of_below ((Below.refl _ _).alloc (Nat.le_refl _) _)
theorem Calm.putObj {m l : Nat} {A : World} {o : Obj} (o' : Obj) (hl : A.heap[l]? = some o) (ho : o.isCells = false) (hm : m ≤ l) : Calm m A (A.putObj l o') := by
 have hg := grownBy_putObj' A l o'
 refine ⟨hg.os, hg.tape, hg.output, hg.size, fun k h1 h2 => World.putObj_heap_other (by omega), fun k c h1 h2 => (World.putObj_heap_other (fun e => ?_)).trans h1⟩
 subst e
 rw [hl] at h1
 injection h1 with h1
 rw [← h1, ho] at h2
 cases h2
def Abides {β : Type} (m : Nat) (J : β → World → Prop) : Prop := ∀ s A B, J s A → Calm m A B → J s B
theorem abides_below {β : Type} {m B : Nat} {w0 : World} (hB : B ≤ m) (h0 : B ≤ w0.heap.size) : Abides m (fun (_ : β) W => Below B w0 W) := fun _ A X hs hc =>
 ⟨hc.os.trans hs.os, hc.tape.trans hs.tape, hc.output.trans hs.output, Nat.le_trans hs.size hc.size, fun k hk => (hc.low k (by omega) (by have := hs.size; omega)).trans (hs.block k hk)⟩
theorem Calm.held {m b : Nat} {A B : World} {t : TypeId} {c : Array Value} (h : Calm m A B) (hb : Held A b t c) : Held B b t c := h.cells b _ hb rfl
theorem Calm.boxed {m b : Nat} {A B : World} {t : TypeId} {v : Value} (h : Calm m A B) (hb : Boxed A b t v) : Boxed B b t v := h.cells b _ hb rfl
variable {F : Fence} {n : Nat} {P : Program}
def Gives {α : Type} (F : Fence) (n : Nat) (P : Program) (gf : Nat) (lb : Array Value) (encs : α → Array Value) (R : List α → α → Prop) (Kp : Nat → World → World → Prop) (S Sp : List α → Prop) (lv : Prop) (w : World) : Prop :=
 ∀ (l : Nat) (J Jx : List α → World → Prop) (W : World), Below w.heap.size w W → Abides W.heap.size J → Abides W.heap.size Jx →
  (∀ pre x W1, J pre W1 → R pre x → W.heap.size ≤ W1.heap.size → YieldAt F (n - 1) P l (encs x) W1 fun e W' => (e = .returned (.bool true) ∧ J (pre ++ [x]) W' ∧ Kp W.heap.size W1 W') ∨ (lv ∧ e = .returned (.bool false) ∧ Jx (pre ++ [x]) W')) →
  J [] W → CallsIn F n P gf (#[.func (.yield l) #[] #[]] ++ lb) W fun e W' => (∃ v, e = .returned v) ∧ ((∃ xs, S xs ∧ J xs W') ∨ (∃ pre, Sp pre ∧ Jx pre W'))
def recJ (fn : FuncId) (tmps : Array Value) (ps : Array Tmp) (assign body : Code) (D : Nat) (s : LoopState) (j : Option Code) : Obj :=
 .loop { state := s, pending := j, fn := fn, tmps := tmps, params := ps, assign := assign, body := body, defers := D }
def RoundEnds (G : World → Prop) (X : World → Prop) : Exit → Act → World → Prop
 | .normal, _, W' => G W'
 | .ret, _, W' => X W'
 | _, _, _ => False
theorem yield_round2 {l D : Nat} {fn : FuncId} {tmps args : Array Value} {ps : Array Tmp} {assign body : Code} {W : World} {E : Ending → World → Prop} (hfn : F.fn fn) (hps : args.size = ps.size)
  (hl : W.heap[l]? = some (recJ fn tmps ps assign body D .ready none))
  (h : assign.wpIn (F.inRound l) n P (Exit.then (fun a1 W1 => W1.heap[l]? = some (recJ fn tmps ps assign body D .ready none) ∧
    body.wpIn (F.inRound l) n P (RoundEnds (fun W3 => W3.heap[l]? = some (recJ fn tmps ps assign body D .busy none) ∧ E (.returned (.bool true)) (W3.putObj l (recJ fn tmps ps assign body D .ready none)))
     (fun W3 => W3.heap[l]? = some (recJ fn tmps ps assign body D .busy none) ∧ E (.returned (.bool false)) (W3.putObj l (recJ fn tmps ps assign body D .done (some .ret))))) a1 (W1.putObj l (recJ fn tmps ps assign body D .busy none))) (fun _ _ _ => False))
   { tmps := (ps.zip args).foldl (fun t (p, v) => t.setIfInBounds p v) tmps, defers := [] } W) :
  YieldAt F n P l args W E := by
 refine ⟨fn, _, assign, body, run_yield hl hps, roundIn_of_wpIn hfn (wpIn_mono h ?_)⟩
 rintro e a1 W1 hp
 cases e with
 | normal =>
  refine ⟨_, run_beginRound hp.1 rfl, wpIn_mono hp.2 ?_⟩
  rintro e a3 W3 hq
  cases e with
  | normal => exact ⟨_, _, run_endRound none hq.1, hq.2⟩
  | ret => exact ⟨_, _, run_endRound (some .ret) hq.1, hq.2⟩
  | _ => exact (show False from hq).elim
 | _ => exact (show False from hp).elim
theorem range_gives {α : Type} {g : Operand} {ps : Array Tmp} {assign body : Code} {Q : Exit → Act → World → Prop} {a : Act} {w : World}
  (hro : F.round = none) (h1 : 1 ≤ n) {gf : Nat} {lb : Array Value} (hg : a.eval g = .func (.func gf) #[] lb) (hFg : F.fn gf) (eg : ∀ args w, (callFunc gf args).run P w = .ok (.enter gf args) w)
  {encs : α → Array Value} {R : List α → α → Prop} {Kp : Nat → World → World → Prop} {S Sp : List α → Prop} {lv : Prop} (hseq : Gives F (n - 1) P gf lb encs R Kp S Sp lv w) (hps : ∀ x, (encs x).size = ps.size)
  (hKt : ∀ {m : Nat} {A B C : World}, Kp m A B → Kp m B C → Kp m A C) (hKb : ∀ (m : Nat) (W : World) (l : Nat) (o o' : Obj), w.heap.size ≤ l → l < m → W.heap[l]? = some o → o.isCells = false → Kp m W (W.putObj l o'))
  (I Ix : List α → World → Prop) (hI : Abides w.heap.size I) (hIx : Abides w.heap.size Ix) (h0 : I [] w) (Ax : List α → α → Act → World → Prop) (hAx : ∀ pre x a', Abides w.heap.size (fun (_ : Unit) W => Ax pre x a' W))
  (htake : ∀ (l m : Nat) (pre : List α) (x : α) (W : World) (K : Act → World → Prop), w.heap.size < m → m ≤ W.heap.size → I pre W → R pre x → (∀ a' W', KeepsFrom w.heap.size W W' → Kp m W W' → Ax pre x a' W' → K a' W') →
   assign.wpIn (F.inRound l) (n - 1 - 1) P (Exit.then K (fun _ _ _ => False)) { tmps := (ps.zip (encs x)).foldl (fun t (p, v) => t.setIfInBounds p v) a.tmps, defers := [] } W)
  (hbody : ∀ (l m : Nat) (pre : List α) (x : α) (a' : Act) (W : World), w.heap.size < m → m ≤ W.heap.size → Ax pre x a' W →
   body.wpIn (F.inRound l) (n - 1 - 1) P (RoundEnds (fun W' => KeepsFrom w.heap.size W W' ∧ Kp m W W' ∧ I (pre ++ [x]) W') (fun W' => lv ∧ KeepsFrom w.heap.size W W' ∧ Ix (pre ++ [x]) W')) a' W)
  (hdone : ∀ (D : Nat) (xs : List α) (W : World), w.heap.size ≤ D → S xs → I xs W → W.heap[D]? = some (.deferred (some [])) → Q .normal { a with defers := { target := .collected D, args := #[] } :: a.defers } W)
  (hstop : ∀ (D : Nat) (pre : List α) (W : World), w.heap.size ≤ D → Sp pre → Ix pre W → W.heap[D]? = some (.deferred (some [])) → Code.ret.wpIn F n P Q { a with defers := { target := .collected D, args := #[] } :: a.defers } W) :
  (Code.rangeFunc g ps assign body).wpIn F n P Q a w := by
 refine wpIn_rangeFunc fun fn hfn => ?_
 rw [hro]
 obtain ⟨D, hD⟩ : ∃ D, w.heap.size = D := ⟨_, rfl⟩
 obtain ⟨rec, hrec⟩ : ∃ rec, recJ fn a.tmps ps assign body D = rec := ⟨_, rfl⟩
 have hnc : ∀ s j, (rec s j).isCells = false := fun s j => by rw [← hrec]; rfl
 obtain ⟨W0, hW0⟩ : ∃ W0, w.alloc (.deferred (some [])) = W0 := ⟨_, rfl⟩
 have hs0 : W0.heap.size = D + 1 := by rw [← hW0, World.size_alloc, hD]
 have hd0 : W0.heap[D]? = some (.deferred (some [])) := by rw [← hW0, ← hD]; exact World.alloc_heap_new w _
 have hi0 : I [] W0 := by rw [← hW0]; exact hI _ _ _ h0 (Calm.alloc _ _ _)
 have hb0 : Below w.heap.size w W0 := by rw [← hW0]; exact (Below.refl _ w).alloc (Nat.le_refl _) _
 have hent := run_enterLoop_outer (P := P) (w := w) fn a.tmps ps assign body
 rw [hW0, hD] at hent
 change _ = Result.ok _ (W0.alloc (recJ fn a.tmps ps assign body D .ready none)) at hent
 rw [hrec] at hent
 have hl1 : (W0.alloc (rec .ready none)).heap[D + 1]? = some (rec .ready none) := by rw [← hs0]; exact World.alloc_heap_new W0 _
 have hd1 : (W0.alloc (rec .ready none)).heap[D]? = some (.deferred (some [])) := (Below.heap_alloc _ _ _ (by omega)).trans hd0
 have hi1 : I [] (W0.alloc (rec .ready none)) := hI _ _ _ hi0 (Calm.alloc _ _ _)
 have hb1 : Below w.heap.size w (W0.alloc (rec .ready none)) := hb0.alloc (by omega) _
 have hs1 : (W0.alloc (rec .ready none)).heap.size = D + 2 := by rw [World.size_alloc, hs0]
 generalize W0.alloc (rec .ready none) = W1 at hent hl1 hd1 hi1 hb1 hs1
 refine ⟨D + 1, _, W1, { target := .fn (.func gf) lb, args := #[.func (.yield (D + 1)) #[] #[]] }, W1, gf, #[.func (.yield (D + 1)) #[] #[]] ++ lb, W1, hent, ?_, ?_, ?_, fun _ => h1, ?_⟩
 ·simp only [resolve, hg]
  simp [go_sem]
 ·intro f' hf'
  simp [Target.leads] at hf'
  subst hf'
  exact hFg
 ·simp [invoke, go_sem, eg]
 ·refine (hseq (D + 1) (fun pre W => I pre W ∧ W.heap[D + 1]? = some (rec .ready none) ∧ W.heap[D]? = some (.deferred (some [])))
   (fun pre W => Ix pre W ∧ W.heap[D + 1]? = some (rec .done (some .ret)) ∧ W.heap[D]? = some (.deferred (some []))) W1 hb1 ?_ ?_ ?_ ⟨hi1, hl1, hd1⟩).mono ?_
  ·rintro pre A B ⟨h1, h2, h3⟩ hc
   have hlt := (Array.getElem?_eq_some_iff.1 h2).1
   exact ⟨hI _ _ _ h1 (hc.mono (by omega)), (hc.low _ (by omega) hlt).trans h2, (hc.low _ (by omega) (by omega)).trans h3⟩
  ·rintro pre A B ⟨h1, h2, h3⟩ hc
   have hlt := (Array.getElem?_eq_some_iff.1 h2).1
   exact ⟨hIx _ _ _ h1 (hc.mono (by omega)), (hc.low _ (by omega) hlt).trans h2, (hc.low _ (by omega) (by omega)).trans h3⟩
  ·-- a round
   rintro pre x W ⟨hi, hl, hd⟩ hR hsz
   have hlV := (Array.getElem?_eq_some_iff.1 hl).1
   rw [← hrec] at hl
   refine yield_round2 hfn (hps x) hl ?_
   rw [hrec] at hl ⊢
   refine htake _ W1.heap.size pre x W _ (by omega) hsz hi hR fun a' W' hkf hkp hax => ?_
   have hl' := hkf.same _ _ (by omega) hl (hnc _ _)
   have hd' := hkf.same _ _ (by omega) hd rfl
   refine ⟨hl', ?_⟩
   have hax2 := (hAx pre x a') () _ _ hax (Calm.putObj (rec .busy none) hl' (hnc _ _) (by omega))
   have hkp2 := hKb W1.heap.size W' (D + 1) _ (rec .busy none) (by omega) (by omega) hl' (hnc _ _)
   have hl2 : (W'.putObj (D + 1) (rec .busy none)).heap[D + 1]? = some (rec .busy none) := World.putObj_heap_same (Array.getElem?_eq_some_iff.1 hl').1
   have hd2 : (W'.putObj (D + 1) (rec .busy none)).heap[D]? = some (.deferred (some [])) := (World.putObj_heap_other (by omega)).trans hd'
   have hz2 : (W'.putObj (D + 1) (rec .busy none)).heap.size = W'.heap.size := by simp [World.putObj]
   refine wpIn_mono (hbody (D + 1) W1.heap.size pre x a' _ (by omega) (by have := hkf.size; omega) hax2) ?_
   rintro e a3 W3 hp
   cases e with
   | normal =>
    obtain ⟨hkf3, hkp3, hi3⟩ := hp
    have hl3 := hkf3.same _ _ (by omega) hl2 (hnc _ _)
    have hd3 := hkf3.same _ _ (by omega) hd2 rfl
    exact ⟨hl3, .inl ⟨rfl, ⟨hI _ _ _ hi3 (Calm.putObj _ hl3 (hnc _ _) (by omega)), World.putObj_heap_same (Array.getElem?_eq_some_iff.1 hl3).1, (World.putObj_heap_other (by omega)).trans hd3⟩,
     hKt hkp (hKt (hKt hkp2 hkp3) (hKb _ W3 (D + 1) _ _ (by omega) (by omega) hl3 (hnc _ _)))⟩⟩
   | ret =>
    obtain ⟨hlv, hkf3, hi3⟩ := hp
    have hl3 := hkf3.same _ _ (by omega) hl2 (hnc _ _)
    have hd3 := hkf3.same _ _ (by omega) hd2 rfl
    exact ⟨hl3, .inr ⟨hlv, rfl, hIx _ _ _ hi3 (Calm.putObj _ hl3 (hnc _ _) (by omega)), World.putObj_heap_same (Array.getElem?_eq_some_iff.1 hl3).1, (World.putObj_heap_other (by omega)).trans hd3⟩⟩
   | _ => exact (show False from hp).elim
  ·-- behind it
   rintro e W2 ⟨⟨v, rfl⟩, ⟨xs, hS, hi, hl, hd⟩ | ⟨pre, hS, hi, hl, hd⟩⟩
   ·have hi' := hI _ _ _ hi (Calm.putObj (recJ fn a.tmps ps assign body D .exhausted none) hl (hnc _ _) (by omega))
    rw [← hrec] at hl
    exact ⟨none, _, run_endLoop hl (by simp), hdone D xs _ (by omega) hS hi' ((World.putObj_heap_other (by omega)).trans hd)⟩
   ·have hi' := hIx _ _ _ hi (Calm.putObj (recJ fn a.tmps ps assign body D .exhausted (some .ret)) hl (hnc _ _) (by omega))
    rw [← hrec] at hl
    exact ⟨some .ret, _, run_endLoop hl (by simp), hstop D pre _ (by omega) hS hi' ((World.putObj_heap_other (by omega)).trans hd)⟩
variable {P : Program} {ops : Array Oper} {Q : Exit → Act → World → Prop} {md : Region.Mode} {n l : Nat}
def noDefer (ops : Array Oper) : Bool := ops.all fun o => match o.op with | .defer _ => false | _ => true
theorem noDefer_spec {ops : Array Oper} (h : noDefer ops = true) {i : Nat} {o : Oper} (ho : ops[i]? = some o) : ∀ c, o.op ≠ .defer c := by
 intro c e
 have := Array.all_eq_true.1 h i (Array.getElem?_eq_some_iff.1 ho).1
 rw [(Array.getElem?_eq_some_iff.1 ho).2, e] at this
 cases this
theorem wpOp_round (hd : noDefer ops = true) (hl : ¬ LetsOut Q) {i : Nat} {a : Act} {w : World} {K : Act → World → Prop} (h : wpOp P ops Q i K a w) : wpOpIn (Fence.wide.inRound l) n P ops Q i K a w := by
 unfold wpOp at h
 unfold wpOpIn
 cases ho : ops[i]? with
 | none => rw [ho] at h; exact h
 | some o =>
  rw [ho] at h
  dsimp only at h ⊢
  by_cases hw : Region.wanted o (yielded ops a.tmps) = true
  ·rw [if_pos hw] at h ⊢
   rcases h with h | ⟨_, h⟩
   ·refine ⟨fun _ _ => trivial, ?_⟩
    rw [Oper.semAt_eq _ _ _ (noDefer_spec hd ho)]
    unfold Oper.wp at h
    generalize (execOp a.eval o).run P w = r at h ⊢
    cases r with
    | ok x w' =>
     cases x <;> simp only [Oper.upon] at h <;> simp only [Oper.uponIn] <;> first
      | exact h
      | exact h.elim
      | exact ⟨fun h => (by cases h), (show CallsIn Fence.wide _ _ _ _ _ _ from callsIn_wide.2 h)⟩
      | (refine ⟨fun h => (by cases h), fun c cs _ => ?_⟩; obtain ⟨v, w2, r, s⟩ := h c cs; exact ⟨v, w2, r, stepsIn_wide.2 s⟩)
    | halt x w' => cases x <;> simp only [Oper.upon] at h <;> simp only [Oper.uponIn] <;> first | exact h | exact h.elim
   ·exact absurd h hl
  ·rw [if_neg hw] at h ⊢
   exact ⟨fun _ _ => trivial, h⟩
theorem wpAny_round (hd : noDefer ops = true) (hl : ¬ LetsOut Q) : ∀ (fuel : Nat) (listed : Array Bool) (a : Act) (w : World), wpAny P md ops Q fuel listed a w → wpAnyIn (Fence.wide.inRound l) n P md ops Q fuel listed a w
 | 0, _, _, _, h => h
 | fuel + 1, _, _, _, h => ⟨h.1, fun i hi => wpOpIn_mono (fun a' w' h' => wpAny_round hd hl fuel _ a' w' h') (wpOp_round hd hl (h.2 i hi))⟩
theorem wpIn_region_round {id : Nat} {a : Act} {w : World} {S : World → Prop} (hm : P.follows .mixedOrders = true) (hd : noDefer ops = true) (hl : ¬ LetsOut Q) (hS : S w.drew)
  (h : S w.drew → wpAnyH P .any ops Q S ops.size (Array.replicate ops.size false) a w.drew) : (Code.region id ops true).wpIn (Fence.wide.inRound l) n P Q a w :=
 wpIn_region_any hm (wpAny_round hd hl _ _ _ _ (wpAny_of_held _ _ _ _ (h hS)))
def findE (s : Value → Bool) : List MapEntry → Nat → Option (Nat × Value)
 | [], _ => none
 | e :: es, i => if s e.key then some (i, e.val) else findE s es (i + 1)
section
variable {P : Program} {w : World} {kt : TypeId} {k : Value} {s : Value → Bool}
theorem run_findAsking : ∀ (es : List MapEntry) (i : Nat), (∀ e ∈ es, (Op.equal kt k e.key).run P w = .ok (s e.key) w) → (Instr.findAsking kt k es i).run P w = .ok (findE s es i) w
 | [], i, _ => by simp [Instr.findAsking, findE]
 | e :: es, i, h => by
  have h1 := h e (List.mem_cons_self ..)
  have h2 := run_findAsking es (i + 1) (fun e' he => h e' (List.mem_cons_of_mem _ he))
  simp only [Instr.findAsking, Sem.run_bind, h1, Result.andThen_ok, findE]
  cases s e.key
  ·simpa using h2
  ·simp
theorem findNow_struct {fs : Array Field} : ∀ (es : List MapEntry) (i : Nat), Instr.findNow (.struct fs) k es i = if es = [] then some none else none
 | [], i => by simp [Instr.findNow]
 | e :: es, i => by simp [Instr.findNow, Instr.sameNow]
theorem run_findKey_struct {fs : Array Field} (hk : P.underlying kt = some (.struct fs)) (es : List MapEntry) (h : ∀ e ∈ es, (Op.equal kt k e.key).run P w = .ok (s e.key) w) : (Instr.findKey kt k es).run P w = .ok (findE s es 0) w := by
 unfold Instr.findKey
 rw [Sem.run_bind, run_underlying hk, Result.andThen_ok, findNow_struct]
 cases es with
 | nil => simp [findE]
 | cons e es =>
  simp only [reduceCtorEq, if_false]
  exact run_findAsking _ 0 h
theorem run_lookup_struct {fs : Array Field} {t et : TypeId} {r : Nat} {es : Array MapEntry} {clock : Nat} {zero : Value} (hk : P.underlying kt = some (.struct fs)) (ht : P.underlying t = some (.map kt et)) (hb : w.heap[r]? = some (.map es clock))
  (hc : ∀ b, (Instr.checkKey b 10000 kt k).run P w = .ok () w) (hz : (zeroValue et).run P w = .ok zero w) (h : ∀ e ∈ es.toList, (Op.equal kt k e.key).run P w = .ok (s e.key) w) (ok : Bool) :
  (Instr.lookup t (.map (some r)) k ok).run P w = .ok (match findE s es.toList 0 with
   | some (_, v) => if ok then .tuple #[v, .bool true] else v
   | none => if ok then .tuple #[zero, .bool false] else zero) w := by
 have hf := run_findKey_struct hk es.toList h
 have hg : (getObj r).run P w = .ok (.map es clock) w := by simp [getObj, Sem.run, hb]
 unfold Instr.lookup
 simp only [Sem.run_bind, run_underlying ht, Result.andThen_ok, hg, Sem.run_pure, hc, hf]
 cases findE s es.toList 0 with
 | none => cases ok <;> simp [hz]
 | some p => obtain ⟨i, v⟩ := p; cases ok <;> simp
theorem run_mapUpdate_struct {fs : Array Field} {t et : TypeId} {r : Nat} {es : Array MapEntry} {clock : Nat} {v : Value} (hk : P.underlying kt = some (.struct fs)) (ht : P.underlying t = some (.map kt et)) (hb : w.heap[r]? = some (.map es clock))
  (hc : ∀ b, (Instr.checkKey b 10000 kt k).run P w = .ok () w) (h : ∀ e ∈ es.toList, (Op.equal kt k e.key).run P w = .ok (s e.key) w) (hn : findE s es.toList 0 = none) :
  (Instr.mapUpdate t (.map (some r)) k v).run P w = .ok () (w.putObj r (.map (es.push { key := k, val := v, born := clock }) (clock + 1))) := by
 have hf := run_findKey_struct hk es.toList h
 rw [hn] at hf
 have hg : (getObj r).run P w = .ok (.map es clock) w := by simp [getObj, Sem.run, hb]
 have hs : ∀ o, (setObj r o).run P w = .ok () (w.putObj r o) := fun o => by simp [setObj, Sem.run, hb, World.putObj]
 unfold Instr.mapUpdate
 simp only [Sem.run_bind, run_underlying ht, Result.andThen_ok, hg, hc, hf]
 rw [hs]
end
def NameC : Prop := ∀ (xs : List Int) (w : World), (∀ x ∈ xs, 0 ≤ x ∧ x < 256) → xs.length ≤ maxLen → Calls Tryz.prog 92 #[.string (strOfNums xs)] w fun e w' => e = .returned (.bool (okName xs)) ∧ Below w.heap.size w w'
def CheckC : Prop := ∀ (A : Option Addr) (c : Nat) (ds : List Pd) (w : World), PredRow w w.heap.size (.slice A ds.length c) ds → Calls Tryz.prog 58 #[.slice A ds.length c] w fun e w' => e = .returned (.int .i64 (checkP (ds.map (·.p)))) ∧ Below w.heap.size w w'
abbrev keyV (nm : List Int) : Value := .agg #[.string (strOfNums nm)]
theorem part_str (w : World) (t : TypeId) (cs : Array Value) (i : Nat) (s : ByteArray) (ht : Tryz.prog.underlying t = some .string) (hi : cs[i]? = some (.string s)) : (part t cs i).run Tryz.prog w = .ok (.string s) w := by
 unfold part isAgg
 simp [run_underlying ht, hi, Result.andThen]
theorem key_eq (w : World) (a b : ByteArray) : (Op.equal 167 (.agg #[.string a]) (.agg #[.string b])).run Tryz.prog w = .ok (a.toList == b.toList) w := by
 unfold Op.equal
 rw [show Op.maxDepth = 9998 + 1 + 1 from rfl, run_equalIn_struct (P := Tryz.prog) w _ 167 _ _ (by kernel_rfl) (by kernel_rfl)]
 simp [Program.fieldsOf, Tryz.underlying167, Op.eqFields]
 rw [part_str w 9 _ 0 a Tryz.underlying9 rfl, Result.andThen_ok, part_str w 9 _ 0 b Tryz.underlying9 rfl, Result.andThen_ok, show (9999 : Nat) = 9998 + 1 from rfl, run_equalIn_string (P := Tryz.prog) w 9998 9 a b Tryz.underlying9, Result.andThen_ok]
 cases a.toList == b.toList <;> simp
theorem key_check (w : World) (a : ByteArray) (b : Bool) : (Instr.checkKey b 10000 167 (.agg #[.string a])).run Tryz.prog w = .ok () w := by
 unfold Instr.checkKey
 rw [Sem.run_bind, run_underlying Tryz.underlying167]
 simp [Result.andThen]
 rw [part_str w 9 _ 0 a Tryz.underlying9 rfl]
 simp only
 rw [show (9999 : Nat) = 9998 + 1 from rfl]
 unfold Instr.checkKey
 rw [Sem.run_bind, run_underlying Tryz.underlying9]
 simp [Result.andThen]
def MapOf (w : World) (r : Nat) (L : List (List Int × Value)) : Prop := ∃ es clock, w.heap[r]? = some (.map es clock) ∧ es.toList.map (fun e => (e.key, e.val)) = L.map (fun p => (keyV p.1, p.2))
def NamesB (L : List (List Int × Value)) : Prop := ∀ p ∈ L, ∀ x ∈ p.1, 0 ≤ x ∧ x < 256
theorem MapOf.lt {w : World} {r : Nat} {L : List (List Int × Value)} (h : MapOf w r L) : r < w.heap.size := by
 obtain ⟨es, clock, hb, _⟩ := h
 exact (Array.getElem?_eq_some_iff.1 hb).1
theorem MapOf.below {w w' : World} {r B : Nat} {L : List (List Int × Value)} (h : MapOf w r L) (hb : Below B w w') (hr : r < B) : MapOf w' r L := by
 obtain ⟨es, clock, he, h2⟩ := h
 exact ⟨es, clock, (hb.block r hr).trans he, h2⟩
theorem MapOf.new (w : World) : MapOf (w.alloc (.map #[] 0)) w.heap.size [] := ⟨#[], 0, heap_alloc_new w _, rfl⟩
def lookL (nm : List Int) : List (List Int × Value) → Option Value
 | [] => none
 | p :: l => if p.1 = nm then some p.2 else lookL nm l
theorem lookL_none {nm : List Int} : ∀ {l : List (List Int × Value)}, (∀ p ∈ l, p.1 ≠ nm) → lookL nm l = none
 | [], _ => rfl
 | p :: l, h => by
  rw [lookL, if_neg (h p (List.mem_cons_self ..))]
  exact lookL_none fun q hq => h q (List.mem_cons_of_mem _ hq)
theorem lookL_some {nm : List Int} : ∀ {l : List (List Int × Value)}, (∃ p ∈ l, p.1 = nm) → ∃ p ∈ l, p.1 = nm ∧ lookL nm l = some p.2
 | [], h => by obtain ⟨p, hp, _⟩ := h; simp at hp
 | p :: l, h => by
  by_cases e : p.1 = nm
  ·exact ⟨p, List.mem_cons_self .., e, by rw [lookL, if_pos e]⟩
  ·obtain ⟨q, hq, eq⟩ := h
   rcases List.mem_cons.1 hq with rfl | hq
   ·exact absurd eq e
   ·obtain ⟨q', h1, h2, h3⟩ := lookL_some (l := l) ⟨q, hq, eq⟩
    exact ⟨q', List.mem_cons_of_mem _ h1, h2, by rw [lookL, if_neg e, h3]⟩
def keyIs (nm : List Int) : Value → Bool
 | .agg cs => match (cs[0]? : Option Value) with
  | some (Value.string b) => (strOfNums nm).toList == b.toList
  | _ => false
 | _ => false
theorem keyIs_key (nm : List Int) (b : ByteArray) : keyIs nm (.agg #[.string b]) = ((strOfNums nm).toList == b.toList) := by simp [keyIs]
theorem keyIs_eq {nm m : List Int} (hn : ∀ x ∈ nm, 0 ≤ x ∧ x < 256) (hm : ∀ x ∈ m, 0 ≤ x ∧ x < 256) : keyIs nm (keyV m) = decide (m = nm) := by
 rw [keyIs_key, str_eq_dec hn hm]
 exact decide_eq_decide.2 eq_comm
theorem findE_look {nm : List Int} (hn : ∀ x ∈ nm, 0 ≤ x ∧ x < 256) : ∀ (es : List MapEntry) (L : List (List Int × Value)) (i : Nat), NamesB L → es.map (fun e => (e.key, e.val)) = L.map (fun p => (keyV p.1, p.2)) →
  (findE (keyIs nm) es i).map (·.2) = lookL nm L
 | [], [], _, _, _ => rfl
 | [], _ :: _, _, _, h => by simp at h
 | _ :: _, [], _, _, h => by simp at h
 | e :: es, p :: L, i, hb, h => by
  simp only [List.map_cons, List.cons.injEq, Prod.mk.injEq] at h
  obtain ⟨⟨h1, h2⟩, h3⟩ := h
  have ih := findE_look hn es L (i + 1) (fun q hq => hb q (List.mem_cons_of_mem _ hq)) h3
  rw [findE, lookL, h1, keyIs_eq hn (hb p (List.mem_cons_self ..))]
  by_cases e1 : p.1 = nm
  ·simp [e1, h2]
  ·rw [decide_eq_false e1, if_neg e1]
   simpa using ih
section
variable {w : World} {r : Nat} {L : List (List Int × Value)} {nm : List Int}
theorem MapOf.keys (h : MapOf w r L) (nm : List Int) : ∃ es clock, w.heap[r]? = some (.map es clock) ∧ es.toList.map (fun e => (e.key, e.val)) = L.map (fun p => (keyV p.1, p.2)) ∧
  ∀ e ∈ es.toList, (Op.equal 167 (keyV nm) e.key).run Tryz.prog w = .ok (keyIs nm e.key) w := by
 obtain ⟨es, clock, h1, h2⟩ := h
 refine ⟨es, clock, h1, h2, fun e he => ?_⟩
 have : (e.key, e.val) ∈ L.map (fun p => (keyV p.1, p.2)) := by rw [← h2]; exact List.mem_map.2 ⟨e, he, rfl⟩
 obtain ⟨p, _, hp⟩ := List.mem_map.1 this
 injection hp with hk _
 rw [← hk, keyIs_key]
 exact key_eq w _ _
theorem MapOf.look (h : MapOf w r L) (hb : NamesB L) (hn : ∀ x ∈ nm, 0 ≤ x ∧ x < 256) {t et : TypeId} {zero : Value} (ht : Tryz.prog.underlying t = some (.map 167 et)) (hz : (zeroValue et).run Tryz.prog w = .ok zero w) (ok : Bool) :
  (Instr.lookup t (.map (some r)) (keyV nm) ok).run Tryz.prog w = .ok (match lookL nm L with
   | some v => if ok then .tuple #[v, .bool true] else v
   | none => if ok then .tuple #[zero, .bool false] else zero) w := by
 obtain ⟨es, clock, h1, h2, h3⟩ := h.keys nm
 rw [run_lookup_struct Tryz.underlying167 ht h1 (fun b => key_check w _ b) hz h3 ok, ← findE_look hn es.toList L 0 hb h2]
 cases findE (keyIs nm) es.toList 0 with
 | none => rfl
 | some p => rfl
theorem MapOf.add (h : MapOf w r L) (hb : NamesB L) (hn : ∀ x ∈ nm, 0 ≤ x ∧ x < 256) {t et : TypeId} (ht : Tryz.prog.underlying t = some (.map 167 et)) (hnew : ∀ p ∈ L, p.1 ≠ nm) (v : Value) :
  ∃ o, (Instr.mapUpdate t (.map (some r)) (keyV nm) v).run Tryz.prog w = .ok () (w.putObj r o) ∧ MapOf (w.putObj r o) r (L ++ [(nm, v)]) := by
 obtain ⟨es, clock, h1, h2, h3⟩ := h.keys nm
 have hf : findE (keyIs nm) es.toList 0 = none := by
  have := findE_look hn es.toList L 0 hb h2
  rw [lookL_none hnew] at this
  cases hq : findE (keyIs nm) es.toList 0 with
  | none => rfl
  | some p => rw [hq] at this; simp at this
 refine ⟨_, run_mapUpdate_struct Tryz.underlying167 ht h1 (fun b => key_check w _ b) h3 hf, es.push { key := keyV nm, val := v, born := clock }, clock + 1, ?_, ?_⟩
 ·have hlt := (Array.getElem?_eq_some_iff.1 h1).1
  show (w.heap.setIfInBounds r _)[r]? = _
  rw [Array.getElem?_setIfInBounds_self_of_lt hlt]
 ·rw [Array.toList_push, List.map_append, h2, List.map_append]
  rfl
theorem below_putObj {B : Nat} {w w' : World} (h : Below B w w') (hr : B ≤ r) (o : Obj) : Below B w (w'.putObj r o) :=
 ⟨h.os, h.tape, h.output, Nat.le_trans h.size (by simp [World.putObj]), fun k hk => by
  rw [← h.block k hk]
  show (w'.heap.setIfInBounds r o)[k]? = _
  rw [Array.getElem?_setIfInBounds_ne (by omega)]⟩
end
def Kept (ds : List Pd) (k : Nat) (L : List (List Int × Value)) : Prop :=
 (∀ p ∈ L, ∃ (j : Nat) (d : Pd), j < k ∧ ds[j]? = some d ∧ p = (d.p.name, .int .i64 j) ∧ ∀ (i : Nat) (q : Pd), i < j → ds[i]? = some q → q.p.name ≠ d.p.name) ∧
 ∀ (j : Nat) (d : Pd), j < k → ds[j]? = some d → ∃ p ∈ L, p.1 = d.p.name
theorem Kept.nil (ds : List Pd) : Kept ds 0 [] := ⟨fun p h => by simp at h, fun j _ h => absurd h (Nat.not_lt_zero _)⟩
theorem Kept.step {ds : List Pd} {k : Nat} {L : List (List Int × Value)} {d : Pd} (h : Kept ds k L) (hd : ds[k]? = some d) :
  (∃ v, lookL d.p.name L = some v ∧ Kept ds (k + 1) L) ∨ (lookL d.p.name L = none ∧ (∀ p ∈ L, p.1 ≠ d.p.name) ∧ Kept ds (k + 1) (L ++ [(d.p.name, .int .i64 k)])) := by
 obtain ⟨h1, h2⟩ := h
 by_cases hin : ∃ p ∈ L, p.1 = d.p.name
 ·left
  obtain ⟨q, _, _, hq⟩ := lookL_some hin
  refine ⟨q.2, hq, fun p hp => ?_, fun j e hj he => ?_⟩
  ·obtain ⟨j, e, q1, q2, q3, q4⟩ := h1 p hp
   exact ⟨j, e, by omega, q2, q3, q4⟩
  ·rcases Nat.lt_or_ge j k with h | h
   ·exact h2 j e h he
   ·obtain rfl : j = k := by omega
    rw [hd] at he
    injection he with he
    subst he
    exact hin
 ·right
  have hno : ∀ p ∈ L, p.1 ≠ d.p.name := fun p hp e => hin ⟨p, hp, e⟩
  refine ⟨lookL_none hno, hno, fun p hp => ?_, fun j e hj he => ?_⟩
  ·rcases List.mem_append.1 hp with hp | hp
   ·obtain ⟨j, e, q1, q2, q3, q4⟩ := h1 p hp
    exact ⟨j, e, by omega, q2, q3, q4⟩
   ·rw [List.mem_singleton] at hp
    refine ⟨k, d, by omega, hd, hp, fun i q hi hq e => ?_⟩
    obtain ⟨p2, hp2, e2⟩ := h2 i q hi hq
    exact hno p2 hp2 (e2.trans e)
  ·rcases Nat.lt_or_ge j k with h | h
   ·obtain ⟨p, hp, e2⟩ := h2 j e h he
    exact ⟨p, List.mem_append_left _ hp, e2⟩
   ·obtain rfl : j = k := by omega
    rw [hd] at he
    injection he with he
    subst he
    exact ⟨_, List.mem_append_right _ (List.mem_singleton.2 rfl), rfl⟩
theorem Kept.look {ds : List Pd} {L : List (List Int × Value)} (h : Kept ds ds.length L) (nm : List Int) :
  (findP (ds.map (·.p)) nm = -1 ∧ lookL nm L = none) ∨ ∃ r : Nat, findP (ds.map (·.p)) nm = (r : Int) ∧ lookL nm L = some (.int .i64 r) ∧ r < ds.length := by
 obtain ⟨h1, h2⟩ := h
 rcases findP_ways (ds.map (·.p)) nm with ⟨e, hn⟩ | ⟨r, p, e, hp, hpn, hn⟩
 ·left
  refine ⟨e, lookL_none fun q hq he => ?_⟩
  obtain ⟨j, d, _, q2, q3, _⟩ := h1 q hq
  exact hn j d.p (at_pr q2) (by rw [← he, q3])
 ·right
  obtain ⟨d, hd, rfl⟩ := pr_at hp
  have hr := (List.getElem?_eq_some_iff.1 hd).1
  obtain ⟨q, hq, he⟩ := h2 r d hr hd
  obtain ⟨q', hq', he', hl⟩ := lookL_some ⟨q, hq, he.trans hpn⟩
  obtain ⟨j, d', q1, q2, q3, q4⟩ := h1 q' hq'
  have hj : j = r := by
   rcases Nat.lt_trichotomy j r with h | h | h
   ·exact absurd (by rw [← he', q3]) (hn j d'.p h (at_pr q2))
   ·exact h
   ·exact absurd (by rw [hpn, ← he', q3]) (q4 r d h hd)
  subst hj
  exact ⟨j, e, by rw [hl, q3], hr⟩
theorem Kept.names {ds : List Pd} {k : Nat} {L : List (List Int × Value)} (h : Kept ds k L) (hb : ∀ d ∈ ds, ∀ x ∈ d.p.name, 0 ≤ x ∧ x < 256) : NamesB L := fun p hp => by
 obtain ⟨j, d, _, q2, rfl, _⟩ := h.1 p hp
 exact hb d (List.mem_of_getElem? q2)
theorem PredRow.bytes {w : World} {B : Nat} {v : Value} {ds : List Pd} (h : PredRow w B v ds) : ∀ d ∈ ds, ∀ x ∈ d.p.name, 0 ≤ x ∧ x < 256 := by
 obtain ⟨A, c, hv, h1, h2, h3, h4, h5⟩ := h
 exact fun d hd => (h5 d hd).2.2.1
theorem key_any (s : ByteArray) (A : Option Addr) (n c : Nat) (w : World) : Calls Tryz.prog 93 #[.agg #[.string s, .slice A n c]] w fun e w' => e = .returned (.agg #[.string s]) ∧ Below w.heap.size w w' := by
 go_enter Tryz.func93, Tryz.ntmps93
 go_wp2_with fail
 exact bodyPost_ret (v := .agg #[.string s]) (by simp [results, Tryz.results93, go_sem]) rfl ⟨rfl, ((Below.refl _ _).alloc (Nat.le_refl _) _).alloc (by simp) _⟩
theorem Tryz.infoInt : (Tryz.prog.info? 3).map (fun i => (i.zero, i.size, i.bytes)) = some (some (.int .i64 0), 1, 8) := by kernel_rfl
theorem zero_int (w : World) : (zeroValue 3).run Tryz.prog w = .ok (.int .i64 0) w := by
 obtain ⟨i0, hi, hz0, _, _⟩ := info_parts Tryz.infoInt
 simp [zeroValue, typeInfo, hi, hz0]
theorem firsts_any (A : Option Addr) (c : Nat) (ds : List Pd) (w : World) (hrow : PredRow w w.heap.size (.slice A ds.length c) ds) :
  Calls Tryz.prog 91 #[.slice A ds.length c] w fun e w' => ∃ L, e = .returned (.map (some w.heap.size)) ∧ Kept ds ds.length L ∧ MapOf w' w.heap.size L ∧ Below w.heap.size w w' := by
 obtain ⟨_, hc1, hc2⟩ : ∃ _ : True, ds.length ≤ c ∧ c ≤ 9223372036854775807 := by
  obtain ⟨A', c', hv, q1, q2⟩ := hrow.form
  injection hv with _ _ e3
  exact ⟨trivial, by omega, by omega⟩
 have HBY := hid hrow.bytes
 have HROW := hid hrow
 clear hrow
 have hmm := @run_makeMap Tryz.prog
 go_enter Tryz.func91, Tryz.ntmps91
 go_wp2_with fail
 obtain ⟨r, hr⟩ : ∃ r, w.heap.size = r := ⟨_, rfl⟩
 have hm0 := MapOf.new w
 have hb0 : Below w.heap.size w (w.alloc (.map #[] 0)) := (Below.refl _ _).alloc (Nat.le_refl _) _
 rw [hr] at hm0 hb0 HROW ⊢
 have HM0 := hid hm0
 have HB0 := hid hb0
 clear hm0 hb0 hmm
 go_loopg [11] ds.length (fun gk i wr => ∃ (k : Nat) (L : List (List Int × Value)), k ≤ ds.length ∧ i = .int .i64 k ∧ Hid (ds.length - k = gk) ∧ Hid (Kept ds k L) ∧ Hid (MapOf wr r L) ∧ Hid (Below r w wr))
 case atStart => exact ⟨0, [], Nat.zero_le _, rfl, hid rfl, hid (Kept.nil ds), HM0, HB0⟩
 case round =>
  obtain ⟨k, L, hk, rfl, HGK, HK, HM, HBR⟩ := hrel
  have hlr := HM.out.lt
  by_cases hlt : k < ds.length
  ·obtain ⟨d, hd⟩ : ∃ d, ds[k]? = some d := ⟨_, List.getElem?_eq_getElem hlt⟩
   have HST := hid (HK.out.step hd)
   obtain ⟨b, o, rfl, hb, x0, x1, hir, hfit, ha1, ha2⟩ := (HROW.out.below HBR.out).at hd
   have HNB := hid (HK.out.names HBY.out)
   have HFT := hid hfit.2.1
   obtain ⟨dA, hdA⟩ : ∃ dA, d.A = dA := ⟨_, rfl⟩
   rw [hdA] at x1
   obtain ⟨w1, hw1⟩ : ∃ w1, wr.alloc (.cells #[.string (strOfNums d.p.name), .slice dA d.p.args.length d.c] 58) = w1 := ⟨_, rfl⟩
   have s1 : w1.heap.size = wr.heap.size + 1 := by rw [← hw1]; simp
   have b1 : Below wr.heap.size wr w1 := by rw [← hw1]; exact (Below.refl _ _).alloc (Nat.le_refl _) _
   have h1 : Held w1 wr.heap.size 58 #[.string (strOfNums d.p.name), .slice dA d.p.args.length d.c] := by rw [← hw1]; exact heap_alloc_new wr _
   have HP1 := hid h1
   have HM1 := hid (HM.out.below b1 hlr)
   have HB1 := hid (HBR.out.trans (b1.mono (Nat.le_of_lt hlr)))
   obtain ⟨p0, p1⟩ := cC2 h1
   have hl1 : wr.heap.size < w1.heap.size := by omega
   simp at p0 p1
   have HKY := hid (fun W => key_any (strOfNums d.p.name) dA d.p.args.length d.c W)
   clear h1 b1 hir hfit hd hdA
   go_wp2_with fail
   refine (HKY.out _).mono ?_
   rintro e w2 ⟨rfl, hb2⟩
   have hz2 : w1.heap.size ≤ w2.heap.size := hb2.size
   have HM2 := hid (HM1.out.below hb2 (by omega))
   have HB2 := hid (HB1.out.trans (hb2.mono (by omega)))
   have HP2 := hid (HP1.out.below hb2 (by omega))
   have hlk := HM2.out.look HNB.out HFT.out (t := 163) Tryz.underlying163 (zero_int w2) true
   rcases HST.out with ⟨v, h3, hk3⟩ | ⟨h3, h4, hk3⟩
   ·rw [h3] at hlk
    have HK3 := hid hk3
    simp only [if_true] at hlk
    clear hb2 hk3 h3 x0 x1
    go_wp2_with fail
    go_roundg (ds.length - (k + 1))
    case measure => have := HGK.out; omega
    case rel => exact ⟨k + 1, L, by omega, by go_num, hid rfl, HK3, HM2, HB2⟩
   ·rw [h3] at hlk
    have HK3 := hid hk3
    have H4 := hid h4
    obtain ⟨p0', p1'⟩ := cC2 HP2.out
    have hl2 := HP2.out.lt
    simp at p0' p1'
    simp only [if_true] at hlk
    clear hb2 hk3 h3 h4 x0 x1 p0 p1
    go_wp2_with fail
    refine (HKY.out _).mono ?_
    rintro e w3 ⟨rfl, hb3⟩
    have hz3 : w2.heap.size ≤ w3.heap.size := hb3.size
    have HM3 := hid (HM2.out.below hb3 (by omega))
    have HB3 := hid (HB2.out.trans (hb3.mono (by omega)))
    obtain ⟨ob, hup, hmo⟩ := HM3.out.add HNB.out HFT.out (t := 163) Tryz.underlying163 H4.out (.int .i64 k)
    have HMO := hid hmo
    clear hb3 hmo hlk p0' p1'
    go_wp2_with fail
    go_roundg (ds.length - (k + 1))
    case measure => have := HGK.out; omega
    case rel => exact ⟨k + 1, _, by omega, by go_num, hid rfl, HK3, HMO, hid (below_putObj HB3.out (Nat.le_refl _) ob)⟩
  ·obtain rfl : k = ds.length := by omega
   go_wp2_with fail
   go_ret
   subst hr
   exact ⟨L, rfl, HK.out, HM.out, HBR.out⟩
end Go.Proofs.YtnlfcmbpocdpjaaGreat
