/-
  A dictionary in memory: what is known of it, what calls on it leave; append of any row as a step of a walk. No function of the program here.
-/
import Derived.Test.YtlmedebhkkiagaaDictMap
import Derived.Test.YtlmedebhkkiagaaTraceApp
import Derived.Lib.Hide
namespace Go.Proofs.Ytlmedebhkkiagaa
open Go.RowKit Go.ChangeShapes Go.WideShapes

/-- A dictionary in block D: its texts' slice v, a row of the call's own, and its map in block r; all from base on. -/
structure DictAt (w : World) (base D r : Nat) (v : Value) (L : List (List Int)) : Prop where
  held : Held w D 81 #[v, .map (some r)]
  own : w.ownsRow base 9 1 v L.length (strVs L)
  map : MapK strV w r L
  hD : base ≤ D
  hr : base ≤ r
  tx : TxOk L
/-- What a call on it leaves: all but its three blocks. -/
structure DBut (w w' : World) (D r : Nat) (row : Option Nat) : Prop where
  os : w'.os = w.os
  tape : w'.tape = w.tape
  output : w'.output = w.output
  size : w.heap.size ≤ w'.heap.size
  block : ∀ k, k < w.heap.size → k ≠ D → k ≠ r → some k ≠ row → w'.heap[k]? = w.heap[k]?
theorem TxOk.b {L : List (List Int)} (h : TxOk L) : ∀ t ∈ L, TxB t := fun t ht => (h t ht).2
theorem own_not_map {w : World} {r n k : Nat} {e : TypeId} {size : Nat} {v : Value} {us : List Value} {es : Array MapEntry} {cl : Nat} (h : w.ownsRow n e size v k us) (ht : w.heap[r]? = some (.map es cl)) : some r ≠ v.ownBlock := by
  rcases h.2 with ⟨rfl, _⟩ | ⟨g, cap, cur, rfl, _, hg, _⟩
  · simp [Value.ownBlock]
  · intro e
    simp only [Value.ownBlock, Option.some.injEq] at e
    subst e
    rw [hg] at ht
    cases ht
theorem own_not_held {w : World} {g n k : Nat} {e t : TypeId} {size : Nat} {v : Value} {us : List Value} {cs : Array Value} (h : w.ownsRow n e size v k us) (ht : Held w g t cs) (hne : e ≠ t) : some g ≠ v.ownBlock := by
  rcases h.2 with ⟨rfl, _⟩ | ⟨g', cap, cur, rfl, _, hg, _⟩
  · simp [Value.ownBlock]
  · intro e
    simp only [Value.ownBlock, Option.some.injEq] at e
    subst e
    rw [show w.heap[g]? = _ from ht] at hg
    injection hg with hg
    injection hg with _ e2
    exact hne e2.symm
theorem own_off {w : World} {n k : Nat} {e : TypeId} {size : Nat} {v : Value} {us : List Value} (h : w.ownsRow n e size v k us) {j : Nat} (hj : v.ownBlock = some j) : n ≤ j ∧ j < w.heap.size := h.lt j hj
section
variable {w w' : World} {base D r : Nat} {v : Value} {L : List (List Int)}
theorem DictAt.ne (h : DictAt w base D r v L) : D ≠ r ∧ some D ≠ v.ownBlock ∧ some r ≠ v.ownBlock := by
  obtain ⟨es, cl, he, _⟩ := h.map
  refine ⟨fun e => ?_, own_not_held h.own h.held (by decide), own_not_map h.own he⟩
  have := h.held
  unfold Held at this
  rw [e, he] at this
  cases this
theorem DictAt.below (h : DictAt w base D r v L) (hb : Below w.heap.size w w') : DictAt w' base D r v L :=
  ⟨h.held.below hb h.held.lt, own_below h.own hb, h.map.below hb h.map.lt, h.hD, h.hr, h.tx⟩
theorem DictAt.form (h : DictAt w base D r v L) : ∃ A c, v = .slice A L.length c ∧ L.length ≤ c ∧ c ≤ 9223372036854775807 := by
  obtain ⟨A, c, e, h1, h2⟩ := (ERow.of_own h.own).form
  exact ⟨A, c, e, h1, h2⟩
theorem DBut.below {n : Nat} (h : DBut w w' D r v.ownBlock) (hn : n ≤ w.heap.size) (hd : DictAt w n D r v L) : Below n w w' :=
  ⟨h.os, h.tape, h.output, h.size, fun k hk => h.block k (by omega) (by have := hd.hD; omega) (by have := hd.hr; omega) (fun e => by have := (own_off hd.own e.symm).1; omega)⟩
theorem DBut.refl (w : World) (D r : Nat) (row : Option Nat) : DBut w w D r row := ⟨rfl, rfl, rfl, Nat.le_refl _, fun _ _ _ _ _ => rfl⟩
end
/-- append of any row behind a row of the call's own; and where the new row lies. -/
theorem run_append_erow_at {P : Program} (w : World) (base : Nat) (t ty e : TypeId) (i : TypeInfo) (z : Value) (size bytes : Nat) (ht : P.underlying t = some (.slice e)) (hi : P.info? e = some i) (hz : i.zero = some z)
    (hsize : i.size = size) (hby : i.bytes = bytes) (hzs : z.cells.size = size) (hsz : 0 < size) (v : Value) (n : Nat) (xs : List Value) (hown : w.ownsRow base e size v n xs)
    (B : Nat) (sv : Value) (m : Nat) (us : List Value) (hr : ERow w B sv m us) (hl : us.length = m * size) (h1 : ∀ u ∈ us, u.oneCell' = true) (h63 : n + m ≤ maxLen) (hbytes : (n + m) * bytes ≤ 140737488355328) (hbase : base ≤ w.heap.size) :
    ∃ v' w', (Builtin.append_ #[t, t] ty #[v, sv]).run P w = .ok v' w' ∧ w'.ownsRow base e size v' (n + m) (xs ++ us) ∧ w.grownBy w' v.ownBlock ∧ (v'.ownBlock = v.ownBlock ∨ v'.ownBlock = some w.heap.size) := by
  obtain ⟨A, c, rfl, q1, q2, q3, q4⟩ := hr
  rcases A with _ | ad
  · obtain rfl := q3 rfl
    obtain rfl : m = 0 := by omega
    have hu : us = [] := List.eq_nil_of_length_eq_zero (by omega)
    subst hu
    refine ⟨v, w, run_append_owned_none w base t ty e i size ht hi v n xs hown, by rw [Nat.add_zero, List.append_nil]; exact hown, World.grownBy.refl _ _, .inl rfl⟩
  · obtain ⟨v', w', r1, r2, r3, _, r4⟩ := run_append_own_at (P := P) w base t ty e i z size bytes ht hi hz hsize hby hzs hsz v n xs hown ad m c us hl (fun j u hu => by
      have hj := (List.getElem?_eq_some_iff.1 hu).1
      have hm : 0 < m := by
        rcases Nat.eq_zero_or_pos m with h | h
        · rw [h] at hl; omega
        · exact h
      obtain ⟨b, o, he, _, hc⟩ := q4 hm
      injection he with he
      subst he
      rw [add_plain]
      exact hc j u hu) h1 h63 hbytes hbase
    exact ⟨v', w', r1, r2, r3, r4⟩
/-- append, as a step of a walk: of any row, behind a row of the call's own. -/
theorem wpList_append_erow {P : Program} (w : World) {ops : Array Oper} {rest : List Oper} {o : Oper} {a : Act} {Q : Exit → Act → World → Prop}
    (hg : o.guard = none) (s x : Operand) (t e : TypeId) (hop : o.op = Op.call { callee := Callee.builtin Builtin.append, args := #[s, x], argTypes := #[t, t] })
    (base : Nat) (i : TypeInfo) (z : Value) (size bytes : Nat) (ht : P.underlying t = some (.slice e)) (hi : P.info? e = some i) (hz : i.zero = some z) (hsize : i.size = size) (hby : i.bytes = bytes) (hzs : z.cells.size = size) (hsz : 0 < size)
    (v : Value) (n : Nat) (xs : List Value) (hs : a.eval s = v) (hown : w.ownsRow base e size v n xs) (B : Nat) (sv : Value) (m : Nat) (us : List Value) (hx : a.eval x = sv) (hr : ERow w B sv m us) (hl : us.length = m * size) (h1 : ∀ u ∈ us, u.oneCell' = true)
    (h63 : n + m ≤ maxLen) (hbytes : (n + m) * bytes ≤ 140737488355328) (hbase : base ≤ w.heap.size) (N : Nat) (hN : n + m = N) (ys : List Value) (hys : xs ++ us = ys)
    (hK : ∀ A c w', w'.ownsRow base e size (.slice A N c) N ys → w.grownBy w' v.ownBlock → ((Value.slice A N c).ownBlock = v.ownBlock ∨ (Value.slice A N c).ownBlock = some w.heap.size) → wpList P ops Q rest (a.put o.dst (.slice A N c)) w') :
    wpList P ops Q (o :: rest) a w := by
  subst hN hys
  obtain ⟨v', w', hrun, h2, h3, h4⟩ := run_append_erow_at (P := P) w base t o.type e i z size bytes ht hi hz hsize hby hzs hsz v n xs hown B sv m us hr hl h1 h63 hbytes hbase
  obtain ⟨A, c, rfl⟩ := own_form h2
  refine wpList_plain hg fun K hK' => ?_
  unfold Oper.wp
  simp [execOp, hop, resolve, invoke, builtin, hs, hx, hrun, Result.andThen]
  exact hK' _ _ (hK A c w' h2 h3 h4)
theorem strVs_one (L : List (List Int)) : ∀ u ∈ strVs L, u.oneCell' = true := fun u hu => by
  obtain ⟨t, _, rfl⟩ := List.mem_map.1 hu
  rfl
theorem own_nil (w : World) (base : Nat) (e : TypeId) : w.ownsRow base e 1 (.slice none 0 0) 0 [] := ⟨rfl, .inl ⟨rfl, rfl⟩⟩
#print axioms wpList_append_erow
end Go.Proofs.Ytlmedebhkkiagaa
