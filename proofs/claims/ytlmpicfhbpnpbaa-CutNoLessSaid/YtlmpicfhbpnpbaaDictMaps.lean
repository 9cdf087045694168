/-
  Maps whose values are their keys' places; a dictionary in memory: what is known of it, what calls on it leave; append of any row as a step of a walk. No function of the program here.
-/
import Derived.Test.YtlmpicfhbpnpbaaPlainDict
import Derived.Test.YtlmpicfhbpnpbaaMapKey
import Derived.Test.YtlmpicfhbpnpbaaRows
import Derived.Test.YtlmpicfhbpnpbaaTraceApp
import Derived.Lib.Hide
namespace Go.Proofs.Ytlmpicfhbpnpbaa
open Go.RowKit

section
variable {P : Program} {w : World} {kt : TypeId} {k : Value} {s : Value → Bool}
theorem run_lookup_found {t et : TypeId} {r : Nat} {es : Array MapEntry} {clock : Nat} {zero : Value} (ht : P.underlying t = some (.map kt et)) (hb : w.heap[r]? = some (.map es clock))
    (hc : ∀ b, (Instr.checkKey b 10000 kt k).run P w = .ok () w) (hz : (zeroValue et).run P w = .ok zero w) (hf : (Instr.findKey kt k es.toList).run P w = .ok (findE s es.toList 0) w) :
    (Instr.lookup t (.map (some r)) k true).run P w = .ok (match findE s es.toList 0 with
      | some (_, v) => .tuple #[v, .bool true]
      | none => .tuple #[zero, .bool false]) w := by
  have hg : (getObj r).run P w = .ok (.map es clock) w := by simp [getObj, Sem.run, hb]
  unfold Instr.lookup
  simp only [Sem.run_bind, run_underlying ht, Result.andThen_ok, hg, Sem.run_pure, hc, hf]
  cases findE s es.toList 0 with
  | none => simp [hz]
  | some p => obtain ⟨i, v⟩ := p; simp
theorem run_mapUpdate_found {t et : TypeId} {r : Nat} {es : Array MapEntry} {clock : Nat} {v : Value} (ht : P.underlying t = some (.map kt et)) (hb : w.heap[r]? = some (.map es clock))
    (hc : ∀ b, (Instr.checkKey b 10000 kt k).run P w = .ok () w) (hf : (Instr.findKey kt k es.toList).run P w = .ok none w) :
    (Instr.mapUpdate t (.map (some r)) k v).run P w = .ok () (w.putObj r (.map (es.push { key := k, val := v, born := clock }) (clock + 1))) := by
  have hg : (getObj r).run P w = .ok (.map es clock) w := by simp [getObj, Sem.run, hb]
  have hs : ∀ o, (setObj r o).run P w = .ok () (w.putObj r o) := fun o => by simp [setObj, Sem.run, hb, World.putObj]
  unfold Instr.mapUpdate
  simp only [Sem.run_bind, run_underlying ht, Result.andThen_ok, hg, hc, hf]
  rw [hs]
end

section
variable {α : Type}
def entsF (kf : α → Value) : List α → Nat → List (Value × Value)
  | [], _ => []
  | a :: l, k => (kf a, .int .i64 k) :: entsF kf l (k + 1)
theorem entsF_snoc (kf : α → Value) (a : α) : ∀ (l : List α) (k : Nat), entsF kf (l ++ [a]) k = entsF kf l k ++ [(kf a, .int .i64 ((k + l.length : Nat) : Int))]
  | [], k => rfl
  | b :: l, k => by
    rw [List.cons_append, entsF, entsF_snoc kf a l (k + 1), entsF, List.cons_append, List.length_cons, Nat.add_right_comm, Nat.add_assoc]
theorem entsF_keys (kf : α → Value) : ∀ (l : List α) (k : Nat), ∀ p ∈ entsF kf l k, ∃ a, p.1 = kf a
  | [], k, p, h => by simp [entsF] at h
  | b :: l, k, p, h => by
    rcases List.mem_cons.1 h with rfl | h
    · exact ⟨b, rfl⟩
    · exact entsF_keys kf l (k + 1) p h
/-- The map in block r holds these keys, each with its place. -/
def MapK (kf : α → Value) (w : World) (r : Nat) (L : List α) : Prop := ∃ es clock, w.heap[r]? = some (.map es clock) ∧ es.toList.map (fun e => (e.key, e.val)) = entsF kf L 0
section
variable {kf : α → Value} {w w' : World} {r B : Nat} {L : List α}
theorem MapK.lt (h : MapK kf w r L) : r < w.heap.size := by
  obtain ⟨es, clock, hb, _⟩ := h
  exact (Array.getElem?_eq_some_iff.1 hb).1
theorem MapK.keep (h : MapK kf w r L) (hb : w'.heap[r]? = w.heap[r]?) : MapK kf w' r L := by
  obtain ⟨es, clock, he, h2⟩ := h
  exact ⟨es, clock, hb.trans he, h2⟩
theorem MapK.below (h : MapK kf w r L) (hb : Below B w w') (hr : r < B) : MapK kf w' r L := h.keep (hb.block r hr)
theorem MapK.new (kf : α → Value) (w : World) : MapK kf (w.alloc (.map #[] 0)) w.heap.size ([] : List α) := ⟨#[], 0, heap_alloc_new w _, rfl⟩
variable [DecidableEq α]
/-- How keys of a type are looked for. -/
structure KeyWay (P : Program) (kt : TypeId) (kf : α → Value) (ok : α → Prop) (s : α → Value → Bool) : Prop where
  check : ∀ (w : World) (a : α) (b : Bool), (Instr.checkKey b 10000 kt (kf a)).run P w = .ok () w
  find : ∀ (w : World) (x : α) (es : List MapEntry), ok x → (∀ e ∈ es, ∃ a, e.key = kf a) → (Instr.findKey kt (kf x) es).run P w = .ok (findE (s x) es 0) w
  same : ∀ (a x : α), ok a → ok x → s x (kf a) = decide (a = x)
theorem findE_ents {x : α} {s : Value → Bool} : ∀ (es : List MapEntry) (L : List α) (k i : Nat), (∀ a ∈ L, s (kf a) = decide (a = x)) → es.map (fun e => (e.key, e.val)) = entsF kf L k →
    (findE s es i).map (·.2) = if placeF x L k < 0 then none else some (.int .i64 (placeF x L k))
  | [], [], _, _, _, _ => rfl
  | [], _ :: _, _, _, _, h => by simp [entsF] at h
  | _ :: _, [], _, _, _, h => by simp [entsF] at h
  | e :: es, a :: L, k, i, hs, h => by
    simp only [List.map_cons, entsF, List.cons.injEq, Prod.mk.injEq] at h
    obtain ⟨⟨h1, h2⟩, h3⟩ := h
    have ih := findE_ents es L (k + 1) (i + 1) (fun b hb => hs b (List.mem_cons_of_mem _ hb)) h3
    rw [findE, placeF, h1, hs a (List.mem_cons_self ..)]
    by_cases e1 : a = x
    · rw [decide_eq_true e1, if_pos rfl, if_pos e1, if_neg (by omega), ← h2]
      rfl
    · rw [decide_eq_false e1, if_neg e1]
      simpa using ih
variable {P : Program} {kt t et : TypeId} {ok : α → Prop} {s : α → Value → Bool} {x : α}
theorem MapK.find (K : KeyWay P kt kf ok s) (h : MapK kf w r L) (hL : ∀ a ∈ L, ok a) (hx : ok x) :
    ∃ es clock, w.heap[r]? = some (.map es clock) ∧ es.toList.map (fun e => (e.key, e.val)) = entsF kf L 0 ∧ (Instr.findKey kt (kf x) es.toList).run P w = .ok (findE (s x) es.toList 0) w ∧
      (findE (s x) es.toList 0).map (·.2) = if placeD L x < 0 then none else some (.int .i64 (placeD L x)) := by
  obtain ⟨es, clock, h1, h2⟩ := h
  refine ⟨es, clock, h1, h2, K.find w x es.toList hx (fun e he => ?_), findE_ents _ _ _ _ (fun a ha => K.same a x (hL a ha) hx) h2⟩
  exact entsF_keys kf L 0 (e.key, e.val) (by rw [← h2]; exact List.mem_map.2 ⟨e, he, rfl⟩)
/-- What a look-up in it comes to. -/
theorem MapK.look (K : KeyWay P kt kf ok s) (h : MapK kf w r L) (hL : ∀ a ∈ L, ok a) (hx : ok x) (ht : P.underlying t = some (.map kt et)) (hz : (zeroValue et).run P w = .ok (.int .i64 0) w) :
    (Instr.lookup t (.map (some r)) (kf x) true).run P w = .ok (.tuple #[.int .i64 (if placeD L x < 0 then 0 else placeD L x), .bool (decide (0 ≤ placeD L x))]) w := by
  obtain ⟨es, clock, h1, h2, h3, h4⟩ := h.find K hL hx
  rw [run_lookup_found ht h1 (fun b => K.check w x b) hz h3]
  by_cases hn : placeD L x < 0
  · rw [if_pos hn] at h4 ⊢
    rw [decide_eq_false (by omega)]
    cases hq : findE (s x) es.toList 0 with
    | none => rfl
    | some p => rw [hq] at h4; cases h4
  · rw [if_neg hn] at h4 ⊢
    rw [decide_eq_true (by omega)]
    cases hq : findE (s x) es.toList 0 with
    | none => rw [hq] at h4; cases h4
    | some p =>
      rw [hq] at h4
      injection h4 with h4
      show Result.ok (Value.tuple #[p.2, .bool true]) w = _
      rw [show p.2 = _ from h4]
/-- What a store of a new key comes to. -/
theorem MapK.add (K : KeyWay P kt kf ok s) (h : MapK kf w r L) (hL : ∀ a ∈ L, ok a) (hx : ok x) (ht : P.underlying t = some (.map kt et)) (hnew : placeD L x < 0) :
    ∃ o, (Instr.mapUpdate t (.map (some r)) (kf x) (.int .i64 L.length)).run P w = .ok () (w.putObj r o) ∧ MapK kf (w.putObj r o) r (L ++ [x]) := by
  obtain ⟨es, clock, h1, h2, h3, h4⟩ := h.find K hL hx
  rw [if_pos hnew] at h4
  have hf : findE (s x) es.toList 0 = none := by
    cases hq : findE (s x) es.toList 0 with
    | none => rfl
    | some p => rw [hq] at h4; cases h4
  rw [hf] at h3
  refine ⟨_, run_mapUpdate_found ht h1 (fun b => K.check w x b) h3, es.push { key := kf x, val := .int .i64 L.length, born := clock }, clock + 1, ?_, ?_⟩
  · have hlt := (Array.getElem?_eq_some_iff.1 h1).1
    show (w.heap.setIfInBounds r _)[r]? = _
    rw [Array.getElem?_setIfInBounds_self_of_lt hlt]
  · rw [Array.toList_push, List.map_append, h2, entsF_snoc, Nat.zero_add]
    rfl
end
end

/-! Texts. -/
def TxB (t : List Int) : Prop := ∀ x ∈ t, 0 ≤ x ∧ x < 256
def sameT (x : List Int) : Value → Bool
  | .string c => strOfNums x == c
  | _ => false
theorem bytes_eq_dec {xs ys : List Int} (hx : ∀ x ∈ xs, 0 ≤ x ∧ x < 256) (hy : ∀ x ∈ ys, 0 ≤ x ∧ x < 256) : (strOfNums xs == strOfNums ys) = decide (ys = xs) := by
  by_cases h : ys = xs
  · subst h
    rw [decide_eq_true rfl]
    exact (Go.MapKept.bytes_beq _ _).2 rfl
  · rw [decide_eq_false h]
    cases hq : strOfNums xs == strOfNums ys with
    | false => rfl
    | true => exact absurd (str_inj hy hx ((Go.MapKept.bytes_beq _ _).1 hq).symm) h
theorem findNow_texts (x : List Int) : ∀ (es : List MapEntry) (i : Nat), (∀ e ∈ es, ∃ a, e.key = strV a) → Instr.findNow .string (strV x) es i = some (findE (sameT x) es i)
  | [], _, _ => rfl
  | e :: es, i, h => by
    obtain ⟨a, ha⟩ := h e (List.mem_cons_self ..)
    have ih := findNow_texts x es (i + 1) fun e' he => h e' (List.mem_cons_of_mem _ he)
    have hn : Instr.sameNow .string (strV x) (strV a) = some (sameT x (strV a)) := rfl
    rw [Instr.findNow, findE, ha, ih, hn]
    cases sameT x (strV a) <;> rfl
theorem text_way : KeyWay Try.prog 9 strV TxB sameT where
  check w a b := by
    rw [show (10000 : Nat) = 9999 + 1 from rfl]
    exact Go.MapKept.run_checkKey (d := .string) (k := strV a) Try.underlying9 trivial b 9999
  find w x es _ h := Go.MapKept.run_findKey Try.underlying9 (findNow_texts x es 0 h)
  same a x ha hx := by
    unfold sameT strV
    exact bytes_eq_dec hx ha

theorem zero_int13 (w : World) : (zeroValue 3).run Try.prog w = .ok (.int .i64 0) w := by
  have h : (Try.prog.info? 3).map (fun i => (i.zero, i.size, i.bytes)) = some (some (.int .i64 0), 1, 8) := by kernel_rfl
  obtain ⟨i0, hi, hz0, _, _⟩ := info_parts h
  simp [zeroValue, typeInfo, hi, hz0]
#print axioms text_way
#print axioms MapK.add
end Go.Proofs.Ytlmpicfhbpnpbaa

namespace Go.Proofs.Ytlmpicfhbpnpbaa
open Go.RowKit Go.ChangeShapes Go.WideShapes

/-- A dictionary in block D: its texts' slice v, a row of the call's own, and its map in block r; all from base on. -/
structure DictAt (w : World) (base D r : Nat) (v : Value) (L : List (List Int)) : Prop where
  held : Held w D 140 #[v, .map (some r)]
  own : w.ownsRow base 9 1 v L.length (strVs L)
  map : MapK strV w r L
  hD : base ≤ D
  hr : base ≤ r
  tx : TxOk L
/-- What a call on it leaves: all but its three blocks. -/
structure DBut (w w' : World) (D r : Nat) (row : Option Nat) : Prop where
  os : w'.os = w.os
  tape : w'.tape = w.tape
  output : w'.output = w.output
  size : w.heap.size ≤ w'.heap.size
  block : ∀ k, k < w.heap.size → k ≠ D → k ≠ r → some k ≠ row → w'.heap[k]? = w.heap[k]?
theorem TxOk.b {L : List (List Int)} (h : TxOk L) : ∀ t ∈ L, TxB t := fun t ht => (h t ht).2
theorem own_not_map {w : World} {r n k : Nat} {e : TypeId} {size : Nat} {v : Value} {us : List Value} {es : Array MapEntry} {cl : Nat} (h : w.ownsRow n e size v k us) (ht : w.heap[r]? = some (.map es cl)) : some r ≠ v.ownBlock := by
  rcases h.2 with ⟨rfl, _⟩ | ⟨g, cap, cur, rfl, _, hg, _⟩
  · simp [Value.ownBlock]
  · intro e
    simp only [Value.ownBlock, Option.some.injEq] at e
    subst e
    rw [hg] at ht
    cases ht
theorem own_not_held {w : World} {g n k : Nat} {e t : TypeId} {size : Nat} {v : Value} {us : List Value} {cs : Array Value} (h : w.ownsRow n e size v k us) (ht : Held w g t cs) (hne : e ≠ t) : some g ≠ v.ownBlock := by
  rcases h.2 with ⟨rfl, _⟩ | ⟨g', cap, cur, rfl, _, hg, _⟩
  · simp [Value.ownBlock]
  · intro e
    simp only [Value.ownBlock, Option.some.injEq] at e
    subst e
    rw [show w.heap[g]? = _ from ht] at hg
    injection hg with hg
    injection hg with _ e2
    exact hne e2.symm
theorem own_off {w : World} {n k : Nat} {e : TypeId} {size : Nat} {v : Value} {us : List Value} (h : w.ownsRow n e size v k us) {j : Nat} (hj : v.ownBlock = some j) : n ≤ j ∧ j < w.heap.size := h.lt j hj
section
variable {w w' : World} {base D r : Nat} {v : Value} {L : List (List Int)}
theorem DictAt.ne (h : DictAt w base D r v L) : D ≠ r ∧ some D ≠ v.ownBlock ∧ some r ≠ v.ownBlock := by
  obtain ⟨es, cl, he, _⟩ := h.map
  refine ⟨fun e => ?_, own_not_held h.own h.held (by decide), own_not_map h.own he⟩
  have := h.held
  unfold Held at this
  rw [e, he] at this
  cases this
theorem DictAt.below (h : DictAt w base D r v L) (hb : Below w.heap.size w w') : DictAt w' base D r v L :=
  ⟨h.held.below hb h.held.lt, own_below h.own hb, h.map.below hb h.map.lt, h.hD, h.hr, h.tx⟩
theorem DictAt.form (h : DictAt w base D r v L) : ∃ A c, v = .slice A L.length c ∧ L.length ≤ c ∧ c ≤ 9223372036854775807 := by
  obtain ⟨A, c, e, h1, h2⟩ := (ERow.of_own h.own).form
  exact ⟨A, c, e, h1, h2⟩
theorem DBut.below {n : Nat} (h : DBut w w' D r v.ownBlock) (hn : n ≤ w.heap.size) (hd : DictAt w n D r v L) : Below n w w' :=
  ⟨h.os, h.tape, h.output, h.size, fun k hk => h.block k (by omega) (by have := hd.hD; omega) (by have := hd.hr; omega) (fun e => by have := (own_off hd.own e.symm).1; omega)⟩
theorem DBut.refl (w : World) (D r : Nat) (row : Option Nat) : DBut w w D r row := ⟨rfl, rfl, rfl, Nat.le_refl _, fun _ _ _ _ _ => rfl⟩
end
/-- append of any row behind a row of the call's own; and where the new row lies. -/
theorem run_append_erow_at {P : Program} (w : World) (base : Nat) (t ty e : TypeId) (i : TypeInfo) (z : Value) (size bytes : Nat) (ht : P.underlying t = some (.slice e)) (hi : P.info? e = some i) (hz : i.zero = some z)
    (hsize : i.size = size) (hby : i.bytes = bytes) (hzs : z.cells.size = size) (hsz : 0 < size) (v : Value) (n : Nat) (xs : List Value) (hown : w.ownsRow base e size v n xs)
    (B : Nat) (sv : Value) (m : Nat) (us : List Value) (hr : ERow w B sv m us) (hl : us.length = m * size) (h1 : ∀ u ∈ us, u.oneCell' = true) (h63 : n + m ≤ maxLen) (hbytes : (n + m) * bytes ≤ 140737488355328) (hbase : base ≤ w.heap.size) :
    ∃ v' w', (Builtin.append_ #[t, t] ty #[v, sv]).run P w = .ok v' w' ∧ w'.ownsRow base e size v' (n + m) (xs ++ us) ∧ w.grownBy w' v.ownBlock ∧ (v'.ownBlock = v.ownBlock ∨ v'.ownBlock = some w.heap.size) := by
  obtain ⟨A, c, rfl, q1, q2, q3, q4⟩ := hr
  rcases A with _ | ad
  · obtain rfl := q3 rfl
    obtain rfl : m = 0 := by omega
    have hu : us = [] := List.eq_nil_of_length_eq_zero (by omega)
    subst hu
    refine ⟨v, w, run_append_owned_none w base t ty e i size ht hi v n xs hown, by rw [Nat.add_zero, List.append_nil]; exact hown, World.grownBy.refl _ _, .inl rfl⟩
  · obtain ⟨v', w', r1, r2, r3, _, r4⟩ := run_append_own_at (P := P) w base t ty e i z size bytes ht hi hz hsize hby hzs hsz v n xs hown ad m c us hl (fun j u hu => by
      have hj := (List.getElem?_eq_some_iff.1 hu).1
      have hm : 0 < m := by
        rcases Nat.eq_zero_or_pos m with h | h
        · rw [h] at hl; omega
        · exact h
      obtain ⟨b, o, he, _, hc⟩ := q4 hm
      injection he with he
      subst he
      rw [add_plain]
      exact hc j u hu) h1 h63 hbytes hbase
    exact ⟨v', w', r1, r2, r3, r4⟩
/-- append, as a step of a walk: of any row, behind a row of the call's own. -/
theorem wpList_append_erow {P : Program} (w : World) {ops : Array Oper} {rest : List Oper} {o : Oper} {a : Act} {Q : Exit → Act → World → Prop}
    (hg : o.guard = none) (s x : Operand) (t e : TypeId) (hop : o.op = Op.call { callee := Callee.builtin Builtin.append, args := #[s, x], argTypes := #[t, t] })
    (base : Nat) (i : TypeInfo) (z : Value) (size bytes : Nat) (ht : P.underlying t = some (.slice e)) (hi : P.info? e = some i) (hz : i.zero = some z) (hsize : i.size = size) (hby : i.bytes = bytes) (hzs : z.cells.size = size) (hsz : 0 < size)
    (v : Value) (n : Nat) (xs : List Value) (hs : a.eval s = v) (hown : w.ownsRow base e size v n xs) (B : Nat) (sv : Value) (m : Nat) (us : List Value) (hx : a.eval x = sv) (hr : ERow w B sv m us) (hl : us.length = m * size) (h1 : ∀ u ∈ us, u.oneCell' = true)
    (h63 : n + m ≤ maxLen) (hbytes : (n + m) * bytes ≤ 140737488355328) (hbase : base ≤ w.heap.size) (N : Nat) (hN : n + m = N) (ys : List Value) (hys : xs ++ us = ys)
    (hK : ∀ A c w', w'.ownsRow base e size (.slice A N c) N ys → w.grownBy w' v.ownBlock → ((Value.slice A N c).ownBlock = v.ownBlock ∨ (Value.slice A N c).ownBlock = some w.heap.size) → wpList P ops Q rest (a.put o.dst (.slice A N c)) w') :
    wpList P ops Q (o :: rest) a w := by
  subst hN hys
  obtain ⟨v', w', hrun, h2, h3, h4⟩ := run_append_erow_at (P := P) w base t o.type e i z size bytes ht hi hz hsize hby hzs hsz v n xs hown B sv m us hr hl h1 h63 hbytes hbase
  obtain ⟨A, c, rfl⟩ := own_form h2
  refine wpList_plain hg fun K hK' => ?_
  unfold Oper.wp
  simp [execOp, hop, resolve, invoke, builtin, hs, hx, hrun, Result.andThen]
  exact hK' _ _ (hK A c w' h2 h3 h4)
theorem strVs_one (L : List (List Int)) : ∀ u ∈ strVs L, u.oneCell' = true := fun u hu => by
  obtain ⟨t, _, rfl⟩ := List.mem_map.1 hu
  rfl
theorem own_nil (w : World) (base : Nat) (e : TypeId) : w.ownsRow base e 1 (.slice none 0 0) 0 [] := ⟨rfl, .inl ⟨rfl, rfl⟩⟩
#print axioms wpList_append_erow
end Go.Proofs.Ytlmpicfhbpnpbaa
