/-
  A map of the call's own whose values are its keys' places, keys being texts, or shapes: what a look-up and a store come to.
-/
import Derived.Test.YtlmedebhkkiagaaPlainDict
import Derived.Test.YtlmedebhkkiagaaMapKey
import Derived.Test.YtlmedebhkkiagaaRows
namespace Go.Proofs.Ytlmedebhkkiagaa
open Go.RowKit

section
variable {P : Program} {w : World} {kt : TypeId} {k : Value} {s : Value → Bool}
theorem run_lookup_found {t et : TypeId} {r : Nat} {es : Array MapEntry} {clock : Nat} {zero : Value} (ht : P.underlying t = some (.map kt et)) (hb : w.heap[r]? = some (.map es clock))
    (hc : ∀ b, (Instr.checkKey b 10000 kt k).run P w = .ok () w) (hz : (zeroValue et).run P w = .ok zero w) (hf : (Instr.findKey kt k es.toList).run P w = .ok (findE s es.toList 0) w) :
    (Instr.lookup t (.map (some r)) k true).run P w = .ok (match findE s es.toList 0 with
      | some (_, v) => .tuple #[v, .bool true]
      | none => .tuple #[zero, .bool false]) w := by
  have hg : (getObj r).run P w = .ok (.map es clock) w := by simp [getObj, Sem.run, hb]
  unfold Instr.lookup
  simp only [Sem.run_bind, run_underlying ht, Result.andThen_ok, hg, Sem.run_pure, hc, hf]
  cases findE s es.toList 0 with
  | none => simp [hz]
  | some p => obtain ⟨i, v⟩ := p; simp
theorem run_mapUpdate_found {t et : TypeId} {r : Nat} {es : Array MapEntry} {clock : Nat} {v : Value} (ht : P.underlying t = some (.map kt et)) (hb : w.heap[r]? = some (.map es clock))
    (hc : ∀ b, (Instr.checkKey b 10000 kt k).run P w = .ok () w) (hf : (Instr.findKey kt k es.toList).run P w = .ok none w) :
    (Instr.mapUpdate t (.map (some r)) k v).run P w = .ok () (w.putObj r (.map (es.push { key := k, val := v, born := clock }) (clock + 1))) := by
  have hg : (getObj r).run P w = .ok (.map es clock) w := by simp [getObj, Sem.run, hb]
  have hs : ∀ o, (setObj r o).run P w = .ok () (w.putObj r o) := fun o => by simp [setObj, Sem.run, hb, World.putObj]
  unfold Instr.mapUpdate
  simp only [Sem.run_bind, run_underlying ht, Result.andThen_ok, hg, hc, hf]
  rw [hs]
end

section
variable {α : Type}
def entsF (kf : α → Value) : List α → Nat → List (Value × Value)
  | [], _ => []
  | a :: l, k => (kf a, .int .i64 k) :: entsF kf l (k + 1)
theorem entsF_snoc (kf : α → Value) (a : α) : ∀ (l : List α) (k : Nat), entsF kf (l ++ [a]) k = entsF kf l k ++ [(kf a, .int .i64 ((k + l.length : Nat) : Int))]
  | [], k => rfl
  | b :: l, k => by
    rw [List.cons_append, entsF, entsF_snoc kf a l (k + 1), entsF, List.cons_append, List.length_cons, Nat.add_right_comm, Nat.add_assoc]
theorem entsF_keys (kf : α → Value) : ∀ (l : List α) (k : Nat), ∀ p ∈ entsF kf l k, ∃ a, p.1 = kf a
  | [], k, p, h => by simp [entsF] at h
  | b :: l, k, p, h => by
    rcases List.mem_cons.1 h with rfl | h
    · exact ⟨b, rfl⟩
    · exact entsF_keys kf l (k + 1) p h
/-- The map in block r holds these keys, each with its place. -/
def MapK (kf : α → Value) (w : World) (r : Nat) (L : List α) : Prop := ∃ es clock, w.heap[r]? = some (.map es clock) ∧ es.toList.map (fun e => (e.key, e.val)) = entsF kf L 0
section
variable {kf : α → Value} {w w' : World} {r B : Nat} {L : List α}
theorem MapK.lt (h : MapK kf w r L) : r < w.heap.size := by
  obtain ⟨es, clock, hb, _⟩ := h
  exact (Array.getElem?_eq_some_iff.1 hb).1
theorem MapK.keep (h : MapK kf w r L) (hb : w'.heap[r]? = w.heap[r]?) : MapK kf w' r L := by
  obtain ⟨es, clock, he, h2⟩ := h
  exact ⟨es, clock, hb.trans he, h2⟩
theorem MapK.below (h : MapK kf w r L) (hb : Below B w w') (hr : r < B) : MapK kf w' r L := h.keep (hb.block r hr)
theorem MapK.new (kf : α → Value) (w : World) : MapK kf (w.alloc (.map #[] 0)) w.heap.size ([] : List α) := ⟨#[], 0, heap_alloc_new w _, rfl⟩
variable [DecidableEq α]
/-- How keys of a type are looked for. -/
structure KeyWay (P : Program) (kt : TypeId) (kf : α → Value) (ok : α → Prop) (s : α → Value → Bool) : Prop where
  check : ∀ (w : World) (a : α) (b : Bool), (Instr.checkKey b 10000 kt (kf a)).run P w = .ok () w
  find : ∀ (w : World) (x : α) (es : List MapEntry), ok x → (∀ e ∈ es, ∃ a, e.key = kf a) → (Instr.findKey kt (kf x) es).run P w = .ok (findE (s x) es 0) w
  same : ∀ (a x : α), ok a → ok x → s x (kf a) = decide (a = x)
theorem findE_ents {x : α} {s : Value → Bool} : ∀ (es : List MapEntry) (L : List α) (k i : Nat), (∀ a ∈ L, s (kf a) = decide (a = x)) → es.map (fun e => (e.key, e.val)) = entsF kf L k →
    (findE s es i).map (·.2) = if placeF x L k < 0 then none else some (.int .i64 (placeF x L k))
  | [], [], _, _, _, _ => rfl
  | [], _ :: _, _, _, _, h => by simp [entsF] at h
  | _ :: _, [], _, _, _, h => by simp [entsF] at h
  | e :: es, a :: L, k, i, hs, h => by
    simp only [List.map_cons, entsF, List.cons.injEq, Prod.mk.injEq] at h
    obtain ⟨⟨h1, h2⟩, h3⟩ := h
    have ih := findE_ents es L (k + 1) (i + 1) (fun b hb => hs b (List.mem_cons_of_mem _ hb)) h3
    rw [findE, placeF, h1, hs a (List.mem_cons_self ..)]
    by_cases e1 : a = x
    · rw [decide_eq_true e1, if_pos rfl, if_pos e1, if_neg (by omega), ← h2]
      rfl
    · rw [decide_eq_false e1, if_neg e1]
      simpa using ih
variable {P : Program} {kt t et : TypeId} {ok : α → Prop} {s : α → Value → Bool} {x : α}
theorem MapK.find (K : KeyWay P kt kf ok s) (h : MapK kf w r L) (hL : ∀ a ∈ L, ok a) (hx : ok x) :
    ∃ es clock, w.heap[r]? = some (.map es clock) ∧ es.toList.map (fun e => (e.key, e.val)) = entsF kf L 0 ∧ (Instr.findKey kt (kf x) es.toList).run P w = .ok (findE (s x) es.toList 0) w ∧
      (findE (s x) es.toList 0).map (·.2) = if placeD L x < 0 then none else some (.int .i64 (placeD L x)) := by
  obtain ⟨es, clock, h1, h2⟩ := h
  refine ⟨es, clock, h1, h2, K.find w x es.toList hx (fun e he => ?_), findE_ents _ _ _ _ (fun a ha => K.same a x (hL a ha) hx) h2⟩
  exact entsF_keys kf L 0 (e.key, e.val) (by rw [← h2]; exact List.mem_map.2 ⟨e, he, rfl⟩)
/-- What a look-up in it comes to. -/
theorem MapK.look (K : KeyWay P kt kf ok s) (h : MapK kf w r L) (hL : ∀ a ∈ L, ok a) (hx : ok x) (ht : P.underlying t = some (.map kt et)) (hz : (zeroValue et).run P w = .ok (.int .i64 0) w) :
    (Instr.lookup t (.map (some r)) (kf x) true).run P w = .ok (.tuple #[.int .i64 (if placeD L x < 0 then 0 else placeD L x), .bool (decide (0 ≤ placeD L x))]) w := by
  obtain ⟨es, clock, h1, h2, h3, h4⟩ := h.find K hL hx
  rw [run_lookup_found ht h1 (fun b => K.check w x b) hz h3]
  by_cases hn : placeD L x < 0
  · rw [if_pos hn] at h4 ⊢
    rw [decide_eq_false (by omega)]
    cases hq : findE (s x) es.toList 0 with
    | none => rfl
    | some p => rw [hq] at h4; cases h4
  · rw [if_neg hn] at h4 ⊢
    rw [decide_eq_true (by omega)]
    cases hq : findE (s x) es.toList 0 with
    | none => rw [hq] at h4; cases h4
    | some p =>
      rw [hq] at h4
      injection h4 with h4
      show Result.ok (Value.tuple #[p.2, .bool true]) w = _
      rw [show p.2 = _ from h4]
/-- What a store of a new key comes to. -/
theorem MapK.add (K : KeyWay P kt kf ok s) (h : MapK kf w r L) (hL : ∀ a ∈ L, ok a) (hx : ok x) (ht : P.underlying t = some (.map kt et)) (hnew : placeD L x < 0) :
    ∃ o, (Instr.mapUpdate t (.map (some r)) (kf x) (.int .i64 L.length)).run P w = .ok () (w.putObj r o) ∧ MapK kf (w.putObj r o) r (L ++ [x]) := by
  obtain ⟨es, clock, h1, h2, h3, h4⟩ := h.find K hL hx
  rw [if_pos hnew] at h4
  have hf : findE (s x) es.toList 0 = none := by
    cases hq : findE (s x) es.toList 0 with
    | none => rfl
    | some p => rw [hq] at h4; cases h4
  rw [hf] at h3
  refine ⟨_, run_mapUpdate_found ht h1 (fun b => K.check w x b) h3, es.push { key := kf x, val := .int .i64 L.length, born := clock }, clock + 1, ?_, ?_⟩
  · have hlt := (Array.getElem?_eq_some_iff.1 h1).1
    show (w.heap.setIfInBounds r _)[r]? = _
    rw [Array.getElem?_setIfInBounds_self_of_lt hlt]
  · rw [Array.toList_push, List.map_append, h2, entsF_snoc, Nat.zero_add]
    rfl
end
end

/-! Texts. -/
def TxB (t : List Int) : Prop := ∀ x ∈ t, 0 ≤ x ∧ x < 256
def sameT (x : List Int) : Value → Bool
  | .string c => strOfNums x == c
  | _ => false
theorem bytes_eq_dec {xs ys : List Int} (hx : ∀ x ∈ xs, 0 ≤ x ∧ x < 256) (hy : ∀ x ∈ ys, 0 ≤ x ∧ x < 256) : (strOfNums xs == strOfNums ys) = decide (ys = xs) := by
  by_cases h : ys = xs
  · subst h
    rw [decide_eq_true rfl]
    exact (Go.MapKept.bytes_beq _ _).2 rfl
  · rw [decide_eq_false h]
    cases hq : strOfNums xs == strOfNums ys with
    | false => rfl
    | true => exact absurd (str_inj hy hx ((Go.MapKept.bytes_beq _ _).1 hq).symm) h
theorem findNow_texts (x : List Int) : ∀ (es : List MapEntry) (i : Nat), (∀ e ∈ es, ∃ a, e.key = strV a) → Instr.findNow .string (strV x) es i = some (findE (sameT x) es i)
  | [], _, _ => rfl
  | e :: es, i, h => by
    obtain ⟨a, ha⟩ := h e (List.mem_cons_self ..)
    have ih := findNow_texts x es (i + 1) fun e' he => h e' (List.mem_cons_of_mem _ he)
    have hn : Instr.sameNow .string (strV x) (strV a) = some (sameT x (strV a)) := rfl
    rw [Instr.findNow, findE, ha, ih, hn]
    cases sameT x (strV a) <;> rfl
theorem text_way : KeyWay Try.prog 9 strV TxB sameT where
  check w a b := by
    rw [show (10000 : Nat) = 9999 + 1 from rfl]
    exact Go.MapKept.run_checkKey (d := .string) (k := strV a) Try.underlying9 trivial b 9999
  find w x es _ h := Go.MapKept.run_findKey Try.underlying9 (findNow_texts x es 0 h)
  same a x ha hx := by
    unfold sameT strV
    exact bytes_eq_dec hx ha

/-! Shapes. -/
abbrev shV (s : Sh) : Value := .agg #[.int .i64 s.1, .int .i64 s.2]
def sameS (x : Sh) : Value → Bool
  | .agg cs => match (cs[0]? : Option Value), (cs[1]? : Option Value) with
    | some (.int _ a), some (.int _ b) => x.1 == a && (x.2 : Int) == b
    | _, _ => false
  | _ => false
theorem sameS_key (x s : Sh) : sameS x (shV s) = (x.1 == s.1 && (x.2 : Int) == (s.2 : Int)) := by simp [sameS]
theorem part_int (w : World) (t : TypeId) (cs : Array Value) (i : Nat) (n : Int) (ht : Try.prog.underlying t = some (.int .i64)) (hi : cs[i]? = some (.int .i64 n)) : (part t cs i).run Try.prog w = .ok (.int .i64 n) w := by
  unfold part isAgg
  simp [run_underlying ht, hi, Result.andThen]
theorem shape_eq (w : World) (a b : Sh) : (Op.equal 85 (shV a) (shV b)).run Try.prog w = .ok (a.1 == b.1 && (a.2 : Int) == (b.2 : Int)) w := by
  unfold Op.equal
  rw [show Op.maxDepth = 9998 + 1 + 1 from rfl, run_equalIn_struct (P := Try.prog) w _ 85 _ _ (by kernel_rfl) (by kernel_rfl)]
  simp [Program.fieldsOf, Try.underlying85, Op.eqFields]
  rw [part_int w 3 _ 0 a.1 Try.underlying3 rfl, Result.andThen_ok, part_int w 3 _ 0 b.1 Try.underlying3 rfl, Result.andThen_ok, show (9999 : Nat) = 9998 + 1 from rfl, run_equalIn_int (P := Try.prog) w 9998 3 .i64 .i64 a.1 b.1 Try.underlying3, Result.andThen_ok]
  cases a.1 == b.1
  · simp
  · simp only [Bool.true_and]
    rw [part_int w 3 _ 1 a.2 Try.underlying3 rfl, Result.andThen_ok, part_int w 3 _ 1 b.2 Try.underlying3 rfl, Result.andThen_ok, run_equalIn_int (P := Try.prog) w 9998 3 .i64 .i64 a.2 b.2 Try.underlying3, Result.andThen_ok]
    cases (a.2 : Int) == (b.2 : Int) <;> simp
theorem shape_check (w : World) (a : Sh) (b : Bool) : (Instr.checkKey b 10000 85 (shV a)).run Try.prog w = .ok () w := by
  unfold Instr.checkKey
  rw [Sem.run_bind, run_underlying Try.underlying85]
  simp [Result.andThen]
  have hk : ∀ n : Int, (Instr.checkKey b 9999 3 (.int .i64 n)).run Try.prog w = .ok () w := fun n => by
    rw [show (9999 : Nat) = 9998 + 1 from rfl]
    exact Go.MapKept.run_checkKey (d := .int .i64) (k := .int .i64 n) Try.underlying3 rfl b 9998
  rw [part_int w 3 _ 0 a.1 Try.underlying3 rfl]
  simp only [hk]
  rw [part_int w 3 _ 1 a.2 Try.underlying3 rfl]
  simp only [hk]
theorem shape_way : KeyWay Try.prog 85 shV (fun _ => True) sameS where
  check := shape_check
  find w x es _ h := by
    refine (show _ = _ from ?_)
    unfold Instr.findKey
    rw [Sem.run_bind, run_underlying Try.underlying85, Result.andThen_ok, findNow_struct]
    cases es with
    | nil => simp [findE]
    | cons e es =>
      simp only [reduceCtorEq, if_false]
      refine run_findAsking _ 0 fun e he => ?_
      obtain ⟨a, ha⟩ := h e he
      rw [ha, sameS_key]
      exact shape_eq w x a
  same a x _ _ := by
    rw [sameS_key]
    obtain ⟨a1, a2⟩ := a
    obtain ⟨x1, x2⟩ := x
    by_cases h : (a1, a2) = (x1, x2)
    · injection h with h1 h2
      subst h1 h2
      simp
    · rw [decide_eq_false h]
      simp only [Prod.mk.injEq, not_and] at h
      by_cases h1 : a1 = x1
      · have := h h1
        simp [h1]
        omega
      · simp [Ne.symm h1]
theorem zero_int13 (w : World) : (zeroValue 3).run Try.prog w = .ok (.int .i64 0) w := by
  have h : (Try.prog.info? 3).map (fun i => (i.zero, i.size, i.bytes)) = some (some (.int .i64 0), 1, 8) := by kernel_rfl
  obtain ⟨i0, hi, hz0, _, _⟩ := info_parts h
  simp [zeroValue, typeInfo, hi, hz0]
#print axioms shape_way
#print axioms text_way
#print axioms MapK.add
end Go.Proofs.Ytlmedebhkkiagaa
