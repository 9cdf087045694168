/-
  The key that a predicate is kept by, as the code has it: when two are the same; the set of names as a map.
-/
import Derived.Test.YtnjhkjlekepjoaaSigSays
import Derived.Test.YtnjhkjlekepjoaaMapKey
namespace Go.Proofs.Ytnjhkjlekepjoaa
open Go.RowKit

/-- A key's value. -/
abbrev keyV (nm : List Int) : Value := .agg #[.string (strOfNums nm)]
theorem part_str (w : World) (t : TypeId) (cs : Array Value) (i : Nat) (s : ByteArray) (ht : Try.prog.underlying t = some .string) (hi : cs[i]? = some (.string s)) : (part t cs i).run Try.prog w = .ok (.string s) w := by
  unfold part isAgg
  simp [run_underlying ht, hi, Result.andThen]
theorem key_eq (w : World) (a b : ByteArray) : (Op.equal 76 (.agg #[.string a]) (.agg #[.string b])).run Try.prog w = .ok (a.toList == b.toList) w := by
  unfold Op.equal
  rw [show Op.maxDepth = 9998 + 1 + 1 from rfl, run_equalIn_struct (P := Try.prog) w _ 76 _ _ (by kernel_rfl) (by kernel_rfl)]
  simp [Program.fieldsOf, Try.underlying76, Op.eqFields]
  rw [part_str w 9 _ 0 a Try.underlying9 rfl, Result.andThen_ok, part_str w 9 _ 0 b Try.underlying9 rfl, Result.andThen_ok, show (9999 : Nat) = 9998 + 1 from rfl, run_equalIn_string (P := Try.prog) w 9998 9 a b Try.underlying9, Result.andThen_ok]
  cases a.toList == b.toList <;> simp
theorem key_check (w : World) (a : ByteArray) (b : Bool) : (Instr.checkKey b 10000 76 (.agg #[.string a])).run Try.prog w = .ok () w := by
  unfold Instr.checkKey
  rw [Sem.run_bind, run_underlying Try.underlying76]
  simp [Result.andThen]
  rw [part_str w 9 _ 0 a Try.underlying9 rfl]
  simp only
  rw [show (9999 : Nat) = 9998 + 1 from rfl]
  unfold Instr.checkKey
  rw [Sem.run_bind, run_underlying Try.underlying9]
  simp [Result.andThen]

/-- The map in block r holds these names, each with its value, in this order. -/
def MapOf (w : World) (r : Nat) (L : List (List Int × Value)) : Prop := ∃ es clock, w.heap[r]? = some (.map es clock) ∧ es.toList.map (fun e => (e.key, e.val)) = L.map (fun p => (keyV p.1, p.2))
def NamesB (L : List (List Int × Value)) : Prop := ∀ p ∈ L, ∀ x ∈ p.1, 0 ≤ x ∧ x < 256
theorem MapOf.lt {w : World} {r : Nat} {L : List (List Int × Value)} (h : MapOf w r L) : r < w.heap.size := by
  obtain ⟨es, clock, hb, _⟩ := h
  exact (Array.getElem?_eq_some_iff.1 hb).1
theorem MapOf.below {w w' : World} {r B : Nat} {L : List (List Int × Value)} (h : MapOf w r L) (hb : Below B w w') (hr : r < B) : MapOf w' r L := by
  obtain ⟨es, clock, he, h2⟩ := h
  exact ⟨es, clock, (hb.block r hr).trans he, h2⟩
theorem MapOf.new (w : World) : MapOf (w.alloc (.map #[] 0)) w.heap.size [] := ⟨#[], 0, heap_alloc_new w _, rfl⟩
/-- The first of a name. -/
def lookL (nm : List Int) : List (List Int × Value) → Option Value
  | [] => none
  | p :: l => if p.1 = nm then some p.2 else lookL nm l
theorem lookL_none {nm : List Int} : ∀ {l : List (List Int × Value)}, (∀ p ∈ l, p.1 ≠ nm) → lookL nm l = none
  | [], _ => rfl
  | p :: l, h => by
    rw [lookL, if_neg (h p (List.mem_cons_self ..))]
    exact lookL_none fun q hq => h q (List.mem_cons_of_mem _ hq)
theorem lookL_some {nm : List Int} : ∀ {l : List (List Int × Value)}, (∃ p ∈ l, p.1 = nm) → ∃ p ∈ l, p.1 = nm ∧ lookL nm l = some p.2
  | [], h => by obtain ⟨p, hp, _⟩ := h; simp at hp
  | p :: l, h => by
    by_cases e : p.1 = nm
    · exact ⟨p, List.mem_cons_self .., e, by rw [lookL, if_pos e]⟩
    · obtain ⟨q, hq, eq⟩ := h
      rcases List.mem_cons.1 hq with rfl | hq
      · exact absurd eq e
      · obtain ⟨q', h1, h2, h3⟩ := lookL_some (l := l) ⟨q, hq, eq⟩
        exact ⟨q', List.mem_cons_of_mem _ h1, h2, by rw [lookL, if_neg e, h3]⟩
/-- Is a key the one of a name? -/
def keyIs (nm : List Int) : Value → Bool
  | .agg cs => match (cs[0]? : Option Value) with
    | some (Value.string b) => (strOfNums nm).toList == b.toList
    | _ => false
  | _ => false
theorem keyIs_key (nm : List Int) (b : ByteArray) : keyIs nm (.agg #[.string b]) = ((strOfNums nm).toList == b.toList) := by simp [keyIs]
theorem keyIs_eq {nm m : List Int} (hn : ∀ x ∈ nm, 0 ≤ x ∧ x < 256) (hm : ∀ x ∈ m, 0 ≤ x ∧ x < 256) : keyIs nm (keyV m) = decide (m = nm) := by
  rw [keyIs_key, str_eq_dec hn hm]
  exact decide_eq_decide.2 eq_comm
theorem findE_look {nm : List Int} (hn : ∀ x ∈ nm, 0 ≤ x ∧ x < 256) : ∀ (es : List MapEntry) (L : List (List Int × Value)) (i : Nat), NamesB L → es.map (fun e => (e.key, e.val)) = L.map (fun p => (keyV p.1, p.2)) →
    (findE (keyIs nm) es i).map (·.2) = lookL nm L
  | [], [], _, _, _ => rfl
  | [], _ :: _, _, _, h => by simp at h
  | _ :: _, [], _, _, h => by simp at h
  | e :: es, p :: L, i, hb, h => by
    simp only [List.map_cons, List.cons.injEq, Prod.mk.injEq] at h
    obtain ⟨⟨h1, h2⟩, h3⟩ := h
    have ih := findE_look hn es L (i + 1) (fun q hq => hb q (List.mem_cons_of_mem _ hq)) h3
    rw [findE, lookL, h1, keyIs_eq hn (hb p (List.mem_cons_self ..))]
    by_cases e1 : p.1 = nm
    · simp [e1, h2]
    · rw [decide_eq_false e1, if_neg e1]
      simpa using ih
section
variable {w : World} {r : Nat} {L : List (List Int × Value)} {nm : List Int}
set_option maxRecDepth 100000 in
theorem MapOf.keys (h : MapOf w r L) (nm : List Int) : ∃ es clock, w.heap[r]? = some (.map es clock) ∧ es.toList.map (fun e => (e.key, e.val)) = L.map (fun p => (keyV p.1, p.2)) ∧
    ∀ e ∈ es.toList, (Op.equal 76 (keyV nm) e.key).run Try.prog w = .ok (keyIs nm e.key) w := by
  obtain ⟨es, clock, h1, h2⟩ := h
  refine ⟨es, clock, h1, h2, fun e he => ?_⟩
  have : (e.key, e.val) ∈ L.map (fun p => (keyV p.1, p.2)) := by rw [← h2]; exact List.mem_map.2 ⟨e, he, rfl⟩
  obtain ⟨p, _, hp⟩ := List.mem_map.1 this
  injection hp with hk _
  rw [← hk, keyIs_key]
  exact key_eq w _ _
/-- What a look-up in it comes to; t: the map's type, zero: its elements' zero value. -/
theorem MapOf.look (h : MapOf w r L) (hb : NamesB L) (hn : ∀ x ∈ nm, 0 ≤ x ∧ x < 256) {t et : TypeId} {zero : Value} (ht : Try.prog.underlying t = some (.map 76 et)) (hz : (zeroValue et).run Try.prog w = .ok zero w) (ok : Bool) :
    (Instr.lookup t (.map (some r)) (keyV nm) ok).run Try.prog w = .ok (match lookL nm L with
      | some v => if ok then .tuple #[v, .bool true] else v
      | none => if ok then .tuple #[zero, .bool false] else zero) w := by
  obtain ⟨es, clock, h1, h2, h3⟩ := h.keys nm
  rw [run_lookup_struct Try.underlying76 ht h1 (fun b => key_check w _ b) hz h3 ok, ← findE_look hn es.toList L 0 hb h2]
  cases findE (keyIs nm) es.toList 0 with
  | none => rfl
  | some p => rfl
/-- What a store of a new name comes to. -/
theorem MapOf.add (h : MapOf w r L) (hb : NamesB L) (hn : ∀ x ∈ nm, 0 ≤ x ∧ x < 256) {t et : TypeId} (ht : Try.prog.underlying t = some (.map 76 et)) (hnew : ∀ p ∈ L, p.1 ≠ nm) (v : Value) :
    ∃ o, (Instr.mapUpdate t (.map (some r)) (keyV nm) v).run Try.prog w = .ok () (w.putObj r o) ∧ MapOf (w.putObj r o) r (L ++ [(nm, v)]) := by
  obtain ⟨es, clock, h1, h2, h3⟩ := h.keys nm
  have hf : findE (keyIs nm) es.toList 0 = none := by
    have := findE_look hn es.toList L 0 hb h2
    rw [lookL_none hnew] at this
    cases hq : findE (keyIs nm) es.toList 0 with
    | none => rfl
    | some p => rw [hq] at this; simp at this
  refine ⟨_, run_mapUpdate_struct Try.underlying76 ht h1 (fun b => key_check w _ b) h3 hf, es.push { key := keyV nm, val := v, born := clock }, clock + 1, ?_, ?_⟩
  · have hlt := (Array.getElem?_eq_some_iff.1 h1).1
    show (w.heap.setIfInBounds r _)[r]? = _
    rw [Array.getElem?_setIfInBounds_self_of_lt hlt]
  · rw [Array.toList_push, List.map_append, h2, List.map_append]
    rfl
theorem NamesB.add (hb : NamesB L) (hn : ∀ x ∈ nm, 0 ≤ x ∧ x < 256) (v : Value) : NamesB (L ++ [(nm, v)]) := fun p hp => by
  rcases List.mem_append.1 hp with h | h
  · exact hb p h
  · rw [List.mem_singleton] at h
    subst h
    exact hn
theorem NamesB.nil : NamesB [] := fun p hp => by simp at hp
theorem below_putObj {B : Nat} {w w' : World} (h : Below B w w') (hr : B ≤ r) (o : Obj) : Below B w (w'.putObj r o) :=
  ⟨h.os, h.tape, h.output, Nat.le_trans h.size (by simp [World.putObj]), fun k hk => by
    rw [← h.block k hk]
    show (w'.heap.setIfInBounds r o)[k]? = _
    rw [Array.getElem?_setIfInBounds_ne (by omega)]⟩
end
#print axioms MapOf.look
#print axioms MapOf.add
end Go.Proofs.Ytnjhkjlekepjoaa
