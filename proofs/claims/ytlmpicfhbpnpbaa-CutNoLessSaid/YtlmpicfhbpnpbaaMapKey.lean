/-
  A map of the call's own whose keys are structs: what a look-up and a store come to, out of what '==' of two keys comes to. No program here.
-/
import Derived.Test.YtlmpicfhbpnpbaaCur
import Derived.Laws.StructEq
import Derived.MapKept
import Derived.WalkKit
namespace Go.Proofs.Ytlmpicfhbpnpbaa
open Go.RowKit

/-- The first entry whose key is the same as k, by s. -/
def findE (s : Value → Bool) : List MapEntry → Nat → Option (Nat × Value)
  | [], _ => none
  | e :: es, i => if s e.key then some (i, e.val) else findE s es (i + 1)

section
variable {P : Program} {w : World} {kt : TypeId} {k : Value} {s : Value → Bool}
theorem run_findAsking : ∀ (es : List MapEntry) (i : Nat), (∀ e ∈ es, (Op.equal kt k e.key).run P w = .ok (s e.key) w) → (Instr.findAsking kt k es i).run P w = .ok (findE s es i) w
  | [], i, _ => by simp [Instr.findAsking, findE]
  | e :: es, i, h => by
    have h1 := h e (List.mem_cons_self ..)
    have h2 := run_findAsking es (i + 1) (fun e' he => h e' (List.mem_cons_of_mem _ he))
    simp only [Instr.findAsking, Sem.run_bind, h1, Result.andThen_ok, findE]
    cases s e.key
    · simpa using h2
    · simp
theorem findNow_struct {fs : Array Field} : ∀ (es : List MapEntry) (i : Nat), Instr.findNow (.struct fs) k es i = if es = [] then some none else none
  | [], i => by simp [Instr.findNow]
  | e :: es, i => by simp [Instr.findNow, Instr.sameNow]
theorem run_findKey_struct {fs : Array Field} (hk : P.underlying kt = some (.struct fs)) (es : List MapEntry) (h : ∀ e ∈ es, (Op.equal kt k e.key).run P w = .ok (s e.key) w) : (Instr.findKey kt k es).run P w = .ok (findE s es 0) w := by
  unfold Instr.findKey
  rw [Sem.run_bind, run_underlying hk, Result.andThen_ok, findNow_struct]
  cases es with
  | nil => simp [findE]
  | cons e es =>
    simp only [reduceCtorEq, if_false]
    exact run_findAsking _ 0 h
/-- m[k] (ok: with 'ok'). -/
theorem run_lookup_struct {fs : Array Field} {t et : TypeId} {r : Nat} {es : Array MapEntry} {clock : Nat} {zero : Value} (hk : P.underlying kt = some (.struct fs)) (ht : P.underlying t = some (.map kt et)) (hb : w.heap[r]? = some (.map es clock))
    (hc : ∀ b, (Instr.checkKey b 10000 kt k).run P w = .ok () w) (hz : (zeroValue et).run P w = .ok zero w) (h : ∀ e ∈ es.toList, (Op.equal kt k e.key).run P w = .ok (s e.key) w) (ok : Bool) :
    (Instr.lookup t (.map (some r)) k ok).run P w = .ok (match findE s es.toList 0 with
      | some (_, v) => if ok then .tuple #[v, .bool true] else v
      | none => if ok then .tuple #[zero, .bool false] else zero) w := by
  have hf := run_findKey_struct hk es.toList h
  have hg : (getObj r).run P w = .ok (.map es clock) w := by simp [getObj, Sem.run, hb]
  unfold Instr.lookup
  simp only [Sem.run_bind, run_underlying ht, Result.andThen_ok, hg, Sem.run_pure, hc, hf]
  cases findE s es.toList 0 with
  | none => cases ok <;> simp [hz]
  | some p => obtain ⟨i, v⟩ := p; cases ok <;> simp
/-- m[k] = v. -/
theorem run_mapUpdate_struct {fs : Array Field} {t et : TypeId} {r : Nat} {es : Array MapEntry} {clock : Nat} {v : Value} (hk : P.underlying kt = some (.struct fs)) (ht : P.underlying t = some (.map kt et)) (hb : w.heap[r]? = some (.map es clock))
    (hc : ∀ b, (Instr.checkKey b 10000 kt k).run P w = .ok () w) (h : ∀ e ∈ es.toList, (Op.equal kt k e.key).run P w = .ok (s e.key) w) (hn : findE s es.toList 0 = none) :
    (Instr.mapUpdate t (.map (some r)) k v).run P w = .ok () (w.putObj r (.map (es.push { key := k, val := v, born := clock }) (clock + 1))) := by
  have hf := run_findKey_struct hk es.toList h
  rw [hn] at hf
  have hg : (getObj r).run P w = .ok (.map es clock) w := by simp [getObj, Sem.run, hb]
  have hs : ∀ o, (setObj r o).run P w = .ok () (w.putObj r o) := fun o => by simp [setObj, Sem.run, hb, World.putObj]
  unfold Instr.mapUpdate
  simp only [Sem.run_bind, run_underlying ht, Result.andThen_ok, hg, hc, hf]
  rw [hs]
end
theorem findE_none {s : Value → Bool} : ∀ (es : List MapEntry) (i : Nat), (∀ e ∈ es, s e.key = false) → findE s es i = none
  | [], _, _ => rfl
  | e :: es, i, h => by
    rw [findE, h e (List.mem_cons_self ..)]
    exact findE_none es (i + 1) (fun e' he => h e' (List.mem_cons_of_mem _ he))
theorem findE_some {s : Value → Bool} : ∀ (es : List MapEntry) (i : Nat) (e : MapEntry), e ∈ es → s e.key = true → ∃ j e', findE s es i = some (j, e'.val) ∧ e' ∈ es ∧ s e'.key = true
  | [], _, e, h, _ => by simp at h
  | f :: es, i, e, h, hs => by
    rw [findE]
    cases hf : s f.key with
    | true => exact ⟨i, f, rfl, List.mem_cons_self .., hf⟩
    | false =>
      rcases List.mem_cons.1 h with rfl | h
      · rw [hf] at hs; cases hs
      · obtain ⟨j, e', h1, h2, h3⟩ := findE_some es (i + 1) e h hs
        exact ⟨j, e', by simpa using h1, List.mem_cons_of_mem _ h2, h3⟩
#print axioms run_lookup_struct
#print axioms run_mapUpdate_struct
end Go.Proofs.Ytlmpicfhbpnpbaa
