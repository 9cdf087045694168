/-
  What the calls of sig are to answer, as Props; the code's key type; the map of the first of each name.
-/
import Derived.Test.YtlmpicfhbpnpbaaSigRefs
import Derived.Test.YtlmpicfhbpnpbaaCur
import Derived.Test.YtlmpicfhbpnpbaaMapKey
namespace Go.Proofs.Ytlmpicfhbpnpbaa
open Go.RowKit

def NameC : Prop := ∀ (xs : List Int) (w : World), (∀ x ∈ xs, 0 ≤ x ∧ x < 256) → xs.length ≤ maxLen → Calls Try.prog 46 #[.string (strOfNums xs)] w fun e w' => e = .returned (.bool (okName xs)) ∧ Below w.heap.size w w'
def CheckC : Prop := ∀ (A : Option Addr) (c : Nat) (ds : List Pd) (w : World), PredRow w w.heap.size (.slice A ds.length c) ds → Calls Try.prog 24 #[.slice A ds.length c] w fun e w' => e = .returned (.int .i64 (checkP (ds.map (·.p)))) ∧ Below w.heap.size w w'

/-! The chapter's example. -/
theorem pd_cells (w : World) (cs : Array Value) (t : TypeId) (i : Nat) : (w.alloc (.cells cs t)).cell? ⟨w.heap.size, i, none⟩ = cs[i]? := by
  have h : Held (w.alloc (.cells cs t)) w.heap.size t cs := heap_alloc_new w _
  exact h.cell i
theorem one_int {w : World} {g B : Nat} {t : TypeId} {x : Int} (h : Held w g t #[.int .i64 x]) (hB : g < B) : IRow w B (.slice (some ⟨g, 0, none⟩) [x].length 1) [x] :=
  ⟨_, _, rfl, by simp, by unfold maxLen; omega, by simp, fun _ => ⟨g, 0, rfl, hB, fun i u hi => by
    match i with
    | 0 => rw [Nat.zero_add, h.cell 0]; simpa using hi
    | i + 1 => simp at hi⟩⟩
theorem two_preds {w : World} {g B : Nat} {t : TypeId} {p q : Pd} (h : Held w g t #[.string (strOfNums p.p.name), .slice p.A p.p.args.length p.c, .string (strOfNums q.p.name), .slice q.A q.p.args.length q.c]) (hB : g < B)
    (hp : IRow w B (.slice p.A p.p.args.length p.c) p.p.args) (hq : IRow w B (.slice q.A q.p.args.length q.c) q.p.args) (fp : p.Fits) (fq : q.Fits) : PredRow w B (.slice (some ⟨g, 0, none⟩) 2 2) [p, q] := by
  refine ⟨_, _, rfl, Nat.le_refl _, by unfold maxLen; omega, by simp, fun _ => ⟨g, 0, rfl, hB, fun i d hd => ?_⟩, fun d hd => ?_⟩
  · match i with
    | 0 =>
      simp only [List.getElem?_cons_zero, Option.some.injEq] at hd
      subst hd
      exact ⟨h.cell 0, h.cell 1⟩
    | 1 =>
      simp only [List.getElem?_cons_succ, List.getElem?_cons_zero, Option.some.injEq] at hd
      subst hd
      exact ⟨h.cell 2, h.cell 3⟩
    | i + 2 => simp at hd
  · simp only [List.mem_cons, List.not_mem_nil, or_false] at hd
    rcases hd with rfl | rfl
    · exact ⟨hp, fp⟩
    · exact ⟨hq, fq⟩
theorem fits_one (x y : Int) (hx : 0 ≤ x ∧ x < 256) (A : Option Addr) (c : Nat) (l : List Int) (hl : l = [] ∨ l = [y] ∧ 0 ≤ y ∧ y < 256) : (⟨⟨[x], l⟩, A, c⟩ : Pd).Fits := by
  refine ⟨by unfold maxLen; simp, fun z hz => ?_, fun z hz => ?_⟩
  · obtain rfl : z = x := by simpa using hz
    exact hx
  · rcases hl with rfl | ⟨rfl, h1, h2⟩
    · simp at hz
    · obtain rfl : z = y := by simpa using hz
      omega
end Go.Proofs.Ytlmpicfhbpnpbaa

namespace Go.Proofs.Ytlmpicfhbpnpbaa
open Go.RowKit

/-- A key's value. -/
abbrev keyV (nm : List Int) : Value := .agg #[.string (strOfNums nm)]
theorem part_str (w : World) (t : TypeId) (cs : Array Value) (i : Nat) (s : ByteArray) (ht : Try.prog.underlying t = some .string) (hi : cs[i]? = some (.string s)) : (part t cs i).run Try.prog w = .ok (.string s) w := by
  unfold part isAgg
  simp [run_underlying ht, hi, Result.andThen]
theorem key_eq (w : World) (a b : ByteArray) : (Op.equal 94 (.agg #[.string a]) (.agg #[.string b])).run Try.prog w = .ok (a.toList == b.toList) w := by
  unfold Op.equal
  rw [show Op.maxDepth = 9998 + 1 + 1 from rfl, run_equalIn_struct (P := Try.prog) w _ 94 _ _ (by kernel_rfl) (by kernel_rfl)]
  simp [Program.fieldsOf, Try.underlying94, Op.eqFields]
  rw [part_str w 9 _ 0 a Try.underlying9 rfl, Result.andThen_ok, part_str w 9 _ 0 b Try.underlying9 rfl, Result.andThen_ok, show (9999 : Nat) = 9998 + 1 from rfl, run_equalIn_string (P := Try.prog) w 9998 9 a b Try.underlying9, Result.andThen_ok]
  cases a.toList == b.toList <;> simp
theorem key_check (w : World) (a : ByteArray) (b : Bool) : (Instr.checkKey b 10000 94 (.agg #[.string a])).run Try.prog w = .ok () w := by
  unfold Instr.checkKey
  rw [Sem.run_bind, run_underlying Try.underlying94]
  simp [Result.andThen]
  rw [part_str w 9 _ 0 a Try.underlying9 rfl]
  simp only
  rw [show (9999 : Nat) = 9998 + 1 from rfl]
  unfold Instr.checkKey
  rw [Sem.run_bind, run_underlying Try.underlying9]
  simp [Result.andThen]

/-- The map in block r holds these names, each with its value, in this order. -/
def MapOf (w : World) (r : Nat) (L : List (List Int × Value)) : Prop := ∃ es clock, w.heap[r]? = some (.map es clock) ∧ es.toList.map (fun e => (e.key, e.val)) = L.map (fun p => (keyV p.1, p.2))
def NamesB (L : List (List Int × Value)) : Prop := ∀ p ∈ L, ∀ x ∈ p.1, 0 ≤ x ∧ x < 256
theorem MapOf.lt {w : World} {r : Nat} {L : List (List Int × Value)} (h : MapOf w r L) : r < w.heap.size := by
  obtain ⟨es, clock, hb, _⟩ := h
  exact (Array.getElem?_eq_some_iff.1 hb).1
theorem MapOf.below {w w' : World} {r B : Nat} {L : List (List Int × Value)} (h : MapOf w r L) (hb : Below B w w') (hr : r < B) : MapOf w' r L := by
  obtain ⟨es, clock, he, h2⟩ := h
  exact ⟨es, clock, (hb.block r hr).trans he, h2⟩
theorem MapOf.new (w : World) : MapOf (w.alloc (.map #[] 0)) w.heap.size [] := ⟨#[], 0, heap_alloc_new w _, rfl⟩
/-- The first of a name. -/
def lookL (nm : List Int) : List (List Int × Value) → Option Value
  | [] => none
  | p :: l => if p.1 = nm then some p.2 else lookL nm l
theorem lookL_none {nm : List Int} : ∀ {l : List (List Int × Value)}, (∀ p ∈ l, p.1 ≠ nm) → lookL nm l = none
  | [], _ => rfl
  | p :: l, h => by
    rw [lookL, if_neg (h p (List.mem_cons_self ..))]
    exact lookL_none fun q hq => h q (List.mem_cons_of_mem _ hq)
theorem lookL_some {nm : List Int} : ∀ {l : List (List Int × Value)}, (∃ p ∈ l, p.1 = nm) → ∃ p ∈ l, p.1 = nm ∧ lookL nm l = some p.2
  | [], h => by obtain ⟨p, hp, _⟩ := h; simp at hp
  | p :: l, h => by
    by_cases e : p.1 = nm
    · exact ⟨p, List.mem_cons_self .., e, by rw [lookL, if_pos e]⟩
    · obtain ⟨q, hq, eq⟩ := h
      rcases List.mem_cons.1 hq with rfl | hq
      · exact absurd eq e
      · obtain ⟨q', h1, h2, h3⟩ := lookL_some (l := l) ⟨q, hq, eq⟩
        exact ⟨q', List.mem_cons_of_mem _ h1, h2, by rw [lookL, if_neg e, h3]⟩
/-- Is a key the one of a name? -/
def keyIs (nm : List Int) : Value → Bool
  | .agg cs => match (cs[0]? : Option Value) with
    | some (Value.string b) => (strOfNums nm).toList == b.toList
    | _ => false
  | _ => false
theorem keyIs_key (nm : List Int) (b : ByteArray) : keyIs nm (.agg #[.string b]) = ((strOfNums nm).toList == b.toList) := by simp [keyIs]
theorem keyIs_eq {nm m : List Int} (hn : ∀ x ∈ nm, 0 ≤ x ∧ x < 256) (hm : ∀ x ∈ m, 0 ≤ x ∧ x < 256) : keyIs nm (keyV m) = decide (m = nm) := by
  rw [keyIs_key, str_eq_dec hn hm]
  exact decide_eq_decide.2 eq_comm
theorem findE_look {nm : List Int} (hn : ∀ x ∈ nm, 0 ≤ x ∧ x < 256) : ∀ (es : List MapEntry) (L : List (List Int × Value)) (i : Nat), NamesB L → es.map (fun e => (e.key, e.val)) = L.map (fun p => (keyV p.1, p.2)) →
    (findE (keyIs nm) es i).map (·.2) = lookL nm L
  | [], [], _, _, _ => rfl
  | [], _ :: _, _, _, h => by simp at h
  | _ :: _, [], _, _, h => by simp at h
  | e :: es, p :: L, i, hb, h => by
    simp only [List.map_cons, List.cons.injEq, Prod.mk.injEq] at h
    obtain ⟨⟨h1, h2⟩, h3⟩ := h
    have ih := findE_look hn es L (i + 1) (fun q hq => hb q (List.mem_cons_of_mem _ hq)) h3
    rw [findE, lookL, h1, keyIs_eq hn (hb p (List.mem_cons_self ..))]
    by_cases e1 : p.1 = nm
    · simp [e1, h2]
    · rw [decide_eq_false e1, if_neg e1]
      simpa using ih
section
variable {w : World} {r : Nat} {L : List (List Int × Value)} {nm : List Int}
set_option maxRecDepth 100000 in
theorem MapOf.keys (h : MapOf w r L) (nm : List Int) : ∃ es clock, w.heap[r]? = some (.map es clock) ∧ es.toList.map (fun e => (e.key, e.val)) = L.map (fun p => (keyV p.1, p.2)) ∧
    ∀ e ∈ es.toList, (Op.equal 94 (keyV nm) e.key).run Try.prog w = .ok (keyIs nm e.key) w := by
  obtain ⟨es, clock, h1, h2⟩ := h
  refine ⟨es, clock, h1, h2, fun e he => ?_⟩
  have : (e.key, e.val) ∈ L.map (fun p => (keyV p.1, p.2)) := by rw [← h2]; exact List.mem_map.2 ⟨e, he, rfl⟩
  obtain ⟨p, _, hp⟩ := List.mem_map.1 this
  injection hp with hk _
  rw [← hk, keyIs_key]
  exact key_eq w _ _
/-- What a look-up in it comes to; t: the map's type, zero: its elements' zero value. -/
theorem MapOf.look (h : MapOf w r L) (hb : NamesB L) (hn : ∀ x ∈ nm, 0 ≤ x ∧ x < 256) {t et : TypeId} {zero : Value} (ht : Try.prog.underlying t = some (.map 94 et)) (hz : (zeroValue et).run Try.prog w = .ok zero w) (ok : Bool) :
    (Instr.lookup t (.map (some r)) (keyV nm) ok).run Try.prog w = .ok (match lookL nm L with
      | some v => if ok then .tuple #[v, .bool true] else v
      | none => if ok then .tuple #[zero, .bool false] else zero) w := by
  obtain ⟨es, clock, h1, h2, h3⟩ := h.keys nm
  rw [run_lookup_struct Try.underlying94 ht h1 (fun b => key_check w _ b) hz h3 ok, ← findE_look hn es.toList L 0 hb h2]
  cases findE (keyIs nm) es.toList 0 with
  | none => rfl
  | some p => rfl
/-- What a store of a new name comes to. -/
theorem MapOf.add (h : MapOf w r L) (hb : NamesB L) (hn : ∀ x ∈ nm, 0 ≤ x ∧ x < 256) {t et : TypeId} (ht : Try.prog.underlying t = some (.map 94 et)) (hnew : ∀ p ∈ L, p.1 ≠ nm) (v : Value) :
    ∃ o, (Instr.mapUpdate t (.map (some r)) (keyV nm) v).run Try.prog w = .ok () (w.putObj r o) ∧ MapOf (w.putObj r o) r (L ++ [(nm, v)]) := by
  obtain ⟨es, clock, h1, h2, h3⟩ := h.keys nm
  have hf : findE (keyIs nm) es.toList 0 = none := by
    have := findE_look hn es.toList L 0 hb h2
    rw [lookL_none hnew] at this
    cases hq : findE (keyIs nm) es.toList 0 with
    | none => rfl
    | some p => rw [hq] at this; simp at this
  refine ⟨_, run_mapUpdate_struct Try.underlying94 ht h1 (fun b => key_check w _ b) h3 hf, es.push { key := keyV nm, val := v, born := clock }, clock + 1, ?_, ?_⟩
  · have hlt := (Array.getElem?_eq_some_iff.1 h1).1
    show (w.heap.setIfInBounds r _)[r]? = _
    rw [Array.getElem?_setIfInBounds_self_of_lt hlt]
  · rw [Array.toList_push, List.map_append, h2, List.map_append]
    rfl
theorem NamesB.add (hb : NamesB L) (hn : ∀ x ∈ nm, 0 ≤ x ∧ x < 256) (v : Value) : NamesB (L ++ [(nm, v)]) := fun p hp => by
  rcases List.mem_append.1 hp with h | h
  · exact hb p h
  · rw [List.mem_singleton] at h
    subst h
    exact hn
theorem NamesB.nil : NamesB [] := fun p hp => by simp at hp
theorem below_putObj {B : Nat} {w w' : World} (h : Below B w w') (hr : B ≤ r) (o : Obj) : Below B w (w'.putObj r o) :=
  ⟨h.os, h.tape, h.output, Nat.le_trans h.size (by simp [World.putObj]), fun k hk => by
    rw [← h.block k hk]
    show (w'.heap.setIfInBounds r o)[k]? = _
    rw [Array.getElem?_setIfInBounds_ne (by omega)]⟩
end
#print axioms MapOf.look
#print axioms MapOf.add
end Go.Proofs.Ytlmpicfhbpnpbaa

namespace Go.Proofs.Ytlmpicfhbpnpbaa
open Go.RowKit

/-- The map's entries behind the first k predicates: the first one of each name, with its number. -/
def Kept (ds : List Pd) (k : Nat) (L : List (List Int × Value)) : Prop :=
  (∀ p ∈ L, ∃ (j : Nat) (d : Pd), j < k ∧ ds[j]? = some d ∧ p = (d.p.name, .int .i64 j) ∧ ∀ (i : Nat) (q : Pd), i < j → ds[i]? = some q → q.p.name ≠ d.p.name) ∧
  ∀ (j : Nat) (d : Pd), j < k → ds[j]? = some d → ∃ p ∈ L, p.1 = d.p.name
theorem Kept.nil (ds : List Pd) : Kept ds 0 [] := ⟨fun p h => by simp at h, fun j _ h => absurd h (Nat.not_lt_zero _)⟩
/-- One more predicate: its name is there already, or it is put behind. -/
theorem Kept.step {ds : List Pd} {k : Nat} {L : List (List Int × Value)} {d : Pd} (h : Kept ds k L) (hd : ds[k]? = some d) :
    (∃ v, lookL d.p.name L = some v ∧ Kept ds (k + 1) L) ∨ (lookL d.p.name L = none ∧ (∀ p ∈ L, p.1 ≠ d.p.name) ∧ Kept ds (k + 1) (L ++ [(d.p.name, .int .i64 k)])) := by
  obtain ⟨h1, h2⟩ := h
  by_cases hin : ∃ p ∈ L, p.1 = d.p.name
  · left
    obtain ⟨q, _, _, hq⟩ := lookL_some hin
    refine ⟨q.2, hq, fun p hp => ?_, fun j e hj he => ?_⟩
    · obtain ⟨j, e, q1, q2, q3, q4⟩ := h1 p hp
      exact ⟨j, e, by omega, q2, q3, q4⟩
    · rcases Nat.lt_or_ge j k with h | h
      · exact h2 j e h he
      · obtain rfl : j = k := by omega
        rw [hd] at he
        injection he with he
        subst he
        exact hin
  · right
    have hno : ∀ p ∈ L, p.1 ≠ d.p.name := fun p hp e => hin ⟨p, hp, e⟩
    refine ⟨lookL_none hno, hno, fun p hp => ?_, fun j e hj he => ?_⟩
    · rcases List.mem_append.1 hp with hp | hp
      · obtain ⟨j, e, q1, q2, q3, q4⟩ := h1 p hp
        exact ⟨j, e, by omega, q2, q3, q4⟩
      · rw [List.mem_singleton] at hp
        refine ⟨k, d, by omega, hd, hp, fun i q hi hq e => ?_⟩
        obtain ⟨p2, hp2, e2⟩ := h2 i q hi hq
        exact hno p2 hp2 (e2.trans e)
    · rcases Nat.lt_or_ge j k with h | h
      · obtain ⟨p, hp, e2⟩ := h2 j e h he
        exact ⟨p, List.mem_append_left _ hp, e2⟩
      · obtain rfl : j = k := by omega
        rw [hd] at he
        injection he with he
        subst he
        exact ⟨_, List.mem_append_right _ (List.mem_singleton.2 rfl), rfl⟩
/-- What a look-up of any name comes to. -/
theorem Kept.look {ds : List Pd} {L : List (List Int × Value)} (h : Kept ds ds.length L) (nm : List Int) :
    (findP (ds.map (·.p)) nm = -1 ∧ lookL nm L = none) ∨ ∃ r : Nat, findP (ds.map (·.p)) nm = (r : Int) ∧ lookL nm L = some (.int .i64 r) ∧ r < ds.length := by
  obtain ⟨h1, h2⟩ := h
  rcases findP_ways (ds.map (·.p)) nm with ⟨e, hn⟩ | ⟨r, p, e, hp, hpn, hn⟩
  · left
    refine ⟨e, lookL_none fun q hq he => ?_⟩
    obtain ⟨j, d, _, q2, q3, _⟩ := h1 q hq
    exact hn j d.p (at_pr q2) (by rw [← he, q3])
  · right
    obtain ⟨d, hd, rfl⟩ := pr_at hp
    have hr := (List.getElem?_eq_some_iff.1 hd).1
    obtain ⟨q, hq, he⟩ := h2 r d hr hd
    obtain ⟨q', hq', he', hl⟩ := lookL_some ⟨q, hq, he.trans hpn⟩
    obtain ⟨j, d', q1, q2, q3, q4⟩ := h1 q' hq'
    have hj : j = r := by
      rcases Nat.lt_trichotomy j r with h | h | h
      · exact absurd (by rw [← he', q3]) (hn j d'.p h (at_pr q2))
      · exact h
      · exact absurd (by rw [hpn, ← he', q3]) (q4 r d h hd)
    subst hj
    exact ⟨j, e, by rw [hl, q3], hr⟩
theorem Kept.names {ds : List Pd} {k : Nat} {L : List (List Int × Value)} (h : Kept ds k L) (hb : ∀ d ∈ ds, ∀ x ∈ d.p.name, 0 ≤ x ∧ x < 256) : NamesB L := fun p hp => by
  obtain ⟨j, d, _, q2, rfl, _⟩ := h.1 p hp
  exact hb d (List.mem_of_getElem? q2)
theorem PredRow.bytes {w : World} {B : Nat} {v : Value} {ds : List Pd} (h : PredRow w B v ds) : ∀ d ∈ ds, ∀ x ∈ d.p.name, 0 ≤ x ∧ x < 256 := by
  obtain ⟨A, c, hv, h1, h2, h3, h4, h5⟩ := h
  exact fun d hd => (h5 d hd).2.2.1

set_option maxRecDepth 100000 in
theorem key_any (s : ByteArray) (A : Option Addr) (n c : Nat) (w : World) : Calls Try.prog 47 #[.agg #[.string s, .slice A n c]] w fun e w' => e = .returned (.agg #[.string s]) ∧ Below w.heap.size w w' := by
  go_enter Try.func47, Try.ntmps47
  go_wp2_with fail
  exact bodyPost_ret (v := .agg #[.string s]) (by simp [results, Try.results47, go_sem]) rfl ⟨rfl, ((Below.refl _ _).alloc (Nat.le_refl _) _).alloc (by simp) _⟩

theorem Try.infoInt : (Try.prog.info? 3).map (fun i => (i.zero, i.size, i.bytes)) = some (some (.int .i64 0), 1, 8) := by kernel_rfl
theorem zero_int (w : World) : (zeroValue 3).run Try.prog w = .ok (.int .i64 0) w := by
  obtain ⟨i0, hi, hz0, _, _⟩ := info_parts Try.infoInt
  simp [zeroValue, typeInfo, hi, hz0]
theorem Held.past {w : World} {g r : Nat} {t : TypeId} {cs : Array Value} (h : Held w g t cs) (hne : r ≠ g) (o : Obj) : Held (w.putObj r o) g t cs := by
  show (w.heap.setIfInBounds r o)[g]? = _
  rw [Array.getElem?_setIfInBounds_ne hne]
  exact h

set_option maxRecDepth 100000 in
set_option maxHeartbeats 2000000 in
theorem firsts_any (A : Option Addr) (c : Nat) (ds : List Pd) (w : World) (hrow : PredRow w w.heap.size (.slice A ds.length c) ds) :
    Calls Try.prog 45 #[.slice A ds.length c] w fun e w' => ∃ L, e = .returned (.map (some w.heap.size)) ∧ Kept ds ds.length L ∧ MapOf w' w.heap.size L ∧ Below w.heap.size w w' := by
  obtain ⟨_, hc1, hc2⟩ : ∃ _ : True, ds.length ≤ c ∧ c ≤ 9223372036854775807 := by
    obtain ⟨A', c', hv, q1, q2⟩ := hrow.form
    injection hv with _ _ e3
    exact ⟨trivial, by omega, by omega⟩
  have HBY := Lib.hid hrow.bytes
  have HROW := Lib.hid hrow
  clear hrow
  have hmm := @run_makeMap Try.prog
  go_enter Try.func45, Try.ntmps45
  go_wp2_with fail
  obtain ⟨r, hr⟩ : ∃ r, w.heap.size = r := ⟨_, rfl⟩
  have hm0 := MapOf.new w
  have hb0 : Below w.heap.size w (w.alloc (.map #[] 0)) := (Below.refl _ _).alloc (Nat.le_refl _) _
  rw [hr] at hm0 hb0 HROW ⊢
  have HM0 := Lib.hid hm0
  have HB0 := Lib.hid hb0
  clear hm0 hb0 hmm
  go_loopg [11] ds.length (fun gk i wr => ∃ (k : Nat) (L : List (List Int × Value)), k ≤ ds.length ∧ i = .int .i64 k ∧ Hid (ds.length - k = gk) ∧ Hid (Kept ds k L) ∧ Hid (MapOf wr r L) ∧ Hid (Below r w wr))
  case atStart => exact ⟨0, [], Nat.zero_le _, rfl, Lib.hid rfl, Lib.hid (Kept.nil ds), HM0, HB0⟩
  case round =>
    obtain ⟨k, L, hk, rfl, HGK, HK, HM, HBR⟩ := hrel
    have hlr := HM.out.lt
    by_cases hlt : k < ds.length
    · obtain ⟨d, hd⟩ : ∃ d, ds[k]? = some d := ⟨_, List.getElem?_eq_getElem hlt⟩
      have HST := Lib.hid (HK.out.step hd)
      obtain ⟨b, o, rfl, hb, x0, x1, hir, hfit, ha1, ha2⟩ := (HROW.out.below HBR.out).at hd
      have HNB := Lib.hid (HK.out.names HBY.out)
      have HFT := Lib.hid hfit.2.1
      obtain ⟨dA, hdA⟩ : ∃ dA, d.A = dA := ⟨_, rfl⟩
      rw [hdA] at x1
      obtain ⟨w1, hw1⟩ : ∃ w1, wr.alloc (.cells #[.string (strOfNums d.p.name), .slice dA d.p.args.length d.c] 59) = w1 := ⟨_, rfl⟩
      have s1 : w1.heap.size = wr.heap.size + 1 := by rw [← hw1]; simp
      have b1 : Below wr.heap.size wr w1 := by rw [← hw1]; exact (Below.refl _ _).alloc (Nat.le_refl _) _
      have h1 : Held w1 wr.heap.size 59 #[.string (strOfNums d.p.name), .slice dA d.p.args.length d.c] := by rw [← hw1]; exact heap_alloc_new wr _
      have HP1 := Lib.hid h1
      have HM1 := Lib.hid (HM.out.below b1 hlr)
      have HB1 := Lib.hid (HBR.out.trans (b1.mono (Nat.le_of_lt hlr)))
      have p0 := h1.cell 0
      have p1 := h1.cell 1
      have hl1 : wr.heap.size < w1.heap.size := by omega
      simp at p0 p1
      have HKY := Lib.hid (fun W => key_any (strOfNums d.p.name) dA d.p.args.length d.c W)
      clear h1 b1 hir hfit hd hdA
      go_wp2_with fail
      refine (HKY.out _).mono ?_
      rintro e w2 ⟨rfl, hb2⟩
      have hz2 : w1.heap.size ≤ w2.heap.size := hb2.size
      have HM2 := Lib.hid (HM1.out.below hb2 (by omega))
      have HB2 := Lib.hid (HB1.out.trans (hb2.mono (by omega)))
      have HP2 := Lib.hid (HP1.out.below hb2 (by omega))
      have hlk := HM2.out.look HNB.out HFT.out (t := 90) Try.underlying90 (zero_int w2) true
      rcases HST.out with ⟨v, h3, hk3⟩ | ⟨h3, h4, hk3⟩
      · rw [h3] at hlk
        have HK3 := Lib.hid hk3
        simp only [if_true] at hlk
        clear hb2 hk3 h3 x0 x1
        go_wp2_with fail
        go_roundg (ds.length - (k + 1))
        case measure => have := HGK.out; omega
        case rel => exact ⟨k + 1, L, by omega, by go_num, Lib.hid rfl, HK3, HM2, HB2⟩
      · rw [h3] at hlk
        have HK3 := Lib.hid hk3
        have H4 := Lib.hid h4
        have p0' := HP2.out.cell 0
        have p1' := HP2.out.cell 1
        have hl2 := HP2.out.lt
        simp at p0' p1'
        simp only [if_true] at hlk
        clear hb2 hk3 h3 h4 x0 x1 p0 p1
        go_wp2_with fail
        refine (HKY.out _).mono ?_
        rintro e w3 ⟨rfl, hb3⟩
        have hz3 : w2.heap.size ≤ w3.heap.size := hb3.size
        have HM3 := Lib.hid (HM2.out.below hb3 (by omega))
        have HB3 := Lib.hid (HB2.out.trans (hb3.mono (by omega)))
        obtain ⟨ob, hup, hmo⟩ := HM3.out.add HNB.out HFT.out (t := 90) Try.underlying90 H4.out (.int .i64 k)
        have HMO := Lib.hid hmo
        clear hb3 hmo hlk p0' p1'
        go_wp2_with fail
        go_roundg (ds.length - (k + 1))
        case measure => have := HGK.out; omega
        case rel => exact ⟨k + 1, _, by omega, by go_num, Lib.hid rfl, HK3, HMO, Lib.hid (below_putObj HB3.out (Nat.le_refl _) ob)⟩
    · obtain rfl : k = ds.length := by omega
      go_wp2_with fail
      go_ret
      subst hr
      exact ⟨L, rfl, HK.out, HM.out, HBR.out⟩
#print axioms firsts_any
end Go.Proofs.Ytlmpicfhbpnpbaa
