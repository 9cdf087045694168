/-
  What the theorem of TopAny rests on, part 13 of 16.
-/
import Derived.Lib.SliceRun
import Derived.Maps.AppendAt
import Derived.Lib.SlBytesConst
import Derived.Lib.SmallJoins
import Derived.Deep.RegionHeld3
import Derived.Deep.RegionLaw
import Derived.Deep.RegionHeldLaw
import Derived.Deep.AppendLies
import Derived.Test.YtnlfcmbpocdpjaaGreatTopAnyZ12
set_option maxRecDepth 100000
set_option maxHeartbeats 16000000
namespace Go.Proofs.YtnlfcmbpocdpjaaGreat
open Lib (hid)
open Go.RowKit
section
variable {w w' w2 : World} {row row' : Option Nat} {g : Nat}
def Off (row : Option Nat) (ps : List Pt) : Prop := ∀ p ∈ ps, ∀ a, p.A = some a → row ≠ some a.block
def OffN (row : Option Nat) (ps : List Pt) : Prop := ∀ p ∈ ps, p.s.pay ≠ [] → ∀ a, p.A = some a → row ≠ some a.block
theorem OffN.nil (row : Option Nat) : OffN row [] := fun p hp => by simp at hp
def NewP (n : Nat) (ps : List Pt) : Prop := ∀ p ∈ ps, ∀ a, p.A = some a → n ≤ a.block
theorem NewP.append {n : Nat} {ps qs : List Pt} (h : NewP n ps) (k : NewP n qs) : NewP n (ps ++ qs) := fun p hp => (List.mem_append.1 hp).elim (h p) (k p)
theorem NewP.nil (n : Nat) : NewP n [] := fun p hp => by simp at hp
theorem NewP.less {n m : Nat} {ps : List Pt} (h : NewP n ps) (hm : m ≤ n) : NewP m ps := fun p hp a e => Nat.le_trans hm (h p hp a e)
theorem NewP.off {n : Nat} {ps : List Pt} (h : NewP n ps) (hr : ∀ j, row = some j → j < n) : Off row ps := fun p hp a e e2 => by
 have := h p hp a e
 have := hr _ e2
 omega
def LowP (n : Nat) (ps : List Pt) : Prop := ∀ p ∈ ps, ∀ a, p.A = some a → p.s.pay ≠ [] → a.block < n
theorem reads_low {n : Nat} {ps : List Pt} (h : ∀ p ∈ ps, p.Reads w w.heap.size) (hn : w.heap.size = n) : LowP n ps := by
 intro p hp a e hne
 obtain ⟨A, c, hv, _, _, _, h4⟩ := h p hp
 have hl : 0 < p.s.pay.length := by cases hq : p.s.pay with | nil => exact absurd hq hne | cons _ _ => simp
 obtain ⟨b, o, e2, hb, _⟩ := h4 hl
 injection hv with e3 _ _
 rw [e] at e3
 rw [e2] at e3
 injection e3 with e4
 rw [e4, ← hn]
 exact hb
theorem NewP.offN {n : Nat} {ps : List Pt} (h : NewP n ps) (hr : ∀ j, row = some j → j < n) : OffN row ps := fun p hp _ => h.off hr p hp
theorem LowP.offN {n : Nat} {ps : List Pt} (h : LowP n ps) (hr : ∀ j, row = some j → n ≤ j) : OffN row ps := fun p hp hne a e e2 => by
 have := h p hp a e hne
 have := hr _ e2
 omega
theorem Pt.Reads.but {p : Pt} (hr : p.Reads w w.heap.size) (h : But w w' row g) (hg : ∀ (i : Nat) (n : Int), w.cell? ⟨g, i, Option.none⟩ ≠ some (.int .u8 n)) (hA : p.s.pay ≠ [] → ∀ a, p.A = some a → row ≠ some a.block) : p.Reads w' w'.heap.size := by
 by_cases hp : p.s.pay = []
 ·obtain ⟨A', c', hv, h1, h2, h3, h4⟩ := hr
  exact ⟨A', c', hv, h1, h2, h3, fun h => absurd h (by rw [hp]; simp)⟩
 ·exact (h.bytes hr hg (hA hp)).more h.size
theorem Segs.but {n0 : Nat} {v : Value} {ps : List Pt} (hs : Segs w n0 v ps) (h : But w w' row g) (hg : ∀ (i : Nat) (n : Int), w.cell? ⟨g, i, Option.none⟩ ≠ some (.int .u8 n)) (h1 : v.ownBlock = none ∨ v.ownBlock ≠ some g) (h2 : v.ownBlock = none ∨ v.ownBlock ≠ row)
  (hA : OffN row ps) : Segs w' n0 v ps := by
 obtain ⟨⟨q1, q2⟩, q3, q4⟩ := hs
 have hkeep : ∀ b, v.ownBlock = some b → b < w.heap.size → w'.heap[b]? = w.heap[b]? := fun b e hlt =>
  h.block b hlt (fun e2 => h1.elim (fun h => by rw [e] at h; cases h) (fun h => h (by rw [e, e2]))) (fun e2 => h2.elim (fun h => by rw [e] at h; cases h) (fun h => h (e.trans e2)))
 refine ⟨⟨q1, ?_⟩, fun b e i n => ?_, fun p hp => (q4 p hp).but h hg (hA p hp)⟩
 ·rcases q2 with q2 | ⟨b, cap, cur, rfl, hb, hgb, r⟩
  ·exact .inl q2
  ·exact .inr ⟨b, cap, cur, rfl, hb, (hkeep b rfl (Array.getElem?_eq_some_iff.1 hgb).1).trans hgb, r⟩
 ·rcases q2 with ⟨rfl, _⟩ | ⟨b', cap, cur, rfl, hb, hgb, r⟩
  ·simp [Value.ownBlock] at e
  ·obtain rfl : b' = b := by simpa [Value.ownBlock] using e
   rw [World.cell?_of_block (a := ⟨b', i, Option.none⟩) (hkeep b' rfl (Array.getElem?_eq_some_iff.1 hgb).1)]
   exact q3 b' rfl i n
end
theorem flatS_inv : ∀ (l : List Pt) (j : Nat) (u : Value), (flatS l)[j]? = some u → ∃ p, l[j / 5]? = some p ∧ p.cells[j % 5]? = some u
 | [], j, u, h => by simp [flatS] at h
 | p :: l, j, u, h => by
  have hl : p.cells.length = 5 := rfl
  rw [flatS] at h
  by_cases hj : j < 5
  ·rw [List.getElem?_append_left (by omega)] at h
   exact ⟨p, by rw [Nat.div_eq_of_lt hj]; rfl, by rw [Nat.mod_eq_of_lt hj]; exact h⟩
  ·rw [List.getElem?_append_right (by omega), hl] at h
   obtain ⟨q, h1, h2⟩ := flatS_inv l (j - 5) u h
   refine ⟨q, ?_, ?_⟩
   ·rw [show j / 5 = (j - 5) / 5 + 1 by omega, List.getElem?_cons_succ]
    exact h1
   ·rw [show j % 5 = (j - 5) % 5 by omega]
    exact h2
theorem flatS_one' (l : List Pt) : ∀ u ∈ flatS l, u.oneCell' = true := by
 intro u hu
 obtain ⟨j, hj⟩ := List.mem_iff_getElem?.1 hu
 obtain ⟨p, _, h⟩ := flatS_inv l j u hj
 exact cells_one p u (List.mem_of_getElem? h)
theorem run_append_segs {P : Program} (w : World) (t ty : TypeId) (i : TypeInfo) (z : Value) (ht : P.underlying t = some (.slice 46)) (hi : P.info? 46 = some i) (hz : i.zero = some z)
  (hsize : i.size = 5) (hby : i.bytes ≤ 100) (hzs : z.cells = #[.int .i64 0, .int .i64 0, .bool false, .int .i64 0, .slice none 0 0])
  (n0 : Nat) (v : Value) (ps : List Pt) (hs : Segs w n0 v ps) (sv : Value) (qs : List Pt) (hr : SegRow w w.heap.size sv qs)
  (hlen : ps.length + qs.length ≤ 1000000000000) (hbase : n0 ≤ w.heap.size) :
  ∃ v' w', (Builtin.append_ #[t, t] ty #[v, sv]).run P w = .ok v' w' ∧ Segs w' n0 v' (ps ++ qs) ∧ w.grownBy w' v.ownBlock := by
 obtain ⟨A, c, rfl, hc1, hc2, hc3, hc4, hc5⟩ := hr
 rcases A with _ | ad
 ·have hq : qs = [] := by
   rcases Nat.eq_zero_or_pos qs.length with h0 | h0
   ·exact List.eq_nil_of_length_eq_zero h0
   ·obtain ⟨b, o, he, _⟩ := hc4 h0
    cases he
  subst hq
  obtain rfl := hc3 rfl
  exact ⟨v, w, run_append_owned_none w n0 t ty 46 i 5 ht hi v ps.length (flatS ps) hs.1, by simpa using hs, World.grownBy.refl w _⟩
 ·have hl5 : (flatS qs).length = qs.length * 5 := flatS_length qs
  have hc : ∀ j u, (flatS qs)[j]? = some u → w.cell? (ad.add j) = some u := fun j u hj => by
   have hlt := (List.getElem?_eq_some_iff.1 hj).1
   obtain ⟨q, h1, h2⟩ := flatS_inv qs j u hj
   obtain ⟨b, o, he, _, hcell⟩ := hc4 (by omega)
   obtain rfl : ad = ⟨b, o, none⟩ := by injection he
   have := hcell _ q h1 _ u h2
   rw [Go.WideShapes.add_plain, show o + j = o + j / 5 * 5 + j % 5 by omega]
   exact this
  have hb2 : (ps.length + qs.length) * i.bytes ≤ 140737488355328 := by
   have : (ps.length + qs.length) * i.bytes ≤ 1000000000000 * 100 := Nat.mul_le_mul hlen hby
   omega
  have hm : ps.length + qs.length ≤ maxLen := by unfold maxLen; omega
  obtain ⟨v', w', hrun, hown, hgr, hnil⟩ := run_append_own (P := P) w n0 t ty _ i z 5 i.bytes ht hi hz hsize rfl (by rw [hzs]; rfl) (by omega) v ps.length (flatS ps) hs.1 ad qs.length c (flatS qs) hl5 hc (flatS_one' qs) hm hb2 hbase
  refine ⟨v', w', hrun, ⟨by simpa [flatS_append] using hown, ?_, fun q hq => ?_⟩, hgr⟩
  ·have hzb : ∀ (k : Nat) (u : Value), u ∈ (Builtin.zeroCells z.cells k).toList → ∀ n : Int, u ≠ .int .u8 n := by
    intro k u hu n
    simp only [Builtin.zeroCells, hzs] at hu
    simp at hu
    obtain ⟨a, _, rfl⟩ := hu
    have ha : a % 5 = 0 ∨ a % 5 = 1 ∨ a % 5 = 2 ∨ a % 5 = 3 ∨ a % 5 = 4 := by omega
    rcases ha with e | e | e | e | e <;> rw [e] <;> simp
   have new : ∀ (cur : Array Value), (∀ u ∈ cur.toList, ∀ n : Int, u ≠ .int .u8 n) → ∀ (i : Nat) (n : Int), (w.drew.alloc (.cells cur 46)).cell? ⟨w.heap.size, i, none⟩ ≠ some (.int .u8 n) := by
    intro cur hcur i n e
    rw [cell_of_row _ w.heap.size i cur _ (0, 0) (heap_alloc_new w.drew _)] at e
    exact hcur _ (by obtain ⟨hlt, he⟩ := Array.getElem?_eq_some_iff.1 e; rw [← he]; exact Array.getElem_mem_toList hlt) n rfl
   intro g hg i' n
   rcases hs.1.2 with ⟨rfl, h0⟩ | ⟨b, cap, cur, rfl, _, hgb, hnc, hcm, hcs, htake⟩
   ·by_cases hq0 : qs.length = 0
    ·have := hnil.2 ⟨rfl, hq0⟩
     subst this
     simp [Value.ownBlock] at hg
    ·have hr := run_append_nil (P := P) w t ty _ i z ht hi hz ad qs.length c (flatS qs) (by rw [hsize]; exact hl5) hc (by omega) (by omega) (by have := hb2; rw [h0, Nat.zero_add] at this; omega)
     rw [hrun] at hr
     injection hr with e1 e2
     subst e1 e2
     obtain rfl : w.heap.size = g := by simpa [Value.ownBlock] using hg
     refine new _ (fun u hu => ?_) i' n
     simp only [Array.toList_append, List.mem_append] at hu
     rcases hu with hu | hu
     ·exact flatS_nob qs u hu
     ·exact hzb _ u hu
   ·by_cases hroom : ps.length + qs.length ≤ cap
    ·have hr := run_append_room (P := P) w t ty _ i ht hi b ps.length cap cur hgb ad qs.length c (flatS qs) (by rw [hsize]; exact hl5) hc (flatS_one' qs) hroom (by rw [hsize, hcs, hl5]; omega)
     rw [hrun] at hr
     injection hr with e1 e2
     subst e1 e2
     obtain rfl : b = g := by simpa [Value.ownBlock] using hg
     rw [cell_setRow_same w b i' cur _ _ _ hgb]
     intro e
     have hmem : (Value.int .u8 n) ∈ cur.toList.take (ps.length * i.size) ++ flatS qs ++ cur.toList.drop (ps.length * i.size + (flatS qs).length) := by
      rw [List.getElem?_toArray] at e
      exact List.mem_of_getElem? e
     have hold : ∀ u ∈ cur.toList, ∀ n : Int, u ≠ .int .u8 n := by
      intro u hu n e
      obtain ⟨k, hk⟩ := List.mem_iff_getElem?.1 hu
      refine hs.2.1 b rfl k n ?_
      rw [cell_of_row w b k cur _ _ hgb, ← e]
      simpa using hk
     rcases List.mem_append.1 hmem with h | h
     ·rcases List.mem_append.1 h with h | h
      ·exact hold _ (List.mem_of_mem_take h) n rfl
      ·exact flatS_nob qs _ h n rfl
     ·exact hold _ (List.mem_of_mem_drop h) n rfl
    ·have hr := run_append_grow (P := P) w t ty _ i z ht hi hz ⟨b, 0, none⟩ ps.length cap (flatS ps) (by rw [hsize]; exact flatS_length ps) (hs.1.cells (g := b) rfl) ad qs.length c (flatS qs) (by rw [hsize]; exact hl5) hc (by omega) (by omega) (growslice_fits (by omega) hb2)
     rw [hrun] at hr
     injection hr with e1 e2
     subst e1 e2
     obtain rfl : w.heap.size = g := by simpa [Value.ownBlock] using hg
     refine new _ (fun u hu => ?_) i' n
     simp only [Array.toList_append, List.mem_append] at hu
     rcases hu with (hu | hu) | hu
     ·exact flatS_nob ps u hu
     ·exact flatS_nob qs u hu
     ·exact hzb _ u hu
  ·rcases List.mem_append.1 hq with h | h
   ·exact (hs.2.2 q h).grown hgr hs.2.1
   ·exact (hc5 q h).grown hgr hs.2.1
section
variable {P : Program} {w : World} {ops : Array Oper} {rest : List Oper} {o : Oper} {a : Act} {Q : Exit → Act → World → Prop}
theorem step_append_segs {K : Act → World → Prop} {E : Prop} (hgd : o.guard = none) (s x : Operand) (t : TypeId) (ho : o.op = .call { callee := .builtin .append, args := #[s, x], argTypes := #[t, t] })
  (i : TypeInfo) (z : Value) (ht : P.underlying t = some (.slice 46)) (hi : P.info? 46 = some i) (hz : i.zero = some z)
  (hsize : i.size = 5) (hby : i.bytes ≤ 100) (hzs : z.cells = #[.int .i64 0, .int .i64 0, .bool false, .int .i64 0, .slice none 0 0])
  (n0 : Nat) (v : Value) (ps : List Pt) (hs : a.eval s = v) (hown : Segs w n0 v ps) (sv : Value) (qs : List Pt) (hx : a.eval x = sv) (hr : SegRow w w.heap.size sv qs)
  (hlen : ps.length + qs.length ≤ 1000000000000) (hbase : n0 ≤ w.heap.size)
  (h : ∀ v' w', Segs w' n0 v' (ps ++ qs) → w.grownBy w' v.ownBlock → K (a.put o.dst v') w') : if Region.wanted o (yielded ops a.tmps) = true then Oper.wp P o a w K Q else E := by
 have hw : Region.wanted o (yielded ops a.tmps) = true := by simp [Region.wanted, hgd]
 obtain ⟨v', w', hr, h2, h3⟩ := run_append_segs (P := P) w t o.type i z ht hi hz hsize hby hzs n0 v ps hown sv qs hr hlen hbase
 rw [if_pos hw]
 unfold Oper.wp execOp
 simp only [ho, resolve, invoke, builtin, Sem.run_bind, Sem.run_pure, Result.andThen_ok, List.map_toArray, List.map_cons, List.map_nil, hs, hx, hr]
 exact h v' w' h2 h3
end
theorem one_row {w : World} {B : Nat} (g c : Nat) (hc : 1 ≤ c) (hc2 : c ≤ maxLen) (p : Pt) (hg : g < B) (h : ∀ j u, p.cells[j]? = some u → w.cell? ⟨g, j, none⟩ = some u) (hp : p.Reads w B) : SegRow w B (.slice (some ⟨g, 0, none⟩) 1 c) [p] := by
 refine ⟨_, _, rfl, hc, hc2, by simp, fun _ => ⟨g, 0, rfl, hg, fun i q hq j u hj => ?_⟩, fun q hq => ?_⟩
 ·match i with
  | 0 =>
   simp only [List.getElem?_cons_zero, Option.some.injEq] at hq
   subst hq
   simpa using h j u hj
  | i + 1 => simp at hq
 ·obtain rfl : q = p := by simpa using hq
  exact hp
theorem run_append_row_at {P : Program} (w : World) (base : Nat) (t ty e : TypeId) (i : TypeInfo) (z : Value) (ht : P.underlying t = some (.slice e)) (hi : P.info? e = some i) (hz : i.zero = some z)
  (hsize : i.size = 1) (hby : i.bytes = 1) (hzs : z.cells.size = 1)
  (v : Value) (n : Nat) (us : List Value) (hown : w.ownsRow base e 1 v n us) (B : Nat) (sv : Value) (xs : List Int) (hr : Row w B sv xs)
  (hlen : n + xs.length ≤ 140737488355328) (hbase : base ≤ w.heap.size) :
  ∃ v' w', (Builtin.append_ #[t, t] ty #[v, sv]).run P w = .ok v' w' ∧ w'.ownsRow base e 1 v' (n + xs.length) (us ++ xs.map (.int .u8)) ∧ w.grownBy w' v.ownBlock ∧ (v'.ownBlock = v.ownBlock ∨ v'.ownBlock = some w.heap.size) := by
 obtain ⟨A, c, rfl, h1, h2, h3, h4⟩ := hr
 rcases A with _ | ad
 ·have hx : xs = [] := by
   rcases Nat.eq_zero_or_pos xs.length with h0 | h0
   ·exact List.eq_nil_of_length_eq_zero h0
   ·obtain ⟨b, o, he, _⟩ := h4 h0
    cases he
  subst hx
  obtain rfl := h3 rfl
  exact ⟨v, w, run_append_owned_none w base t ty e i 1 ht hi v n us hown, by simpa using hown, World.grownBy.refl w _, .inl rfl⟩
 ·obtain ⟨v', w', q1, q2, q3, _, q5⟩ := run_append_own_at (P := P) w base t ty e i z 1 1 ht hi hz hsize hby hzs (by omega) v n us hown ad xs.length c (xs.map (.int .u8)) (by simp) (fun j u hu => by
   have hj : j < xs.length := by
    have := (List.getElem?_eq_some_iff.1 hu).1
    simpa using this
   obtain ⟨b, o, he, _, hc⟩ := h4 (by omega)
   obtain rfl : ad = ⟨b, o, none⟩ := by injection he
   have hu' : u = .int .u8 (xs.getD j 0) := by
    rw [List.getElem?_map, List.getElem?_eq_getElem hj] at hu
    simp at hu
    simp [List.getD, List.getElem?_eq_getElem hj, hu]
   rw [hu', ← hc j hj, Go.WideShapes.add_plain]) (fun u hu => by
   obtain ⟨x, _, rfl⟩ := List.mem_map.1 hu
   simp [Value.oneCell']) (by simp only [maxLen]; omega) (by omega) hbase
  exact ⟨v', w', q1, q2, q3, q5⟩
section
variable {P : Program} {w : World} {ops : Array Oper} {rest : List Oper} {o : Oper} {a : Act} {Q : Exit → Act → World → Prop}
theorem wpList_append_row_at (hgd : o.guard = none) (s x : Operand) (t : TypeId) (ho : o.op = Op.call { callee := Callee.builtin Builtin.append, args := #[s, x], argTypes := #[t, t] })
  (base : Nat) (e : TypeId) (i : TypeInfo) (z : Value) (h1 : P.underlying t = some (.slice e)) (h2 : P.info? e = some i) (h3 : i.zero = some z) (h4 : i.size = 1) (h5 : i.bytes = 1) (h6 : z.cells.size = 1)
  (v : Value) (k : Nat) (us : List Value) (hs : a.eval s = v) (hown : w.ownsRow base e 1 v k us) (B : Nat) (sv : Value) (xs : List Int) (hx : a.eval x = sv) (hr : Row w B sv xs)
  (b2 : k + xs.length ≤ 140737488355328) (b3 : base ≤ w.heap.size)
  (hK : ∀ v' w', w'.ownsRow base e 1 v' (k + xs.length) (us ++ xs.map (.int .u8)) → w.grownBy w' v.ownBlock → (v'.ownBlock = v.ownBlock ∨ v'.ownBlock = some w.heap.size) → wpList P ops Q rest (a.put o.dst v') w') :
  wpList P ops Q (o :: rest) a w := by
 obtain ⟨v', w', hrun, r1, r2, r3⟩ := run_append_row_at (P := P) w base t o.type e i z h1 h2 h3 h4 h5 h6 v k us hown B sv xs hr b2 b3
 refine wpList_plain hgd fun K hK' => ?_
 unfold Oper.wp
 simp [execOp, ho, resolve, invoke, builtin, hs, hx, hrun, Result.andThen]
 exact hK' _ _ (hK v' w' r1 r2 r3)
theorem step_append_fresh {K : Act → World → Prop} {E : Prop} (hgd : o.guard = none) (s x : Operand) (t : TypeId) (ho : o.op = .call { callee := .builtin .append, args := #[s, x], argTypes := #[t, t] })
  (e : TypeId) (i : TypeInfo) (z : Value) (ht : P.underlying t = some (.slice e)) (hi : P.info? e = some i) (hz : i.zero = some z) (hsize : i.size = 1) (hby : i.bytes = 1) (hzs : z.cells.size = 1)
  (B B2 : Nat) (A A2 : Option Addr) (c c2 n m : Nat) (xs ys : List Int) (hs : a.eval s = .slice A n c) (hx : a.eval x = .slice A2 m c2) (hn : xs.length = n) (hm : ys.length = m) (hr : Row w B (.slice A n c) xs) (hr2 : Row w B2 (.slice A2 m c2) ys)
  (h02 : 0 < m) (hc : c < n + m) (hl : n + m ≤ 100000000000) (H : Nat) (hH : w.heap.size = H)
  (h : ∀ cap w', w'.ownsRow w.heap.size e 1 (.slice (some ⟨H, 0, none⟩) (n + m) cap) (n + m) ((xs ++ ys).map (.int .u8)) → Below w.heap.size w w' → K (a.put o.dst (.slice (some ⟨H, 0, none⟩) (n + m) cap)) w') :
  if Region.wanted o (yielded ops a.tmps) = true then Oper.wp P o a w K Q else E := by
 have hw : Region.wanted o (yielded ops a.tmps) = true := by simp [Region.wanted, hgd]
 subst hn hm hH
 have hrun : ∃ cap w', (Builtin.append_ #[t, t] o.type #[.slice A xs.length c, .slice A2 ys.length c2]).run P w = .ok (.slice (some ⟨w.heap.size, 0, none⟩) (xs.length + ys.length) cap) w' ∧
   w'.ownsRow w.heap.size e 1 (.slice (some ⟨w.heap.size, 0, none⟩) (xs.length + ys.length) cap) (xs.length + ys.length) ((xs ++ ys).map (.int .u8)) ∧ Below w.heap.size w w' := by
  obtain ⟨A', c', hv, q1, q2, q3, h4⟩ := hr
  injection hv with e1 _ e3
  subst e1 e3
  rcases A with _ | ad
  ·obtain rfl := q3 rfl
   have hx0 : xs = [] := List.eq_nil_of_length_eq_zero (by omega)
   subst hx0
   obtain ⟨v', w', q1, q2, q3, q4⟩ := run_append_row_at (P := P) w w.heap.size t o.type e i z ht hi hz hsize hby hzs (.slice none 0 0) 0 [] (World.ownsRow_nil _ _ _ _) B2 _ ys hr2 (by omega) (Nat.le_refl _)
   rw [Nat.zero_add] at q2
   obtain ⟨g, cap, rfl, _, _⟩ := q2.form h02
   have hg : g = w.heap.size := by rcases q4 with q4 | q4 <;> simp [Value.ownBlock] at q4; exact q4
   subst hg
   refine ⟨cap, w', by simpa using q1, by simpa using q2, ⟨q3.os, q3.tape, q3.output, q3.size, fun k hk => q3.block k hk (by simp [Value.ownBlock])⟩⟩
  ·have hold : ∀ (j : Nat) (v : Value), (xs.map (Value.int .u8))[j]? = some v → w.cell? (ad.add j) = some v := by
    intro j v hj
    have hjl : j < xs.length := by have := (List.getElem?_eq_some_iff.1 hj).1; simpa using this
    obtain ⟨b, oo, e4, _, hcell⟩ := h4 (by omega)
    obtain rfl : ad = ⟨b, oo, none⟩ := by injection e4
    rw [Go.WideShapes.add_plain, hcell j hjl, ← hj]
    simp [List.getD, List.getElem?_eq_getElem hjl]
   obtain ⟨_, _, hv2, _, _, _, h42⟩ := hr2
   injection hv2 with e1 _ e4
   subst e1
   obtain ⟨b2, o2, rfl, _, hcell2⟩ := h42 h02
   have key : ∀ (zs : List Int) (bb oo : Nat), (∀ i, i < zs.length → w.cell? ⟨bb, oo + i, none⟩ = some (.int .u8 (zs.getD i 0))) → ∀ (j : Nat) (v : Value), (zs.map (Value.int .u8))[j]? = some v → w.cell? ((⟨bb, oo, none⟩ : Addr).add j) = some v := by
    intro zs bb oo hcz j v hj
    have hjl : j < zs.length := by have := (List.getElem?_eq_some_iff.1 hj).1; simpa using this
    rw [Go.WideShapes.add_plain, hcz j hjl, ← hj]
    simp [List.getD, List.getElem?_eq_getElem hjl]
   have hr := run_append_grow (P := P) w t o.type e i z ht hi hz ad xs.length c (xs.map (.int .u8)) (by simp [hsize]) hold ⟨b2, o2, none⟩ ys.length c2 (ys.map (.int .u8)) (by simp [hsize]) (key ys b2 o2 hcell2) hc (by omega) (by rw [hby]; exact growslice_fits (by omega) (by omega))
   have hge := grownCap_ge w (xs.length + ys.length) c e
   have hcm := grownCap_le_maxLen w (xs.length + ys.length) c e (by simp only [maxLen]; omega)
   refine ⟨_, _, hr, ⟨by simp, .inr ⟨w.heap.size, _, _, rfl, Nat.le_refl _, heap_alloc_new w.drew _, hge, hcm, ?_, ?_⟩⟩, ((Below.refl _ _).alloc (Nat.le_refl _) _).drew⟩
   ·simp only [Array.size_append, List.size_toArray, size_zeroCells, hzs, List.length_map]
    omega
   ·simp only [Array.toList_append, List.append_assoc, Nat.mul_one]
    rw [← List.append_assoc, ← List.map_append, show xs.length + ys.length = ((xs ++ ys).map (Value.int .u8)).length by simp]
    exact List.take_left
 obtain ⟨cap, w', hrun, h2, h3⟩ := hrun
 rw [if_pos hw]
 unfold Oper.wp execOp
 simp only [ho, resolve, invoke, builtin, Sem.run_bind, Sem.run_pure, Result.andThen_ok, List.map_toArray, List.map_cons, List.map_nil, hs, hx, hrun]
 exact h cap w' h2 h3
end
theorem Row.cut {w : World} {B : Nat} {A : Option Addr} {n c : Nat} {xs : List Int} (h : Row w B (.slice A n c) xs) : Row w B (.slice A n n) xs := by
 obtain ⟨A', c', hv, h1, h2, h3, h4⟩ := h
 injection hv with e1 e2 e3
 subst e1 e2 e3
 exact ⟨A, xs.length, rfl, Nat.le_refl _, by omega, fun e => by have := h3 e; omega, h4⟩
theorem run_clear_row {P : Program} (w : World) (base : Nat) (t ty e : TypeId) (ht : P.underlying t = some (.slice e)) (hz : ∀ w, (zeroValue e).run P w = .ok (.int .u8 0) w)
  (v : Value) (n : Nat) (us : List Value) (hown : w.ownsRow base e 1 v n us) :
  ∃ w', (Builtin.clear_ #[t] ty #[v]).run P w = .ok (.tuple #[]) w' ∧ w.grownBy w' v.ownBlock ∧ ∃ us', w'.ownsRow base e 1 v n us' := by
 rcases hown.2 with ⟨rfl, rfl⟩ | ⟨g, cap, cur, rfl, hb, hg, hnc, hcm, hcs, htake⟩
 ·exact ⟨w, by simp [Builtin.clear_, run_underlying ht], World.grownBy.refl w _, us, hown⟩
 ·by_cases hn : n = 0
  ·subst hn
   exact ⟨w, by simp [Builtin.clear_, run_underlying ht], World.grownBy.refl w _, us, hown⟩
  ·have hr := Lib.run_clear_slice (P := P) w t e ty (.int .u8 0) ht hz rfl rfl g 0 n cap (by omega) (fun j hj => by rw [Nat.zero_add, hown.cellAt j (by omega), List.getElem?_eq_getElem (by rw [hown.1]; omega)]; rfl) (fun j _ => hown.frozenAt _)
   have stored : ∀ (l : List Value) (j : Nat) (W : World) (xs : List Value), W.ownsRow base e 1 (.slice (some ⟨g, 0, none⟩) n cap) n xs → (∃ xs', (W.setCells g j l).ownsRow base e 1 (.slice (some ⟨g, 0, none⟩) n cap) n xs') ∧ W.grownBy (W.setCells g j l) (some g) := by
    intro l
    induction l with
    | nil => intro j W xs h; exact ⟨⟨xs, h⟩, World.grownBy.refl W _⟩
    | cons u l ih =>
     intro j W xs h
     obtain ⟨h1, h2⟩ := h.stored j u
     obtain ⟨h3, h4⟩ := ih (j + 1) _ _ h1
     exact ⟨h3, grown_trans h2 h4⟩
   obtain ⟨h1, h2⟩ := stored (List.replicate n (.int .u8 0)) 0 w us hown
   exact ⟨_, hr, h2, h1⟩
theorem own_zero {w : World} {base : Nat} {e : TypeId} {v : Value} {n : Nat} {us : List Value} (h : w.ownsRow base e 1 v n us) : ∃ v0, (∀ A c, v = .slice A n c → v0 = .slice A 0 c) ∧ w.ownsRow base e 1 v0 0 [] ∧ v0.ownBlock = v.ownBlock := by
 rcases h.2 with ⟨rfl, rfl⟩ | ⟨g, cap, cur, rfl, hb, hg, hnc, hcm, hcs, htake⟩
 ·exact ⟨.slice none 0 0, fun A c e => e, World.ownsRow_nil _ _ _ _, rfl⟩
 ·exact ⟨.slice (some ⟨g, 0, none⟩) 0 cap, fun A c e => by injection e with e1 _ e3; rw [← e1, ← e3], ⟨rfl, .inr ⟨g, cap, cur, rfl, hb, hg, Nat.zero_le _, hcm, hcs, by simp⟩⟩, rfl⟩
theorem run_append_full {P : Program} (w : World) (t ty e : TypeId) (i : TypeInfo) (z : Value) (ht : P.underlying t = some (.slice e)) (hi : P.info? e = some i) (hz : i.zero = some z)
  (hsize : i.size = 1) (hby : i.bytes = 1) (hzs : z.cells.size = 1) (B B2 : Nat) (A A2 : Option Addr) (c c2 : Nat) (xs ys : List Int) (hr : Row w B (.slice A xs.length c) xs) (hr2 : Row w B2 (.slice A2 ys.length c2) ys)
  (h0 : 0 < xs.length) (h02 : 0 < ys.length) (hc : c < xs.length + ys.length) (hl : xs.length + ys.length ≤ 100000000000) :
  ∃ cap w', (Builtin.append_ #[t, t] ty #[.slice A xs.length c, .slice A2 ys.length c2]).run P w = .ok (.slice (some ⟨w.heap.size, 0, none⟩) (xs.length + ys.length) cap) w' ∧
   w'.ownsRow w.heap.size e 1 (.slice (some ⟨w.heap.size, 0, none⟩) (xs.length + ys.length) cap) (xs.length + ys.length) ((xs ++ ys).map (.int .u8)) ∧ Below w.heap.size w w' := by
 obtain ⟨_, _, hv, _, _, _, h4⟩ := hr
 injection hv with e1 _ e3
 subst e1
 obtain ⟨b, o, rfl, _, hcell⟩ := h4 h0
 obtain ⟨_, _, hv2, _, _, _, h42⟩ := hr2
 injection hv2 with e1 _ e4
 subst e1
 obtain ⟨b2, o2, rfl, _, hcell2⟩ := h42 h02
 have key : ∀ (zs : List Int) (bb oo : Nat), (∀ i, i < zs.length → w.cell? ⟨bb, oo + i, none⟩ = some (.int .u8 (zs.getD i 0))) → ∀ (j : Nat) (v : Value), (zs.map (Value.int .u8))[j]? = some v → w.cell? ((⟨bb, oo, none⟩ : Addr).add j) = some v := by
  intro zs bb oo hcz j v hj
  have hjl : j < zs.length := by have := (List.getElem?_eq_some_iff.1 hj).1; simpa using this
  rw [Go.WideShapes.add_plain, hcz j hjl, ← hj]
  simp [List.getD, List.getElem?_eq_getElem hjl]
 have hr := run_append_grow (P := P) w t ty e i z ht hi hz ⟨b, o, none⟩ xs.length c (xs.map (.int .u8)) (by simp [hsize]) (key xs b o hcell) ⟨b2, o2, none⟩ ys.length c2 (ys.map (.int .u8)) (by simp [hsize]) (key ys b2 o2 hcell2) hc (by omega) (by rw [hby]; exact growslice_fits (by omega) (by omega))
 have hge := grownCap_ge w (xs.length + ys.length) c e
 have hcm := grownCap_le_maxLen w (xs.length + ys.length) c e (by simp only [maxLen]; omega)
 refine ⟨_, _, hr, ⟨by simp, .inr ⟨w.heap.size, _, _, rfl, Nat.le_refl _, heap_alloc_new w.drew _, hge, hcm, ?_, ?_⟩⟩, ((Below.refl _ _).alloc (Nat.le_refl _) _).drew⟩
 ·simp only [Array.size_append, List.size_toArray, size_zeroCells, hzs, List.length_map]
  omega
 ·simp only [Array.toList_append, List.append_assoc, Nat.mul_one]
  rw [← List.append_assoc, ← List.map_append, show xs.length + ys.length = ((xs ++ ys).map (Value.int .u8)).length by simp]
  exact List.take_left
theorem step_append_full {P : Program} {w : World} {ops : Array Oper} {o : Oper} {a : Act} {K : Act → World → Prop} {Q : Exit → Act → World → Prop} {E : Prop} (hgd : o.guard = none) (s x : Operand) (t : TypeId)
  (ho : o.op = .call { callee := .builtin .append, args := #[s, x], argTypes := #[t, t] })
  (e : TypeId) (i : TypeInfo) (z : Value) (ht : P.underlying t = some (.slice e)) (hi : P.info? e = some i) (hz : i.zero = some z) (hsize : i.size = 1) (hby : i.bytes = 1) (hzs : z.cells.size = 1)
  (B B2 : Nat) (A A2 : Option Addr) (c c2 n m : Nat) (xs ys : List Int) (hs : a.eval s = .slice A n c) (hx : a.eval x = .slice A2 m c2) (hn : xs.length = n) (hm : ys.length = m) (hr : Row w B (.slice A n c) xs) (hr2 : Row w B2 (.slice A2 m c2) ys)
  (h0 : 0 < n) (h02 : 0 < m) (hc : c < n + m) (hl : n + m ≤ 100000000000) (H : Nat) (hH : w.heap.size = H)
  (h : ∀ cap w', w'.ownsRow w.heap.size e 1 (.slice (some ⟨H, 0, none⟩) (n + m) cap) (n + m) ((xs ++ ys).map (.int .u8)) → Below w.heap.size w w' → K (a.put o.dst (.slice (some ⟨H, 0, none⟩) (n + m) cap)) w') :
  if Region.wanted o (yielded ops a.tmps) = true then Oper.wp P o a w K Q else E := by
 have hw : Region.wanted o (yielded ops a.tmps) = true := by simp [Region.wanted, hgd]
 subst hn hm hH
 obtain ⟨cap, w', hrun, h2, h3⟩ := run_append_full (P := P) w t o.type e i z ht hi hz hsize hby hzs B B2 A A2 c c2 xs ys hr hr2 h0 h02 hc hl
 rw [if_pos hw]
 unfold Oper.wp execOp
 simp only [ho, resolve, invoke, builtin, Sem.run_bind, Sem.run_pure, Result.andThen_ok, List.map_toArray, List.map_cons, List.map_nil, hs, hx, hrun]
 exact h cap w' h2 h3
theorem freeze_first (w : World) (C : Array Value) (e : TypeId) (o : Obj) (k : Nat) : ((w.alloc (.cells C e)).alloc o).freeze ⟨w.heap.size, k, none⟩ 1 = (w.alloc (.cells C e (k, k + 1))).alloc o := by
 unfold World.freeze
 rw [if_neg (by decide)]
 have hm : ∀ (a : Array Obj) (x y : Obj) (f : Obj → Obj), ((a.push x).push y).modify a.size f = (a.push (f x)).push y := by
  intro a x y f
  apply Array.ext
  ·simp
  ·intro i h1 h2
   simp only [Array.getElem_modify, Array.getElem_push]
   by_cases h : a.size = i
   ·subst h
    simp
   ·by_cases hi : i < a.size
    ·simp [h, hi, Nat.lt_succ_of_lt hi]
    ·have hi2 : i = a.size + 1 := by simp at h1; omega
     subst hi2
     simp
 show ({ ((w.alloc (.cells C e)).alloc o) with heap := ((w.heap.push (.cells C e)).push o).modify w.heap.size _ } : World) = _
 rw [hm]
 rfl
theorem run_convert_const_past {P : Program} (w : World) (t e : TypeId) (C : Array Value) (o : Obj) (n c g : Nat) (hg : g = w.heap.size) (ht : P.underlying t = some (.slice e)) (he : P.underlying e = some (.int .u8)) :
  (convert t t (.slice (some ⟨g, 0, none⟩) n c)).run P ((w.alloc (.cells C e)).alloc o) = .ok (.slice (some ⟨g, 0, none⟩) n c) ((w.alloc (.cells C e (C.size, C.size + 1))).alloc o) := by
 subst hg
 have hsh : ((w.alloc (.cells C e)).alloc o).shape? w.heap.size = some (e, C.size) := by
  have : ((w.alloc (.cells C e)).alloc o).heap[w.heap.size]? = some (.cells C e) := by
   show ((w.heap.push (.cells C e)).push o)[w.heap.size]? = _
   simp [Array.getElem?_push]
  unfold World.shape?
  rw [this]
 simp [convert, run_underlying ht, run_underlying he, markStringish, hsh]
 exact freeze_first w C e o C.size
theorem own_cap {w : World} {base g n cap : Nat} {e : TypeId} {xs : List Value} (h : w.ownsRow base e 1 (.slice (some ⟨g, 0, none⟩) n cap) n xs) : n ≤ cap ∧ cap ≤ 9223372036854775807 := by
 rcases h.2 with ⟨h0, _⟩ | ⟨g', cap', cur, hv, _, _, h1, h2, _⟩
 ·cases h0
 ·injection hv with _ _ e3
  subst e3
  unfold maxLen at h2
  exact ⟨h1, by omega⟩
theorem body_row {w : World} {base g cap : Nat} {e : TypeId} {k : Int} {p : List Int} (h : w.ownsRow base e 1 (.slice (some ⟨g, 0, none⟩) (5 + (encI p.length).length + p.length) cap) (5 + (encI p.length).length + p.length) ((markL ++ [k] ++ encI p.length).map (.int .u8) ++ p.map (.int .u8))) :
  Row w w.heap.size (.slice (some ⟨g, 4, none⟩) (5 + (encI p.length).length + p.length - 4) (cap - 4)) (bodyL k p) := by
 obtain ⟨hc, _⟩ := own_cap h
 rw [← List.map_append] at h
 have hd := (Row.of_own h).drop (k := 4) (by simp [markL])
 have e1 : (markL ++ [k] ++ encI p.length ++ p).drop 4 = bodyL k p := by simp [markL, bodyL, encT]
 have e2 : (bodyL k p).length = 5 + (encI p.length).length + p.length - 4 := by simp [bodyL, encT]; omega
 rw [e1, e2, if_neg (by omega), Option.map_some, Go.WideShapes.add_plain] at hd
 exact hd
theorem le4_row (W : World) (t : TypeId) (s : Nat) : Row (W.alloc (.cells #[.int .u8 ((s : Int) % 256), .int .u8 ((s : Int) / 256 % 256), .int .u8 ((s : Int) / 65536 % 256), .int .u8 ((s : Int) / 16777216)] t)) (W.heap.size + 1) (.slice (some ⟨W.heap.size, 0, none⟩) 4 4) (le4 s) :=
 Row.of_cells (xs := le4 s) (by simp [le4]) (by omega) (fun i hi => by
  rw [World.cell?_alloc_new]
  simp [le4] at hi
  rcases (by omega : i = 0 ∨ i = 1 ∨ i = 2 ∨ i = 3) with rfl | rfl | rfl | rfl <;> rfl)
theorem bodyL_byte {k : Int} {p : List Int} (hk : k = 1 ∨ k = 2) (hp : p.length ≤ 4096) (hb : ∀ x ∈ p, 0 ≤ x ∧ x < 256) : ∀ x ∈ bodyL k p, 0 ≤ x ∧ x < 256 := by
 intro x hx
 simp only [bodyL, encT, List.mem_cons, List.mem_append] at hx
 rcases hx with rfl | hx | hx
 ·omega
 ·exact encI_bytes (by omega) x hx
 ·exact hb x hx
def markCells : Array Value := #[.int .u8 199, .int .u8 84, .int .u8 71, .int .u8 1]
theorem four_cells {w : World} {g : Nat} (hg : g < w.heap.size) (hc : ∀ i, w.cell? ⟨g, i, none⟩ = markCells[i]?) : Row w w.heap.size (.slice (some ⟨g, 0, none⟩) 4 4) markL :=
 Row.of_cells (xs := markL) (by simp [markL]) hg (fun i hi => by
  rw [hc i]
  simp [markL] at hi
  rcases (by omega : i = 0 ∨ i = 1 ∨ i = 2 ∨ i = 3) with rfl | rfl | rfl | rfl <;> rfl)
theorem one_cell {w : World} {g : Nat} {y : Int} (hg : g < w.heap.size) (hc : w.cell? ⟨g, 0, none⟩ = some (.int .u8 y)) : Row w w.heap.size (.slice (some ⟨g, 0, none⟩) 1 1) [y] :=
 Row.of_cells (xs := [y]) (by simp) hg (fun i hi => by
  simp at hi
  subst hi
  exact hc)
theorem rows_a (W : World) (y : Int) (g g2 : Nat) (hg : g = W.heap.size) (hg2 : g2 = W.heap.size + 1) :
  Row ((W.alloc (.cells markCells 5 (4, 5))).alloc (.cells #[.int .u8 y] 5)).drew ((W.alloc (.cells markCells 5 (4, 5))).alloc (.cells #[.int .u8 y] 5)).drew.heap.size (.slice (some ⟨g, 0, none⟩) 4 4) markL ∧
  Row ((W.alloc (.cells markCells 5 (4, 5))).alloc (.cells #[.int .u8 y] 5)).drew ((W.alloc (.cells markCells 5 (4, 5))).alloc (.cells #[.int .u8 y] 5)).drew.heap.size (.slice (some ⟨g2, 0, none⟩) 1 1) [y] := by
 subst hg hg2
 refine ⟨four_cells (by simp <;> omega) (fun i => ?_), one_cell (by simp <;> omega) ?_⟩
 ·show ((W.alloc (.cells markCells 5 (4, 5))).alloc (.cells #[.int .u8 y] 5)).cell? _ = _
  rw [World.cell?_alloc_lt _ _ _ (by simp), World.cell?_alloc_mark]
 ·show ((W.alloc (.cells markCells 5 (4, 5))).alloc (.cells #[.int .u8 y] 5)).cell? _ = _
  rw [show W.heap.size + 1 = (W.alloc (.cells markCells 5 (4, 5))).heap.size by simp, World.cell?_alloc_new]
  rfl
theorem rows_b (W : World) (y : Int) (g g2 : Nat) (hg : g = W.heap.size) (hg2 : g2 = W.heap.size + 1) :
  Row ((W.alloc (.cells #[.int .u8 y] 5)).alloc (.cells markCells 5 (4, 5))).drew ((W.alloc (.cells #[.int .u8 y] 5)).alloc (.cells markCells 5 (4, 5))).drew.heap.size (.slice (some ⟨g2, 0, none⟩) 4 4) markL ∧
  Row ((W.alloc (.cells #[.int .u8 y] 5)).alloc (.cells markCells 5 (4, 5))).drew ((W.alloc (.cells #[.int .u8 y] 5)).alloc (.cells markCells 5 (4, 5))).drew.heap.size (.slice (some ⟨g, 0, none⟩) 1 1) [y] := by
 subst hg hg2
 refine ⟨four_cells (by simp <;> omega) (fun i => ?_), one_cell (by simp <;> omega) ?_⟩
 ·show ((W.alloc (.cells #[.int .u8 y] 5)).alloc (.cells markCells 5 (4, 5))).cell? _ = _
  rw [show W.heap.size + 1 = (W.alloc (.cells #[.int .u8 y] 5)).heap.size by simp, World.cell?_alloc_mark]
 ·show ((W.alloc (.cells #[.int .u8 y] 5)).alloc (.cells markCells 5 (4, 5))).cell? _ = _
  rw [World.cell?_alloc_lt _ _ _ (by simp), World.cell?_alloc_new]
  rfl
theorem fput_any (k : Int) (hk : k = 1 ∨ k = 2) (A : Option Addr) (c : Nat) (p : List Int) (hp : p.length ≤ 4096) (hb : ∀ x ∈ p, 0 ≤ x ∧ x < 256) (w : World) (hrow : Row w w.heap.size (.slice A p.length c) p) :
  Calls Tryz.prog 209 #[.agg #[.int .i64 k, .slice A p.length c]] w fun e w' => ∃ cap g, e = .returned (.tuple #[.slice (some ⟨g, 0, none⟩) (encFr k p).length cap, .int .i64 0]) ∧
   w'.ownsRow w.heap.size 5 1 (.slice (some ⟨g, 0, none⟩) (encFr k p).length cap) (encFr k p).length ((encFr k p).map (.int .u8)) ∧ Below w.heap.size w w' := by
 have HK := hid (fun W => known_yes hk W)
 have HROW := hid hrow; clear hrow
 have HBP := hid hb; clear hb
 obtain ⟨i0, hi, hz0, hz1, hz2⟩ := info_parts Tryz.infoU8
 have hk8 : IntKind.u8.wrap k = k := by rw [IntKind.wrap_u8]; omega
 have kc := fun (w : World) (C : Array Value) (n c g : Nat) (h : g = w.heap.size) => Joins.run_convert_bytes_const_at (P := Tryz.prog) w 22 5 C n c g h Tryz.underlying22 Tryz.underlying5
 have kcd : ∀ (w : World) (C : Array Value) (n c g : Nat), g = w.heap.size → (convert 22 22 (.slice (some ⟨g, 0, none⟩) n c)).run Tryz.prog (w.alloc (.cells C 5)).drew = .ok (.slice (some ⟨g, 0, none⟩) n c) (w.alloc (.cells C 5 (C.size, C.size + 1))).drew :=
  fun w C n c g h => kc w.drew C n c g h
 have kp := fun (w : World) (C : Array Value) (o : Obj) (n c g : Nat) (h : g = w.heap.size) => run_convert_const_past (P := Tryz.prog) w 22 5 C o n c g h Tryz.underlying22 Tryz.underlying5
 have kpd : ∀ (w : World) (C : Array Value) (o : Obj) (n c g : Nat), g = w.heap.size → (convert 22 22 (.slice (some ⟨g, 0, none⟩) n c)).run Tryz.prog ((w.alloc (.cells C 5)).alloc o).drew = .ok (.slice (some ⟨g, 0, none⟩) n c) ((w.alloc (.cells C 5 (C.size, C.size + 1))).alloc o).drew :=
  fun w C o n c g h => kp w.drew C o n c g h
 have hput : ∀ (W : World) (A : Option Addr) (c : Nat), Row W W.heap.size (.slice A 5 c) (markL ++ [k]) → Calls Tryz.prog 137 #[.slice A 5 c, .int .u64 p.length] W fun e W' => ∃ v, e = .returned v ∧ W'.ownsRow W.heap.size 5 1 v (5 + (encI p.length).length) ((markL ++ [k] ++ encI p.length).map (.int .u8)) ∧ Below W.heap.size W W' :=
  fun W A c h => put_any A c (markL ++ [k]) p.length (by omega) (by simp [markL]) W h
 have HPUT := hid hput
 have hu64 : IntKind.u64.wrap (p.length : Int) = (p.length : Int) := by rw [IntKind.wrap_u64]; omega
 clear hput
 have hbody := bodyL_byte hk hp HBP.out
 have hsl := sumX_lt hbody
 have hs1 := fun W v h => sum_any v [bodyL k p] W h (by intro l hl; simp at hl; subst hl; exact hbody)
 rw [show [bodyL k p].flatten = bodyL k p by simp] at hs1
 have HS1 := hid hs1
 have HF4 := hid (fun W => four_any (sumX (bodyL k p)) hsl W)
 simp only [le4V] at HF4
 have HSL := hid hsl
 clear hbody hs1 hsl
 go_enter Tryz.func209, Tryz.ntmps209
 go_wp2_with fail
 refine (HK.out _).mono ?_
 rintro e w1 ⟨rfl, rfl⟩
 go_wp2_with fail
 go_region_held_law (fun W => W.cell? ⟨w.heap.size, 0, none⟩ = some (.int .i64 k) ∧ W.cell? ⟨w.heap.size, 1, none⟩ = some (.slice A p.length c))
  (first | go_keep | exact ⟨(hb4.cell (p := ⟨w.heap.size, 0, none⟩) (by have := hb3.size; simp at this; simp only; omega)).trans ((hb3.cell (p := ⟨w.heap.size, 0, none⟩) (by simp <;> omega)).trans (by go_simp)), (hb4.cell (p := ⟨w.heap.size, 1, none⟩) (by have := hb3.size; simp at this; simp only; omega)).trans ((hb3.cell (p := ⟨w.heap.size, 1, none⟩) (by simp <;> omega)).trans (by go_simp))⟩ | exact ⟨(hb3.cell (p := ⟨w.heap.size, 0, none⟩) (by simp <;> omega)).trans (by go_simp), (hb3.cell (p := ⟨w.heap.size, 1, none⟩) (by simp <;> omega)).trans (by go_simp)⟩)
  (first
   | (refine step_append_full (by rfl) (.tmp 17) (.tmp 21) 22 (by rfl) 5 i0 (.int .u8 0) Tryz.underlying22 hi hz0 hz1 hz2 rfl _ _ (some ⟨w.heap.size + 1, 0, none⟩) (some ⟨w.heap.size + 1 + 1, 0, none⟩) 4 1 4 1 markL [k] (by rfl) (by rfl) rfl rfl (rows_a (w.alloc _) k (w.heap.size + 1) (w.heap.size + 1 + 1) (by simp) (by simp)).1 (rows_a (w.alloc _) k (w.heap.size + 1) (w.heap.size + 1 + 1) (by simp) (by simp)).2 (by omega) (by omega) (by omega) (by omega) (w.heap.size + 1 + 1 + 1) (by simp) ?_; intro cap3 w3 hown3 hb3)
   | (refine step_append_full (by rfl) (.tmp 17) (.tmp 21) 22 (by rfl) 5 i0 (.int .u8 0) Tryz.underlying22 hi hz0 hz1 hz2 rfl _ _ (some ⟨w.heap.size + 1 + 1, 0, none⟩) (some ⟨w.heap.size + 1, 0, none⟩) 4 1 4 1 markL [k] (by rfl) (by rfl) rfl rfl (rows_b (w.alloc _) k (w.heap.size + 1) (w.heap.size + 1 + 1) (by simp) (by simp)).1 (rows_b (w.alloc _) k (w.heap.size + 1) (w.heap.size + 1 + 1) (by simp) (by simp)).2 (by omega) (by omega) (by omega) (by omega) (w.heap.size + 1 + 1 + 1) (by simp) ?_; intro cap3 w3 hown3 hb3)
   | (go_at_call 137; (with_reducible refine (HPUT.out _ _ _ (Row.of_own hown3)).mono ?_); rintro e w4 ⟨v4, rfl, hown4, hb4⟩))
 all_goals
  have hz3 : w.heap.size ≤ w3.heap.size := by have := hb3.size; simp at this; omega
  have bw3 : Below w.heap.size w w3 := ((((Below.refl _ _).alloc (Nat.le_refl _) _).alloc (by simp) _).alloc (by simp <;> omega) _).drew.trans (hb3.mono (by simp <;> omega))
  have bw4 : Below w.heap.size w w4 := bw3.trans (hb4.mono hz3)
  have hown : w4.ownsRow w.heap.size 5 1 v4 (5 + (encI p.length).length) ((markL ++ [k] ++ encI p.length).map (.int .u8)) := Joins.ownsRow_le hown4 hz3
  have hz31 : w.heap.size < w3.heap.size := by have := hb3.size; simp at this; omega
  have hc1 : w4.cell? ⟨w.heap.size, 1, none⟩ = some (.slice A p.length c) := (hb4.cell (p := ⟨w.heap.size, 1, none⟩) hz31).trans ((hb3.cell (p := ⟨w.heap.size, 1, none⟩) (by simp <;> omega)).trans (by go_simp))
  have HOWN := hid hown
  have HBW4 := hid bw4
  have HZ4 := hid (show w.heap.size < w4.heap.size from Nat.lt_of_lt_of_le hz31 hb4.size)
  clear hz3 hz31 bw3 bw4 hown hown4 hown3 hb4 hb3
  have hlen := encI_ten (n := p.length) (by omega)
  obtain ⟨l1, l2⟩ := hlen
  obtain ⟨g4, cap4, hv4, _, _⟩ := HOWN.out.form (by omega)
  subst hv4
  go_wp2_with (at_builtin; (refine wpList_append_row _ rfl _ _ 22 rfl w.heap.size 5 i0 (.int .u8 0) Tryz.underlying22 hi hz0 hz1 hz2 rfl _ (5 + (encI p.length).length) _ (by rfl) HOWN.out w.heap.size _ p rfl (HROW.out.below HBW4.out) (by omega) (Nat.le_of_lt HZ4.out) ?_; intro v5 w5 hown5 hg5 hn5; obtain ⟨g5, cap5, hv5, hgb5, hgs5⟩ := hown5.form (by omega); subst hv5; obtain ⟨hcp5, hcm5⟩ := own_cap hown5; have hcp6 : (4 : Int) < (cap5 : Int) := (by omega); have HOWN5 := hid hown5; have HG5 := hid hg5; have hcp7 : 4 < cap5 := (by omega); clear hown5 hg5 hn5))
  have bw5 : Below w.heap.size w w5 := HBW4.out.grown HG5.out (Nat.le_of_lt HZ4.out) (fun j hj => (HOWN.out.lt j hj).1)
  have HBW5 := hid bw5
  have HZ5 := hid (show w.heap.size ≤ w5.heap.size from bw5.size)
  clear bw5
  refine (HS1.out _ _ (Parts.one (by simp) (by simp [World.cell?_alloc_new]) (((body_row HOWN5.out).below ((Below.refl _ _).alloc (Nat.le_refl _) _)).more (by simp)))).mono ?_
  rintro e w6 ⟨rfl, rfl⟩
  go_wp2_with fail
  refine (HF4.out _).mono ?_
  rintro e w7 ⟨rfl, hb7⟩
  have hz7 := hb7.size
  rw [World.size_alloc] at hz7
  have HOWN7 := hid (own_below (HOWN5.out.alloc _) hb7)
  have HBW7 := hid ((HBW5.out.alloc HZ5.out _).trans (hb7.mono (by simp; have := HZ5.out; omega)))
  have hz75 : w.heap.size ≤ w7.heap.size := HBW7.out.size
  clear hb7
  go_wp2_with (at_builtin; refine wpList_append_row _ rfl _ _ 22 rfl w.heap.size 5 i0 (.int .u8 0) Tryz.underlying22 hi hz0 hz1 hz2 rfl _ (5 + (encI p.length).length + p.length) _ (by rfl) (HOWN7.out.alloc _) (w7.heap.size + 1) _ (le4 (sumX (bodyL k p))) rfl (le4_row w7 _ _) (by simp [le4]; omega) (by simp; omega) ?_; intro v8 w8 hown8 hg8 hn8; obtain ⟨g8, cap8, hv8, hgb8, hgs8⟩ := hown8.form (by omega); subst hv8; have HOWN8 := hid hown8; have HG8 := hid hg8; clear hown8 hg8 hn8)
  have hel : (encFr k p).length = 5 + (encI p.length).length + p.length + (le4 (sumX (bodyL k p))).length := by rw [encFr_length, le4_length]; omega
  have hec : encFr k p = markL ++ [k] ++ encI p.length ++ p ++ le4 (sumX (bodyL k p)) := by simp [encFr, bodyL, encT]
  have HEL := hid hel
  have HEC := hid hec
  clear hel hec
  go_ret2
  refine ⟨cap8, g8, by rw [HEL.out]; rfl, ?_, ?_⟩
  ·have h8 := HOWN8.out
   rw [← HEL.out, ← List.map_append, ← List.map_append, ← HEC.out] at h8
   exact h8
  ·exact (HBW7.out.alloc hz75 _).grown HG8.out (by simp; omega) (fun j hj => (HOWN7.out.lt j hj).1)
theorem own_shape {w : World} {base : Nat} {e : TypeId} {size n : Nat} {v : Value} {us : List Value} (h : w.ownsRow base e size v n us) : ∃ A c, v = .slice A n c := by
 rcases h.2 with ⟨rfl, rfl⟩ | ⟨g, c, _, rfl, _⟩
 ·exact ⟨none, 0, rfl⟩
 ·exact ⟨_, c, rfl⟩
def gapP (a r : Nat) : List Pt := if a < r then [⟨skipS a r, none, 0⟩] else []
theorem gapP_yes {a r : Nat} (h : a < r) : gapP a r = [⟨skipS a r, none, 0⟩] := if_pos h
theorem gapP_no {a r : Nat} (h : ¬ a < r) : gapP a r = [] := if_neg h
theorem gapP_new (n a r : Nat) : NewP n (gapP a r) := by
 intro p hp a' e
 unfold gapP at hp
 split at hp
 ·obtain rfl : p = _ := by simpa using hp
  cases e
 ·simp at hp
theorem gap_row (W : World) (N : Nat) (hN : W.heap.size = N) (a r : Nat) (x : Int) (hx : x = ((r - a : Nat) : Int)) :
  SegRow (W.alloc (.cells #[.int .i64 a, .int .i64 x, .bool false, .int .i64 0, .slice none 0 0] 46)) (W.alloc (.cells #[.int .i64 a, .int .i64 x, .bool false, .int .i64 0, .slice none 0 0] 46)).heap.size (.slice (some ⟨N, 0, none⟩) 1 1) [⟨skipS a r, none, 0⟩] := by
 subst hN hx
 have h : Held (W.alloc (.cells #[.int .i64 a, .int .i64 ((r - a : Nat) : Int), .bool false, .int .i64 0, .slice none 0 0] 46)) W.heap.size 46 #[.int .i64 a, .int .i64 ((r - a : Nat) : Int), .bool false, .int .i64 0, .slice none 0 0] := heap_alloc_new W _
 refine one_row _ _ (Nat.le_refl _) (by unfold maxLen; omega) _ (by simp) (fun j u hj => ?_) (Row.nil _ _)
 rw [h.cell j]
 simpa [Pt.cells, skipS] using hj
abbrev FeedAt (w : World) (g : Nat) (vh : Value) (a tot : Nat) (cl : Bool) : Prop := Held w g 146 #[vh, .int .i64 a, .int .i64 tot, .bool cl]
theorem FeedAt.nob {w : World} {g : Nat} {vh : Value} {a tot : Nat} {cl : Bool} (hf : FeedAt w g vh a tot cl) (hvh : ∀ n, vh ≠ .int .u8 n) (i : Nat) (n : Int) : w.cell? ⟨g, i, none⟩ ≠ some (.int .u8 n) := by
 rw [hf.cell i]
 match i with
 | 0 => simpa using hvh n
 | 1 => simp
 | 2 => simp
 | 3 => simp
 | i + 4 => simp
theorem app_but {w W0 w' : World} {g : Nat} {vh : Value} {a tot : Nat} {cl : Bool} {n0 : Nat} {v : Value} {ps : List Pt} (hf : FeedAt w g vh a tot cl) (hs : Segs w n0 v ps) (hb : Below w.heap.size w W0) (hg : W0.grownBy w' v.ownBlock) :
  But w w' v.ownBlock g ∧ FeedAt w' g vh a tot cl := by
 refine ⟨(But.of_below hb _ g).trans (But.of_row hg g) (fun j e => .inl e), ?_⟩
 refine ((hg.block g (Nat.lt_of_lt_of_le hf.lt hb.size) (fun e => ?_)).trans (hb.block g hf.lt)).trans hf
 rcases hs.apart hf (by decide) with h | h
 ·rw [h] at e; cases e
 ·exact h e.symm
theorem Segs.past {w : World} {n0 : Nat} {v : Value} {ps : List Pt} {g : Nat} {vh : Value} {a tot : Nat} {cl : Bool} (hs : Segs w n0 v ps) (hf : FeedAt w g vh a tot cl) (hvh : ∀ n, vh ≠ .int .u8 n) (i : Nat) (u : Value) : Segs (w.setCell ⟨g, i, none⟩ u) n0 v ps :=
 hs.kept (grown_put w g i u) (hs.apart hf (by decide)) fun k e j n => by
  obtain rfl : g = k := by injection e
  exact hf.nob hvh j n
theorem skip_any (w : World) (g : Nat) (vh : Value) (a r tot : Nat) (cl : Bool) (hf : FeedAt w g vh a tot cl) (n0 : Nat) (v : Value) (ps : List Pt) (hs : Segs w n0 v ps) (hn0 : n0 ≤ w.heap.size)
  (ha : a ≤ 100000000000) (hr : r ≤ 100000000000) (hps : ps.length ≤ 100000000000) (hvh : ∀ n, vh ≠ .int .u8 n) :
  Calls Tryz.prog 77 #[.pointer (some ⟨g, 0, none⟩), v, .int .i64 r] w fun e w' =>
   ∃ v', e = .returned v' ∧ Segs w' n0 v' (ps ++ gapP a r) ∧ FeedAt w' g vh (max a r) tot cl ∧ But w w' v.ownBlock g := by
 obtain ⟨i0, hi, hz0, hz1, hz2⟩ := info_parts Tryz.infoSeg
 obtain ⟨A, c, rfl, hc, hcm⟩ := hs.form
 have hg := hf.lt
 have hc1 := hf.cell 1
 simp at hc1
 have hf1 := hf.frozen 1
 have r0 : (0 : Int) ≤ r := by omega
 have r1 : (r : Int) ≤ 100000000000 := by omega
 have a0 : (0 : Int) ≤ a := by omega
 have a1 : (a : Int) ≤ 100000000000 := by omega
 have HF := hid hf
 have HS := hid hs
 have HSB := hid (fun W (h : Below w.heap.size w W) => hs.below h)
 clear hf hs
 by_cases hlt : a < r
 ·have hli : (a : Int) < r := by omega
  rw [gapP_yes hlt, Nat.max_eq_right (Nat.le_of_lt hlt)]
  have HW := hid (show IntKind.i64.wrap ((r : Int) - a) = ((r - a : Nat) : Int) by rw [IntKind.wrap_i64]; omega)
  go_enter Tryz.func77, Tryz.ntmps77
  go_wp2_with fail
  go_region_law (first | (refine step_append_segs (by rfl) (.tmp 13) (.tmp 25) 42 (by rfl) i0 _ Tryz.underlying42 hi hz0 hz1 (by omega) rfl n0 (.slice A ps.length c) ps (by rfl) (HSB.out _ (by first | exact (Below.refl _ _).alloc (Nat.le_refl _) _ | exact ((Below.refl _ _).drew).alloc (Nat.le_refl _) _)) (.slice (some ⟨w.heap.size, 0, none⟩) 1 1) [⟨skipS a r, none, 0⟩] (by rfl) (gap_row _ _ rfl a r _ HW.out) (by simp; omega) (by simp; omega) ?_; intro v' w' hs' hg'))
  all_goals
   obtain ⟨hbut, hf'⟩ := app_but HF.out HS.out (by first | exact ((Below.refl _ _).alloc (Nat.le_refl _) _).drew | exact ((Below.refl _ _).drew).alloc (Nat.le_refl _) _) hg'
   obtain ⟨A1, c1, ev, _, _⟩ := hs'.form
   rw [List.length_append, List.length_singleton] at ev
   subst ev
   have hg1 := hf'.lt
   have hc1' := hf'.cell 1
   simp at hc1'
   have hf1' := hf'.frozen 1
   have HF1 := hid hf'
   have HS1 := hid hs'
   have HBUT := hid hbut
   clear hf' hs' hbut hg' hc1 hf1
   go_wp2_with fail
   go_ret
   exact ⟨_, rfl, HS1.out.past HF1.out hvh 1 _, by simpa using HF1.out.put 1 (.int .i64 r), HBUT.out.trans (But.of_one (grown_put w' g 1 _) _) (fun j e => .inl e)⟩
 ·have hli : ¬ (a : Int) < r := by omega
  rw [gapP_no hlt, Nat.max_eq_left (by omega), List.append_nil]
  go_enter Tryz.func77, Tryz.ntmps77
  go_wp2_with fail
  go_ret
  exact ⟨_, rfl, HS.out, HF.out, But.refl _ _ _⟩
theorem own_feed {w : World} {g : Nat} {vx : Value} {a tot : Nat} {cl : Bool} {n0 n : Nat} {v : Value} {us : List Value} (hf : FeedAt w g vx a tot cl) (h : w.ownsRow n0 5 1 v n us) : v.ownBlock = none ∨ v.ownBlock ≠ some g := by
 rcases h.2 with ⟨rfl, _⟩ | ⟨g', cap, cur, rfl, _, hgb, _⟩
 ·exact .inl rfl
 ·refine .inr fun e => ?_
  obtain rfl : g' = g := by simpa [Value.ownBlock] using e
  rw [show w.heap[g']? = _ from hf] at hgb
  injection hgb with hgb
  injection hgb with _ e3 _
  revert e3
  decide
theorem feed_but {w w' : World} {g : Nat} {vx : Value} {a tot : Nat} {cl : Bool} {n0 n : Nat} {v : Value} {us : List Value} (hf : FeedAt w g vx a tot cl) (h : w.ownsRow n0 5 1 v n us) (hg : w.grownBy w' v.ownBlock) : FeedAt w' g vx a tot cl :=
 hf.grown hg fun e => (own_feed hf h).elim (fun h => by rw [h] at e; cases e) (fun h => h e.symm)
theorem hold_any (w : World) (g : Nat) (A : Option Addr) (n c a tot : Nat) (cl : Bool) (hf : FeedAt w g (.slice A n c) a tot cl) (n0 : Nat) (us : List Value) (hown : w.ownsRow n0 5 1 (.slice A n c) n us) (hn0 : n0 ≤ w.heap.size)
  (Ar : Option Addr) (nr cr : Nat) (ys : List Int) (hys : ys.length ≤ 100000000000) (hr : Row w w.heap.size (.slice Ar nr cr) ys) (hap : ∀ x, Ar = some x → (.slice A n c : Value).ownBlock ≠ some x.block) :
  Calls Tryz.prog 74 #[.pointer (some ⟨g, 0, none⟩), .slice Ar nr cr] w fun e w' =>
   ∃ v', e = .returned (.tuple #[]) ∧ FeedAt w' g v' a tot cl ∧ w'.ownsRow n0 5 1 v' ys.length (ys.map (.int .u8)) ∧ But w w' (.slice A n c : Value).ownBlock g ∧
    (v'.ownBlock = (.slice A n c : Value).ownBlock ∨ ∃ j, v'.ownBlock = some j ∧ w.heap.size ≤ j) := by
 obtain ⟨i0, hi, hz0, hz1, hz2⟩ := info_parts Tryz.infoU8
 obtain ⟨w1, hcl, hg1, us', hown1⟩ := run_clear_row (P := Tryz.prog) w n0 22 0 5 Tryz.underlying22 (fun w => by simp [zeroValue, typeInfo, hi, hz0]) (.slice A n c) n us hown
 obtain ⟨v0, hv0, hown0, hob⟩ := own_zero hown1
 have hv0' := hv0 A c rfl
 subst hv0'
 have hf1 : FeedAt w1 g (.slice A n c) a tot cl := feed_but hf hown hg1
 have hb1 := But.of_row hg1 g
 have hr1 : Row w1 w1.heap.size (.slice Ar nr cr) ys := (hb1.bytes hr (hf.nob (by simp)) hap).more hg1.size
 obtain ⟨_, hn1, hn2⟩ : ∃ _ : True, n ≤ c ∧ c ≤ 9223372036854775807 := by
  rcases hown.2 with ⟨e, h0⟩ | ⟨_, _, _, e, _, _, h1, h2, _⟩
  ·injection e with _ _ e3; exact ⟨trivial, by omega, by omega⟩
  ·injection e with _ _ e3; unfold maxLen at h2; exact ⟨trivial, by omega, by omega⟩
 have hg := hf.lt
 have hgl1 := hf1.lt
 have x0 := hf.cell 0
 have y0 := hf1.cell 0
 simp at x0 y0
 have hsz : w.heap.size ≤ w1.heap.size := hg1.size
 have HF1 := hid hf1
 have HR1 := hid hr1
 have HO := hid hown0
 have HB1 := hid hb1
 have HOB := hid hob
 clear hf hown hr hap hown1 hown0 hv0 hf1 hb1 hr1 hg1 hob
 go_enter Tryz.func74, Tryz.ntmps74
 go_wp2_with (at_builtin; (refine wpList_append_row_at (by rfl) (.tmp 13) (.tmp 14) 22 (by rfl) n0 5 i0 (.int .u8 0) Tryz.underlying22 hi hz0 hz1 hz2 rfl (.slice A 0 c) 0 [] (by rfl) HO.out w1.heap.size (.slice Ar nr cr) ys (by rfl) HR1.out (by omega) (by omega) ?_; intro v' w2 hown2 hg2 hat2; obtain ⟨A2, c2, rfl⟩ := own_shape hown2; have hf2 := feed_but HF1.out HO.out hg2; have hgl2 := hf2.lt; have x2 := hf2.cell 0; simp at x2; have f2 := hf2.frozen 0; rw [Nat.zero_add] at hown2 hat2 ⊢; rw [List.nil_append] at hown2; have HF2 := hid hf2; have HO2 := hid hown2; have HG2 := hid hg2; have HAT := hid hat2; clear hf2 hown2 hg2 hat2))
 go_end0
 have hob2 : (.slice A 0 c : Value).ownBlock = (.slice A n c : Value).ownBlock := HOB.out
 have hb2 := HB1.out.trans (But.of_row HG2.out g) (fun j e => .inl (by rw [← hob2]; exact e))
 have hset := grown_put w2 g 0 (.slice A2 ys.length c2)
 refine ⟨.slice A2 ys.length c2, rfl, by simpa using HF2.out.put 0 (.slice A2 ys.length c2), HO2.out.kept hset ?_, hb2.trans (But.of_one hset _) (fun j e => .inl e), ?_⟩
 ·exact own_feed HF2.out HO2.out
 ·rcases HAT.out with h | h
  ·exact .inl (Eq.trans h hob2)
  ·exact .inr ⟨w1.heap.size, h, hsz⟩
theorem fnew_any (w : World) : Calls Tryz.prog 48 #[] w fun e w' => e = .returned (.pointer (some ⟨w.heap.size, 0, none⟩)) ∧ FeedAt w' w.heap.size (.slice none 0 0) 0 0 false ∧ Below w.heap.size w w' := by
 go_enter Tryz.func48, Tryz.ntmps48
 go_wp2_with fail
 go_ret
 exact ⟨rfl, heap_alloc_new w _, (Below.refl _ _).alloc (Nat.le_refl _) _⟩
def Bytes (xs : List Int) : Prop := ∀ x ∈ xs, 0 ≤ x ∧ x < 256
theorem Bytes.append {xs ys : List Int} (h : Bytes xs) (k : Bytes ys) : Bytes (xs ++ ys) := fun x hx => (List.mem_append.1 hx).elim (h x) (k x)
def Settled (xs : List Int) (a o : Nat) : Prop := ∀ j, a ≤ j → j < o → (getFr (xs.drop j)).2.2 ≠ 0 ∧ (getFr (xs.drop j)).2.2 ≠ 2
theorem Settled.nil (xs : List Int) (a : Nat) : Settled xs a a := fun j h1 h2 => by omega
theorem Settled.trans {xs : List Int} {a b c : Nat} (h : Settled xs a b) (k : Settled xs b c) : Settled xs a c := fun j h1 h2 => by
 rcases Nat.lt_or_ge j b with h3 | h3
 ·exact h j h1 h3
 ·exact k j h3 h2
theorem Settled.give {xs : List Int} {a o : Nat} (ys : List Int) (h : Settled xs a o) (hb : Bytes xs) (ho : o ≤ xs.length) : Settled (xs ++ ys) a o := fun j h1 h2 => by
 rw [drop_longer ys (by omega) hb (h j h1 h2).2]
 exact h j h1 h2
theorem Settled.no {xs : List Int} {a o : Nat} (h : Settled xs a o) : ∀ j, a ≤ j → j < o → ¬ Begins xs j := fun j h1 h2 => (h j h1 h2).1
theorem begins_give {xs : List Int} {r : Nat} (ys : List Int) (h : Begins xs r) (hb : Bytes xs) (hr : r ≤ xs.length) : getFr ((xs ++ ys).drop r) = getFr (xs.drop r) :=
 drop_longer ys hr hb (by unfold Begins at h; rw [h]; simp)
theorem frS_give {xs : List Int} {r : Nat} (ys : List Int) (h : Begins xs r) (hb : Bytes xs) (hr : r ≤ xs.length) : frS (xs ++ ys) r = frS xs r := by
 unfold frS
 rw [begins_give ys h hb hr]
theorem open_some {xs : List Int} {a r : Nat} (h : nextI true xs a = (r : Int)) : a ≤ r ∧ r < xs.length ∧ ((getFr (xs.drop r)).2.2 = 0 ∨ (getFr (xs.drop r)).2.2 = 2) ∧ Settled xs a r := by
 rcases first_cases (begI true xs) (xs.length - (a : Int).toNat) (a : Int).toNat with ⟨e, _⟩ | ⟨q, e, h1, h2, h3, h4⟩
 ·unfold nextI at h
  omega
 ·unfold nextI at h
  obtain rfl : q = r := by omega
  rw [Int.toNat_natCast] at h1 h2 h4
  refine ⟨h1, by omega, by simpa [begI] using h3, fun j hj hj2 => ?_⟩
  have := h4 j hj hj2
  simpa [begI] using this
theorem open_no {xs : List Int} {a : Nat} (h : nextI true xs a < 0) : Settled xs a xs.length := by
 rcases first_cases (begI true xs) (xs.length - (a : Int).toNat) (a : Int).toNat with ⟨_, hn⟩ | ⟨q, e, _⟩
 ·rw [Int.toNat_natCast] at hn
  intro j hj hj2
  have := hn j hj (by omega)
  simpa [begI] using this
 ·unfold nextI at h
  omega
def Sure (xs : List Int) (T : List Sg) (a : Nat) : Prop := a ≤ xs.length ∧ ∀ more, Bytes more → Ahead (xs ++ more) T a
theorem Sure.start : Sure [] [] 0 := ⟨Nat.zero_le _, fun _ _ => Ahead.start _⟩
theorem Sure.give {xs : List Int} {T : List Sg} {a : Nat} (h : Sure xs T a) {ys : List Int} (hy : Bytes ys) : Sure (xs ++ ys) T a :=
 ⟨by rw [List.length_append]; have := h.1; omega, fun more hm => by rw [List.append_assoc]; exact h.2 (ys ++ more) (hy.append hm)⟩
theorem Sure.now {xs : List Int} {T : List Sg} {a : Nat} (h : Sure xs T a) : Ahead xs T a := by
 have := h.2 [] (fun x hx => by simp at hx)
 rwa [List.append_nil] at this
theorem Sure.fr {xs : List Int} {T : List Sg} {a : Nat} (h : Sure xs T a) (hb : Bytes xs) (hg : Begins xs a) : Sure xs (T ++ [frS xs a]) (a + (getFr (xs.drop a)).2.1) := by
 have hi := begins_in hb hg
 refine ⟨hi.2.1, fun more hm => ?_⟩
 have e := begins_give more hg hb h.1
 have hg' : Begins (xs ++ more) a := by unfold Begins; rw [e]; exact hg
 have := (h.2 more hm).fr (by rw [List.length_append]; omega) hg'
 rw [frS_give more hg hb h.1, e] at this
 exact this
theorem Sure.gap {xs : List Int} {T : List Sg} {a r : Nat} (h : Sure xs T a) (hb : Bytes xs) (hr : a < r) (hs : Settled xs a r) (hg : Begins xs r) : Sure xs ((T ++ [skipS a r]) ++ [frS xs r]) (r + (getFr (xs.drop r)).2.1) := by
 have hi := begins_in hb hg
 have hrl : r ≤ xs.length := by omega
 refine ⟨hi.2.1, fun more hm => ?_⟩
 have e := begins_give more hg hb hrl
 have hg' : Begins (xs ++ more) r := by unfold Begins; rw [e]; exact hg
 have := (h.2 more hm).gap hr (by rw [List.length_append]; omega) (hs.give more hb hrl).no hg'
 rw [frS_give more hg hb hrl, e] at this
 exact this
theorem settled_held {xs : List Int} {o a b : Nat} (h : Settled (xs.drop o) a b) : Settled xs (o + a) (o + b) := fun j h1 h2 => by
 have := h (j - o) (by omega) (by omega)
 rwa [List.drop_drop, show o + (j - o) = j by omega] at this
def gapS (a r : Nat) : List Sg := if a < r then [skipS a r] else []
theorem Sure.step {xs : List Int} {T : List Sg} {a r : Nat} (h : Sure xs T a) (hb : Bytes xs) (ha : a ≤ r) (hs : Settled xs a r) (hg : Begins xs r) : Sure xs ((T ++ gapS a r) ++ [frS xs r]) (r + (getFr (xs.drop r)).2.1) := by
 unfold gapS
 split
 ·exact h.gap hb (by assumption) hs hg
 ·obtain rfl : a = r := by omega
  rw [List.append_nil]
  exact h.fr hb hg
theorem Ahead.step {xs : List Int} {T : List Sg} {a r : Nat} (h : Ahead xs T a) (ha : a ≤ r) (hr : r < xs.length) (hn : ∀ j, a ≤ j → j < r → ¬ Begins xs j) (hg : Begins xs r) : Ahead xs ((T ++ gapS a r) ++ [frS xs r]) (r + (getFr (xs.drop r)).2.1) := by
 unfold gapS
 split
 ·exact h.gap (by assumption) hr hn hg
 ·obtain rfl : a = r := by omega
  rw [List.append_nil]
  exact h.fr hr hg
theorem Ahead.end {xs : List Int} {T : List Sg} {a : Nat} (h : Ahead xs T a) (hn : ∀ j, a ≤ j → j < xs.length → ¬ Begins xs j) : PartsS xs 0 (T ++ gapS a xs.length) := by
 unfold gapS
 split
 ·exact h.last (by assumption) hn
 ·rw [List.append_nil]
  exact h.done (by omega)
def Fd (xs : List Int) (T : List Sg) (a o : Nat) : Prop := a ≤ o ∧ o ≤ xs.length ∧ Sure xs T a ∧ Settled xs a o ∧ (o = xs.length ∨ (getFr (xs.drop o)).2.2 = 2)
theorem Fd.start : Fd [] [] 0 0 := ⟨Nat.le_refl _, Nat.le_refl _, Sure.start, Settled.nil _ _, .inl rfl⟩
theorem nextI_ways (op : Bool) (xs : List Int) : nextI op xs 0 = -1 ∨ ∃ r : Nat, nextI op xs 0 = (r : Int) ∧ r < xs.length := by
 rcases first_cases (begI op xs) (xs.length - (0 : Int).toNat) (0 : Int).toNat with ⟨e, _⟩ | ⟨q, e, h1, h2, _⟩
 ·exact .inl e
 ·exact .inr ⟨q, e, by simp at h2; omega⟩
theorem begins_drop0 (xs : List Int) (o r : Nat) : Begins (xs.drop o) r ↔ Begins xs (o + r) := by
 unfold Begins
 rw [List.drop_drop]
theorem open_here {xs : List Int} {o r : Nat} (h : nextI true (xs.drop o) 0 = (r : Int)) : Settled xs o (o + r) ∧ ((getFr (xs.drop (o + r))).2.2 = 0 ∨ (getFr (xs.drop (o + r))).2.2 = 2) := by
 obtain ⟨_, _, h3, h4⟩ := open_some (a := 0) h
 have := settled_held h4
 rw [List.drop_drop] at h3
 exact ⟨by simpa using this, h3⟩
theorem open_gone {xs : List Int} {o : Nat} (ho : o ≤ xs.length) (h : nextI true (xs.drop o) 0 = -1) : Settled xs o xs.length := by
 have := settled_held (open_no (a := 0) (xs := xs.drop o) (by show nextI true (xs.drop o) 0 < 0; omega))
 rw [List.length_drop] at this
 simpa [show o + (xs.length - o) = xs.length by omega] using this
theorem next_here {xs : List Int} {o r : Nat} (h : nextI false (xs.drop o) 0 = (r : Int)) : Begins xs (o + r) ∧ ∀ j, o ≤ j → j < o + r → ¬ Begins xs j := by
 obtain ⟨_, _, h3, h4⟩ := next_some (a := 0) h
 rw [begins_drop0] at h3
 refine ⟨h3, fun j h1 h2 => ?_⟩
 have := h4 (j - o) (Nat.zero_le _) (by omega)
 rwa [begins_drop0, show o + (j - o) = j by omega] at this
theorem next_gone {xs : List Int} {o : Nat} (h : nextI false (xs.drop o) 0 = -1) : ∀ j, o ≤ j → j < xs.length → ¬ Begins xs j := fun j h1 h2 => by
 have := next_no (a := 0) (xs := xs.drop o) (by show nextI false (xs.drop o) 0 < 0; omega) (j - o) (Nat.zero_le _) (by rw [List.length_drop]; omega)
 rwa [begins_drop0, show o + (j - o) = j by omega] at this
theorem PartsS.exist {xs : List Int} (hx : Bytes xs) : ∀ (n a : Nat), xs.length - a ≤ n → ∃ l, PartsS xs a l
 | 0, a, h => ⟨[], .stop a (by omega)⟩
 | n + 1, a, h => by
  by_cases ha : xs.length ≤ a
  ·exact ⟨[], .stop a ha⟩
  ·rcases next_ways xs a with e | ⟨r, e⟩
   ·exact ⟨_, .rest a (by omega) (next_no (by omega))⟩
   ·obtain ⟨h1, h2, h3, h4⟩ := next_some e
    have h5 := begins_in hx h3
    obtain ⟨l, hl⟩ := PartsS.exist hx n (r + (getFr (xs.drop r)).2.1) (by omega)
    by_cases hr : a = r
    ·subst hr
     exact ⟨_, .fr a l h2 h3 hl⟩
    ·exact ⟨_, .gap a r l (by omega) h2 h4 h3 hl⟩
theorem cut_addr {A : Option Addr} {c k : Nat} {x : Addr} (h : (if c = k then A else A.map (·.add k)) = some x) : ∃ y, A = some y ∧ x.block = y.block := by
 split at h
 ·exact ⟨x, h, rfl⟩
 ·cases A with
  | none => cases h
  | some y =>
   simp only [Option.map_some, Option.some.injEq] at h
   exact ⟨y, rfl, by rw [← h]; unfold Addr.add; split <;> rfl⟩
def Tells (w : World) (g : Nat) (vh : Value) (cl : Bool) (xs : List Int) (A : Option Addr) (op : Bool) (I : List Sg → Nat → Nat → Prop) (e : Ending) (w' : World) : Prop :=
 ∃ v Ar nr cr ps a o q, e = .returned (.tuple #[v, .slice Ar nr cr]) ∧ Segs w' w.heap.size v ps ∧ NewP w.heap.size ps ∧ I (ps.map (·.s)) a o ∧ a ≤ o ∧ o ≤ q ∧ q ≤ xs.length ∧ FeedAt w' g vh a xs.length cl ∧ w.grownBy w' (some g) ∧
  Row w' w'.heap.size (.slice Ar nr cr) (xs.drop q) ∧ (∀ x, Ar = some x → ∃ y, A = some y ∧ x.block = y.block) ∧ ps.length ≤ xs.length ∧
  (nextI op (xs.drop o) 0 = -1 ∧ q = xs.length ∨ nextI op (xs.drop o) 0 = ((q - o : Nat) : Int) ∧ ¬ Begins xs q)
theorem fr_row (W : World) (N : Nat) (hN : W.heap.size = N) (s : Sg) (A : Option Addr) (c : Nat) (hp : Row W W.heap.size (.slice A s.pay.length c) s.pay) :
  SegRow (W.alloc (.cells #[.int .i64 s.frm, .int .i64 s.n, .bool s.isf, .int .i64 s.kind, .slice A s.pay.length c] 46)) (W.alloc (.cells #[.int .i64 s.frm, .int .i64 s.n, .bool s.isf, .int .i64 s.kind, .slice A s.pay.length c] 46)).heap.size (.slice (some ⟨N, 0, none⟩) 1 1) [⟨s, A, c⟩] := by
 subst hN
 have ba : Below W.heap.size W (W.alloc (.cells #[.int .i64 s.frm, .int .i64 s.n, .bool s.isf, .int .i64 s.kind, .slice A s.pay.length c] 46)) := (Below.refl _ _).alloc (Nat.le_refl _) _
 have h : Held (W.alloc (.cells #[.int .i64 s.frm, .int .i64 s.n, .bool s.isf, .int .i64 s.kind, .slice A s.pay.length c] 46)) W.heap.size 46 #[.int .i64 s.frm, .int .i64 s.n, .bool s.isf, .int .i64 s.kind, .slice A s.pay.length c] := heap_alloc_new W _
 refine one_row _ _ (Nat.le_refl _) (by unfold maxLen; omega) _ h.lt (fun j u hj => ?_) ((hp.below ba).more ba.size)
 rw [h.cell j]
 simpa [Pt.cells] using hj
theorem But.join {w w3 w4 : World} {g : Nat} {row : Option Nat} (h : w.grownBy w3 (some g)) (k : But w3 w4 row g) (hr : ∀ j, row = some j → w.heap.size ≤ j) : w.grownBy w4 (some g) :=
 ⟨k.os.trans h.os, k.tape.trans h.tape, k.output.trans h.output, Nat.le_trans h.size k.size, fun i hi hn =>
  (k.block i (Nat.lt_of_lt_of_le hi h.size) (fun e => hn (by rw [e])) (fun e => by have := hr i e.symm; omega)).trans (h.block i hi hn)⟩
theorem frame_feed {w : World} {F g : Nat} {t : TypeId} {x y : Value} {vh : Value} {a tot : Nat} {cl : Bool} (h : Held w F t #[x, y]) (hf : FeedAt w g vh a tot cl) : F ≠ g := by
 rintro rfl
 have e := (show w.heap[F]? = _ from h).symm.trans hf
 injection e with e
 injection e with e _ _
 have := congrArg Array.size e
 simp at this
theorem gapP_map (a r : Nat) : (gapP a r).map (·.s) = gapS a r := by
 unfold gapP gapS
 split <;> rfl
theorem gapP_len (a r : Nat) : (gapP a r).length ≤ 1 := by
 unfold gapP
 split <;> simp
theorem tellN_any (xs : List Int) (hsm : xs.length ≤ 100000000000) (hbx : ∀ x ∈ xs, 0 ≤ x ∧ x < 256)
  (I : List Sg → Nat → Nat → Prop) (hstep : ∀ ps a o r, I ps a o → a ≤ o → o ≤ r → r < xs.length → nextI false (xs.drop o) 0 = ((r - o : Nat) : Int) → Begins xs r → I (ps ++ gapS a r ++ [frS xs r]) (r + (getFr (xs.drop r)).2.1) (r + (getFr (xs.drop r)).2.1))
  (w : World) (g : Nat) (vh : Value) (hvh : ∀ n, vh ≠ .int .u8 n) (a o : Nat) (cl : Bool) (hao : a ≤ o) (ho : o ≤ xs.length) (hI : I [] a o) (hf : FeedAt w g vh a xs.length cl)
  (A : Option Addr) (n c : Nat) (hn : n = (xs.drop o).length) (hrow : Row w w.heap.size (.slice A n c) (xs.drop o)) :
  Calls Tryz.prog 72 #[.pointer (some ⟨g, 0, none⟩), .slice A n c, .func (.func 76) #[] #[]] w (Tells w g vh cl xs A false I) := by
 obtain ⟨i0, hi, hz0, hz1, hz2⟩ := info_parts Tryz.infoSeg
 subst hn
 have HFN := hid (fun A c o W (h : Row W W.heap.size (.slice A (xs.drop o).length c) (xs.drop o)) => next_any A c (xs.drop o) (by rw [List.length_drop]; omega) W h (drop_bytes hbx o) 0 (by omega) (by omega))
 have HFN1 := hid (HFN.out A c o w hrow)
 have HST := hid hstep
 have HBX := hid hbx
 have HROW := hid hrow
 have HF := hid hf
 have HI := hid hI
 have hlo : ∀ o, (xs.drop o).length = xs.length - o := fun o => List.length_drop
 clear hstep hbx hrow hf hI
 rw [hlo] at HROW HFN1 ⊢
 have HLO := hid hlo
 clear hlo
 go_enter Tryz.func72, Tryz.ntmps72
 go_wp2_with fail
 refine HFN1.out.mono ?_
 rintro e w1 ⟨rfl, hb1⟩
 have HF1 := hid (HF.out.below hb1 HF.out.lt)
 have HR1 := hid ((HROW.out.below hb1).more hb1.size)
 have HG1 := hid (grown_below hb1 (some g))
 clear HROW HF hb1 HFN1
 go_wp2_with fail
 go_loopg [1, 6, 8, 9] (xs.length - o) (fun gk bb tt pp ff wr => ∃ (ps : List Pt) (a1 o1 : Nat) (Ab : Option Addr) (cb : Nat) (At : Option Addr) (ct : Nat), bb = .slice Ab (xs.length - o1) cb ∧ tt = .slice At ps.length ct ∧ pp = .int .i64 (max (nextI false (xs.drop o1) 0) 0) ∧ ff = .bool (decide (0 ≤ nextI false (xs.drop o1) 0)) ∧
  a1 ≤ o1 ∧ o1 ≤ xs.length ∧ ps.length ≤ o1 ∧ Hid (xs.length - o1 = gk) ∧ Hid (Segs wr w.heap.size (.slice At ps.length ct) ps) ∧ Hid (NewP w.heap.size ps) ∧ Hid (I (ps.map (·.s)) a1 o1) ∧ Hid (FeedAt wr g vh a1 xs.length cl) ∧ Hid (w.grownBy wr (some g)) ∧
  Hid (Row wr wr.heap.size (.slice Ab (xs.length - o1) cb) (xs.drop o1)) ∧ Hid (∀ x, Ab = some x → ∃ y, A = some y ∧ x.block = y.block))
 case atStart =>
  exact ⟨[], a, o, A, c, none, 0, rfl, rfl, rfl, rfl, hao, ho, Nat.zero_le _, hid rfl, hid (Segs.nil _ _), hid (NewP.nil _), hid HI.out, hid HF1.out, hid HG1.out, hid HR1.out, hid (fun x e => ⟨x, e, rfl⟩)⟩
 case round =>
  obtain ⟨ps, a1, o1, Ab, cb, At, ct, rfl, rfl, rfl, rfl, ha1, ho1, hpl, HGK, HS, HNP, HII, HFR, HGR, HRO, HAB⟩ := hrel
  rcases nextI_ways false (xs.drop o1) with hR | ⟨r, hR, hr⟩
  ·have HRR := hid hR
   rw [hR, show max (-1 : Int) 0 = 0 from rfl, show decide ((0 : Int) ≤ -1) = false from rfl]
   clear hR
   go_wp2_with fail
   go_ret2
   exact ⟨_, none, 0, 0, ps, a1, o1, xs.length, rfl, HS.out, HNP.out, HII.out, ha1, ho1, Nat.le_refl _, HFR.out, HGR.out, by rw [List.drop_length]; exact Row.nil _ _, fun x e => (by cases e), by omega, .inl ⟨HRR.out, rfl⟩⟩
  ·have HRR := hid hR
   rw [hR, show max (r : Int) 0 = (r : Int) by omega, show decide (0 ≤ (r : Int)) = true by simp]
   rw [HLO.out] at hr
   have hrow2 := HRO.out.drop (k := r) (by rw [HLO.out]; omega)
   rw [List.drop_drop, HLO.out] at hrow2
   obtain ⟨q, hq⟩ : ∃ q, o1 + r = q := ⟨_, rfl⟩
   rw [hq] at hrow2
   have hcap : xs.length - o1 ≤ cb ∧ cb ≤ 9223372036854775807 := by
    obtain ⟨_, _, hv, q1, q2, _⟩ := HRO.out
    injection hv with _ e2 e3
    subst e3
    unfold maxLen at q2
    exact ⟨by omega, by omega⟩
   obtain ⟨hcap1, hcap2⟩ := hcap
   have hA3 := fun x (h : (if cb = r then Ab else Ab.map (·.add r)) = some x) => cut_addr h
   rw [if_neg (by omega)] at hrow2 hA3
   have HROW2 := hid hrow2
   have HA3 := hid hA3
   clear hR hrow2 hA3
   have hr0 : (0 : Int) ≤ r := by omega
   have hr1 : (r : Int) ≤ ((xs.length - o1 : Nat) : Int) := by omega
   have hr2 : ((xs.length - o1 : Nat) : Int) ≤ cb := by omega
   go_wp2_with fail
   rw [show xs.length - o1 - r = xs.length - q by omega]
   generalize Option.map (fun x : Addr => x.add r) Ab = A3 at HROW2 HA3 ⊢
   have hcap3 : xs.length - q ≤ cb - r ∧ cb - r ≤ 9223372036854775807 := ⟨by omega, by omega⟩
   obtain ⟨c3, hc3⟩ : ∃ c3, cb - r = c3 := ⟨_, rfl⟩
   rw [hc3] at HROW2 hcap3 ⊢
   obtain ⟨hcap31, hcap32⟩ := hcap3
   have hqx : q < xs.length := by omega
   have hoq : o1 ≤ q := by omega
   have hrq : r = q - o1 := by omega
   rw [hrq] at HRR
   have HAT := at_new A3 c3 (xs.drop q) (by rw [HLO.out]; omega) wr (by rw [HLO.out]; exact HROW2.out) (drop_bytes HBX.out q) 0 (Nat.zero_le _)
   rw [List.drop_zero, HLO.out] at HAT
   have HATH := hid HAT
   clear HAT hc3 hr0 hr1 hr2 hcap1 hcap2 hr hq hrq
   obtain ⟨T, hT⟩ : ∃ T, getFr (xs.drop q) = T := ⟨_, rfl⟩
   rw [hT] at HATH
   have HT := hid hT
   clear hT
   refine HATH.out.mono ?_
   rintro e w2 ⟨A1, c1, rfl, hrow1, hb2, hn1⟩
   have hz2 := hb2.size
   have HF2 := hid (HFR.out.below hb2 HFR.out.lt)
   have HS2 := hid (HS.out.below hb2)
   have HR2 := hid ((HROW2.out.below hb2).more hb2.size)
   have HG2 := hid (grown_trans HGR.out (grown_below hb2 (some g)))
   have HP2 := hid hrow1
   have HN1 := hid (fun a e => Nat.le_trans HGR.out.size (hn1 a e))
   have ba : Below w2.heap.size w2 (w2.alloc (.cells #[.int .i64 T.1.1, .slice A1 T.1.2.length c1] 44)) := (Below.refl _ _).alloc (Nat.le_refl _) _
   have HF3 := hid (HF2.out.below ba HF2.out.lt)
   have HS3 := hid (HS2.out.below ba)
   have HR3 := hid ((HR2.out.below ba).more ba.size)
   have HG3 := hid (grown_trans HG2.out (grown_below ba (some g)))
   have HP3 := hid ((HP2.out.below ba).more ba.size)
   have HK3 := hid (show Held (w2.alloc (.cells #[.int .i64 T.1.1, .slice A1 T.1.2.length c1] 44)) w2.heap.size 44 #[.int .i64 T.1.1, .slice A1 T.1.2.length c1] from heap_alloc_new w2 _)
   clear hrow1 hb2 hn1 ba HFR HS HROW2 HGR HF2 HS2 HR2 HG2 HP2 HRO
   obtain ⟨er, hE⟩ : ∃ er, T.2.2 = er := ⟨_, rfl⟩
   rw [hE]
   have HE := hid hE; clear hE
   by_cases her : er = 0
   ·subst her
    have hbg : Begins xs q := by unfold Begins; rw [HT.out, HE.out]
    have hbi := begins_in HBX.out hbg
    rw [HT.out] at hbi
    obtain ⟨hi1, hi2, _, hi4, _, _⟩ := hbi
    have HBG := hid hbg
    obtain ⟨w3, hw3⟩ : ∃ w3, w2.alloc (.cells #[.int .i64 T.1.1, .slice A1 T.1.2.length c1] 44) = w3 := ⟨_, rfl⟩
    rw [hw3] at HF3 HS3 HR3 HG3 HP3 HK3
    obtain ⟨F, hF⟩ : ∃ F, w2.heap.size = F := ⟨_, rfl⟩
    rw [hF] at HK3
    have hfl3 := HF3.out.lt
    have hkl3 := HK3.out.lt
    have y2 := HF3.out.cell 2
    simp at y2
    have hql : ((xs.length - q : Nat) : Int) = (xs.length : Int) - q := by omega
    clear hbg hz2 hcap31 hcap32
    go_wp2_with fail
    rw [show (xs.length : Int) - ((xs.length : Int) - q) = q by omega]
    refine (skip_any w3 g vh a1 q xs.length cl HF3.out w.heap.size (.slice At ps.length ct) ps HS3.out HG3.out.size (by omega) (by omega) (by omega) hvh).mono ?_
    rintro e w4 ⟨v4, rfl, hs4, hf4, hbut4⟩
    rw [Nat.max_eq_right (by omega)] at hf4
    have hrown : ∀ j, (.slice At ps.length ct : Value).ownBlock = some j → w.heap.size ≤ j := fun j e => (HS3.out.1.lt j e).1
    have hnob := FeedAt.nob HF3.out hvh
    have hclean : ∀ j, (.slice At ps.length ct : Value).ownBlock = some j → ∀ (i : Nat) (n : Int), w3.cell? ⟨j, i, none⟩ ≠ some (.int .u8 n) := fun j e => HS3.out.2.1 j e
    have hfk := frame_feed HK3.out HF3.out
    have HK4 := hid (hbut4.held HK3.out hfk (fun e => (HS3.out.apart HK3.out (by decide)).elim (fun h => by rw [h] at e; cases e) (fun h => h e.symm)))
    have HP4 := hid ((hbut4.clean HP3.out hnob hclean).more hbut4.size)
    have HR4 := hid ((hbut4.clean HR3.out hnob hclean).more hbut4.size)
    have HG4 := hid (But.join HG3.out hbut4 hrown)
    obtain ⟨A4, c4, ev, hc41, hc42⟩ := hs4.form
    obtain ⟨N4, hN4⟩ : ∃ N4, (ps ++ gapP a1 q).length = N4 := ⟨_, rfl⟩
    have hN42 : N4 ≤ ps.length + 1 := by rw [← hN4, List.length_append]; have := gapP_len a1 q; omega
    rw [hN4] at ev hc41
    subst ev
    have HN4 := hid hN4
    have HS4 := hid hs4
    have HF4 := hid hf4
    have hfl4 := hf4.lt
    have x1 := hf4.cell 1
    have xf := hf4.frozen 1
    obtain ⟨k0, k1⟩ := cC2 HK4.out
    have hkl4 := HK4.out.lt
    simp at x1 k0 k1
    have HSB := hid (fun W (h : Below w4.heap.size w4 W) => hs4.below h)
    have HFR := hid (fun W N (hN : W.heap.size = N) (h : Row W W.heap.size (.slice A1 T.1.2.length c1) T.1.2) => fr_row W N hN ⟨q, T.2.1, true, T.1.1, T.1.2⟩ A1 c1 h)
    have HP4B := hid (fun W (h : Below w4.heap.size w4 W) => (HP4.out.below h).more h.size)
    clear hs4 hf4 hbut4 hrown hnob hclean hfk hN4 HS3 HF3 HK3 HP3 HR3 HG3 hw3 hF hfl3 hkl3 y2
    simp only at HFR
    go_wp2_with fail
    go_region_law (first | (refine step_append_segs (by rfl) (.tmp 49) (.tmp 57) 42 (by rfl) i0 _ Tryz.underlying42 hi hz0 hz1 (by omega) rfl w.heap.size (.slice A4 N4 c4) (ps ++ gapP a1 q) (by rfl) (HSB.out _ (by first | exact (Below.refl _ _).alloc (Nat.le_refl _) _ | exact ((Below.refl _ _).drew).alloc (Nat.le_refl _) _)) (.slice (some ⟨w4.heap.size, 0, none⟩) 1 1) [⟨⟨q, T.2.1, true, T.1.1, T.1.2⟩, A1, c1⟩] (by rfl) (HFR.out _ _ rfl HP4.out) (by rw [HN4.out]; simp; omega) (by simp; have := HG4.out.size; omega) ?_; intro v5 w5 hs5 hg5))
    all_goals
     obtain ⟨hbut5, hf5⟩ := app_but HF4.out HS4.out (by first | exact ((Below.refl _ _).alloc (Nat.le_refl _) _).drew | exact ((Below.refl _ _).drew).alloc (Nat.le_refl _) _) hg5
     obtain ⟨A5, c5, ev, _, _⟩ := hs5.form
     rw [List.length_append, HN4.out, List.length_singleton] at ev
     subst ev
     have hr5 := (hbut5.clean HR4.out (FeedAt.nob HF4.out hvh) (fun j e => HS4.out.2.1 j e)).more hbut5.size
     have hput := grown_put w5 g 1 (.int .i64 ((q : Int) + (T.2.1 : Nat)))
     have HR6 := hid (((But.of_one hput none).clean hr5 (FeedAt.nob hf5 hvh) (fun j e => by cases e)).more hput.size)
     have HG6 := hid (grown_trans (But.join HG4.out hbut5 (fun j e => (HS4.out.1.lt j e).1)) hput)
     have HS6 := hid (hs5.past hf5 hvh 1 (.int .i64 ((q : Int) + (T.2.1 : Nat))))
     have HF6 := hid (show FeedAt (w5.setCell ⟨g, 1, none⟩ (.int .i64 ((q : Int) + (T.2.1 : Nat)))) g vh (q + T.2.1) xs.length cl by rw [FeedAt, show ((q + T.2.1 : Nat) : Int) = (q : Int) + (T.2.1 : Nat) by omega]; simpa using hf5.put 1 (.int .i64 ((q : Int) + (T.2.1 : Nat))))
     have hfl5 := hf5.lt
     have z1 := hf5.cell 1
     have zf := hf5.frozen 1
     simp at z1
     have hrow6 := HR6.out.drop (k := T.2.1) (by rw [HLO.out]; omega)
     rw [List.drop_drop, HLO.out] at hrow6
     have hA6 := fun x (h : (if c3 = T.2.1 then A3 else A3.map (·.add T.2.1)) = some x) => cut_addr h
     have HROW6 := hid hrow6
     have HA6 := hid hA6
     have s0 : (0 : Int) ≤ (T.2.1 : Nat) := by omega
     have s1 : ((T.2.1 : Nat) : Int) ≤ ((xs.length - q : Nat) : Int) := by omega
     have hc3 : xs.length - q ≤ c3 := by
      obtain ⟨_, _, hv, q1, _⟩ := HR6.out
      injection hv with _ e2 e3
      subst e3
      omega
     have s2 : ((xs.length - q : Nat) : Int) ≤ c3 := by omega
     clear hs5 hg5 hbut5 hf5 hr5 hput hrow6 hA6 x1 xf k0 k1 HK4 HP4 HR4 HG4 HSB HFR HP4B
     by_cases hck : c3 = T.2.1
     ·rw [if_pos hck, show c3 - T.2.1 = 0 by omega] at HROW6
      simp only [if_pos hck] at HA6
      go_wp2_with fail
      rw [show xs.length - q - T.2.1 = xs.length - (q + T.2.1) by omega]
      have HC := HFN.out A3 0 (q + T.2.1) _ (by rw [HLO.out]; exact HROW6.out)
      rw [HLO.out] at HC
      have HCH := hid HC
      clear HC
      refine HCH.out.mono ?_
      rintro e w7 ⟨rfl, hb7⟩
      have HF7 := hid (HF6.out.below hb7 HF6.out.lt)
      have HS7 := hid (HS6.out.below hb7)
      have HR7 := hid ((HROW6.out.below hb7).more hb7.size)
      have HG7 := hid (grown_trans HG6.out (grown_below hb7 (some g)))
      clear hb7
      go_wp2_with fail
      go_roundg (xs.length - (q + T.2.1))
      case measure => have := HGK.out; omega
      case rel =>
       have hl7 : (ps ++ gapP a1 q ++ [(⟨⟨q, T.2.1, true, T.1.1, T.1.2⟩, A1, c1⟩ : Pt)]).length = N4 + 1 := by rw [List.length_append, HN4.out, List.length_singleton]
       refine ⟨ps ++ gapP a1 q ++ [⟨⟨q, T.2.1, true, T.1.1, T.1.2⟩, A1, c1⟩], q + T.2.1, q + T.2.1, A3, 0, A5, c5, rfl, by rw [hl7], rfl, rfl, Nat.le_refl _, by omega, by omega, hid rfl, hid (by rw [hl7]; exact HS7.out), hid ?_, hid ?_, hid HF7.out, hid HG7.out, hid HR7.out, hid ?_⟩
       ·refine (HNP.out.append (gapP_new _ _ _)).append ?_
        intro p hp a e
        rw [List.mem_singleton] at hp
        subst hp
        exact HN1.out a e
       ·have := HST.out _ a1 o1 q HII.out ha1 hoq hqx HRR.out HBG.out
        rw [frS, HT.out] at this
        rw [List.map_append, List.map_append, gapP_map]
        exact this
       ·intro x e
        obtain ⟨y, e1, e2⟩ := HA6.out x e
        obtain ⟨z, e3, e4⟩ := HA3.out y e1
        obtain ⟨u, e5, e6⟩ := HAB.out z e3
        exact ⟨u, e5, e2.trans (e4.trans e6)⟩
     ·rw [if_neg hck] at HROW6
      simp only [if_neg hck] at HA6
      go_wp2_with fail
      rw [show xs.length - q - T.2.1 = xs.length - (q + T.2.1) by omega]
      generalize Option.map (fun x : Addr => x.add T.2.1) A3 = A6 at HROW6 HA6 ⊢
      obtain ⟨c6, hc6⟩ : ∃ c6, c3 - T.2.1 = c6 := ⟨_, rfl⟩
      rw [hc6] at HROW6 ⊢
      clear hc6
      have HC := HFN.out A6 c6 (q + T.2.1) _ (by rw [HLO.out]; exact HROW6.out)
      rw [HLO.out] at HC
      have HCH := hid HC
      clear HC
      refine HCH.out.mono ?_
      rintro e w7 ⟨rfl, hb7⟩
      have HF7 := hid (HF6.out.below hb7 HF6.out.lt)
      have HS7 := hid (HS6.out.below hb7)
      have HR7 := hid ((HROW6.out.below hb7).more hb7.size)
      have HG7 := hid (grown_trans HG6.out (grown_below hb7 (some g)))
      clear hb7
      go_wp2_with fail
      go_roundg (xs.length - (q + T.2.1))
      case measure => have := HGK.out; omega
      case rel =>
       have hl7 : (ps ++ gapP a1 q ++ [(⟨⟨q, T.2.1, true, T.1.1, T.1.2⟩, A1, c1⟩ : Pt)]).length = N4 + 1 := by rw [List.length_append, HN4.out, List.length_singleton]
       refine ⟨ps ++ gapP a1 q ++ [⟨⟨q, T.2.1, true, T.1.1, T.1.2⟩, A1, c1⟩], q + T.2.1, q + T.2.1, A6, c6, A5, c5, rfl, by rw [hl7], rfl, rfl, Nat.le_refl _, by omega, by omega, hid rfl, hid (by rw [hl7]; exact HS7.out), hid ?_, hid ?_, hid HF7.out, hid HG7.out, hid HR7.out, hid ?_⟩
       ·refine (HNP.out.append (gapP_new _ _ _)).append ?_
        intro p hp a e
        rw [List.mem_singleton] at hp
        subst hp
        exact HN1.out a e
       ·have := HST.out _ a1 o1 q HII.out ha1 hoq hqx HRR.out HBG.out
        rw [frS, HT.out] at this
        rw [List.map_append, List.map_append, gapP_map]
        exact this
       ·intro x e
        obtain ⟨y, e1, e2⟩ := HA6.out x e
        obtain ⟨z, e3, e4⟩ := HA3.out y e1
        obtain ⟨u, e5, e6⟩ := HAB.out z e3
        exact ⟨u, e5, e2.trans (e4.trans e6)⟩
   ·have hne : (er != 0) = true := bne_iff_ne.2 her
    have hne2 : (er == 0) = false := beq_eq_false_iff_ne.2 her
    have hng : ¬ Begins xs q := by unfold Begins; rw [HT.out, HE.out]; exact her
    have HNG := hid hng
    clear hng her
    go_wp2_with fail
    go_ret2
    exact ⟨_, A3, _, c3, ps, a1, o1, q, rfl, HS3.out, HNP.out, HII.out, ha1, hoq, by omega, HF3.out, HG3.out, HR3.out, fun x e => by obtain ⟨y, e1, e2⟩ := HA3.out x e; obtain ⟨z, e3, e4⟩ := HAB.out y e1; exact ⟨z, e3, e2.trans e4⟩, by omega, .inr ⟨HRR.out, HNG.out⟩⟩
theorem tellO_any (xs : List Int) (hsm : xs.length ≤ 100000000000) (hbx : ∀ x ∈ xs, 0 ≤ x ∧ x < 256)
  (I : List Sg → Nat → Nat → Prop) (hstep : ∀ ps a o r, I ps a o → a ≤ o → o ≤ r → r < xs.length → nextI true (xs.drop o) 0 = ((r - o : Nat) : Int) → Begins xs r → I (ps ++ gapS a r ++ [frS xs r]) (r + (getFr (xs.drop r)).2.1) (r + (getFr (xs.drop r)).2.1))
  (w : World) (g : Nat) (vh : Value) (hvh : ∀ n, vh ≠ .int .u8 n) (a o : Nat) (cl : Bool) (hao : a ≤ o) (ho : o ≤ xs.length) (hI : I [] a o) (hf : FeedAt w g vh a xs.length cl)
  (A : Option Addr) (n c : Nat) (hn : n = (xs.drop o).length) (hrow : Row w w.heap.size (.slice A n c) (xs.drop o)) :
  Calls Tryz.prog 72 #[.pointer (some ⟨g, 0, none⟩), .slice A n c, .func (.func 73) #[] #[]] w (Tells w g vh cl xs A true I) := by
 obtain ⟨i0, hi, hz0, hz1, hz2⟩ := info_parts Tryz.infoSeg
 subst hn
 have HFN := hid (fun A c o W (h : Row W W.heap.size (.slice A (xs.drop o).length c) (xs.drop o)) => open_any A c (xs.drop o) (by rw [List.length_drop]; omega) W h (drop_bytes hbx o) 0 (by omega) (by omega))
 have HFN1 := hid (HFN.out A c o w hrow)
 have HST := hid hstep
 have HBX := hid hbx
 have HROW := hid hrow
 have HF := hid hf
 have HI := hid hI
 have hlo : ∀ o, (xs.drop o).length = xs.length - o := fun o => List.length_drop
 clear hstep hbx hrow hf hI
 rw [hlo] at HROW HFN1 ⊢
 have HLO := hid hlo
 clear hlo
 go_enter Tryz.func72, Tryz.ntmps72
 go_wp2_with fail
 refine HFN1.out.mono ?_
 rintro e w1 ⟨rfl, hb1⟩
 have HF1 := hid (HF.out.below hb1 HF.out.lt)
 have HR1 := hid ((HROW.out.below hb1).more hb1.size)
 have HG1 := hid (grown_below hb1 (some g))
 clear HROW HF hb1 HFN1
 go_wp2_with fail
 go_loopg [1, 6, 8, 9] (xs.length - o) (fun gk bb tt pp ff wr => ∃ (ps : List Pt) (a1 o1 : Nat) (Ab : Option Addr) (cb : Nat) (At : Option Addr) (ct : Nat), bb = .slice Ab (xs.length - o1) cb ∧ tt = .slice At ps.length ct ∧ pp = .int .i64 (max (nextI true (xs.drop o1) 0) 0) ∧ ff = .bool (decide (0 ≤ nextI true (xs.drop o1) 0)) ∧
  a1 ≤ o1 ∧ o1 ≤ xs.length ∧ ps.length ≤ o1 ∧ Hid (xs.length - o1 = gk) ∧ Hid (Segs wr w.heap.size (.slice At ps.length ct) ps) ∧ Hid (NewP w.heap.size ps) ∧ Hid (I (ps.map (·.s)) a1 o1) ∧ Hid (FeedAt wr g vh a1 xs.length cl) ∧ Hid (w.grownBy wr (some g)) ∧
  Hid (Row wr wr.heap.size (.slice Ab (xs.length - o1) cb) (xs.drop o1)) ∧ Hid (∀ x, Ab = some x → ∃ y, A = some y ∧ x.block = y.block))
 case atStart =>
  exact ⟨[], a, o, A, c, none, 0, rfl, rfl, rfl, rfl, hao, ho, Nat.zero_le _, hid rfl, hid (Segs.nil _ _), hid (NewP.nil _), hid HI.out, hid HF1.out, hid HG1.out, hid HR1.out, hid (fun x e => ⟨x, e, rfl⟩)⟩
 case round =>
  obtain ⟨ps, a1, o1, Ab, cb, At, ct, rfl, rfl, rfl, rfl, ha1, ho1, hpl, HGK, HS, HNP, HII, HFR, HGR, HRO, HAB⟩ := hrel
  rcases nextI_ways true (xs.drop o1) with hR | ⟨r, hR, hr⟩
  ·have HRR := hid hR
   rw [hR, show max (-1 : Int) 0 = 0 from rfl, show decide ((0 : Int) ≤ -1) = false from rfl]
   clear hR
   go_wp2_with fail
   go_ret2
   exact ⟨_, none, 0, 0, ps, a1, o1, xs.length, rfl, HS.out, HNP.out, HII.out, ha1, ho1, Nat.le_refl _, HFR.out, HGR.out, by rw [List.drop_length]; exact Row.nil _ _, fun x e => (by cases e), by omega, .inl ⟨HRR.out, rfl⟩⟩
  ·have HRR := hid hR
   rw [hR, show max (r : Int) 0 = (r : Int) by omega, show decide (0 ≤ (r : Int)) = true by simp]
   rw [HLO.out] at hr
   have hrow2 := HRO.out.drop (k := r) (by rw [HLO.out]; omega)
   rw [List.drop_drop, HLO.out] at hrow2
   obtain ⟨q, hq⟩ : ∃ q, o1 + r = q := ⟨_, rfl⟩
   rw [hq] at hrow2
   have hcap : xs.length - o1 ≤ cb ∧ cb ≤ 9223372036854775807 := by
    obtain ⟨_, _, hv, q1, q2, _⟩ := HRO.out
    injection hv with _ e2 e3
    subst e3
    unfold maxLen at q2
    exact ⟨by omega, by omega⟩
   obtain ⟨hcap1, hcap2⟩ := hcap
   have hA3 := fun x (h : (if cb = r then Ab else Ab.map (·.add r)) = some x) => cut_addr h
   rw [if_neg (by omega)] at hrow2 hA3
   have HROW2 := hid hrow2
   have HA3 := hid hA3
   clear hR hrow2 hA3
   have hr0 : (0 : Int) ≤ r := by omega
   have hr1 : (r : Int) ≤ ((xs.length - o1 : Nat) : Int) := by omega
   have hr2 : ((xs.length - o1 : Nat) : Int) ≤ cb := by omega
   go_wp2_with fail
   rw [show xs.length - o1 - r = xs.length - q by omega]
   generalize Option.map (fun x : Addr => x.add r) Ab = A3 at HROW2 HA3 ⊢
   have hcap3 : xs.length - q ≤ cb - r ∧ cb - r ≤ 9223372036854775807 := ⟨by omega, by omega⟩
   obtain ⟨c3, hc3⟩ : ∃ c3, cb - r = c3 := ⟨_, rfl⟩
   rw [hc3] at HROW2 hcap3 ⊢
   obtain ⟨hcap31, hcap32⟩ := hcap3
   have hqx : q < xs.length := by omega
   have hoq : o1 ≤ q := by omega
   have hrq : r = q - o1 := by omega
   rw [hrq] at HRR
   have HAT := at_new A3 c3 (xs.drop q) (by rw [HLO.out]; omega) wr (by rw [HLO.out]; exact HROW2.out) (drop_bytes HBX.out q) 0 (Nat.zero_le _)
   rw [List.drop_zero, HLO.out] at HAT
   have HATH := hid HAT
   clear HAT hc3 hr0 hr1 hr2 hcap1 hcap2 hr hq hrq
   obtain ⟨T, hT⟩ : ∃ T, getFr (xs.drop q) = T := ⟨_, rfl⟩
   rw [hT] at HATH
   have HT := hid hT
   clear hT
   refine HATH.out.mono ?_
   rintro e w2 ⟨A1, c1, rfl, hrow1, hb2, hn1⟩
   have hz2 := hb2.size
   have HF2 := hid (HFR.out.below hb2 HFR.out.lt)
   have HS2 := hid (HS.out.below hb2)
   have HR2 := hid ((HROW2.out.below hb2).more hb2.size)
   have HG2 := hid (grown_trans HGR.out (grown_below hb2 (some g)))
   have HP2 := hid hrow1
   have HN1 := hid (fun a e => Nat.le_trans HGR.out.size (hn1 a e))
   have ba : Below w2.heap.size w2 (w2.alloc (.cells #[.int .i64 T.1.1, .slice A1 T.1.2.length c1] 44)) := (Below.refl _ _).alloc (Nat.le_refl _) _
   have HF3 := hid (HF2.out.below ba HF2.out.lt)
   have HS3 := hid (HS2.out.below ba)
   have HR3 := hid ((HR2.out.below ba).more ba.size)
   have HG3 := hid (grown_trans HG2.out (grown_below ba (some g)))
   have HP3 := hid ((HP2.out.below ba).more ba.size)
   have HK3 := hid (show Held (w2.alloc (.cells #[.int .i64 T.1.1, .slice A1 T.1.2.length c1] 44)) w2.heap.size 44 #[.int .i64 T.1.1, .slice A1 T.1.2.length c1] from heap_alloc_new w2 _)
   clear hrow1 hb2 hn1 ba HFR HS HROW2 HGR HF2 HS2 HR2 HG2 HP2 HRO
   obtain ⟨er, hE⟩ : ∃ er, T.2.2 = er := ⟨_, rfl⟩
   rw [hE]
   have HE := hid hE; clear hE
   by_cases her : er = 0
   ·subst her
    have hbg : Begins xs q := by unfold Begins; rw [HT.out, HE.out]
    have hbi := begins_in HBX.out hbg
    rw [HT.out] at hbi
    obtain ⟨hi1, hi2, _, hi4, _, _⟩ := hbi
    have HBG := hid hbg
    obtain ⟨w3, hw3⟩ : ∃ w3, w2.alloc (.cells #[.int .i64 T.1.1, .slice A1 T.1.2.length c1] 44) = w3 := ⟨_, rfl⟩
    rw [hw3] at HF3 HS3 HR3 HG3 HP3 HK3
    obtain ⟨F, hF⟩ : ∃ F, w2.heap.size = F := ⟨_, rfl⟩
    rw [hF] at HK3
    have hfl3 := HF3.out.lt
    have hkl3 := HK3.out.lt
    have y2 := HF3.out.cell 2
    simp at y2
    have hql : ((xs.length - q : Nat) : Int) = (xs.length : Int) - q := by omega
    clear hbg hz2 hcap31 hcap32
    go_wp2_with fail
    rw [show (xs.length : Int) - ((xs.length : Int) - q) = q by omega]
    refine (skip_any w3 g vh a1 q xs.length cl HF3.out w.heap.size (.slice At ps.length ct) ps HS3.out HG3.out.size (by omega) (by omega) (by omega) hvh).mono ?_
    rintro e w4 ⟨v4, rfl, hs4, hf4, hbut4⟩
    rw [Nat.max_eq_right (by omega)] at hf4
    have hrown : ∀ j, (.slice At ps.length ct : Value).ownBlock = some j → w.heap.size ≤ j := fun j e => (HS3.out.1.lt j e).1
    have hnob := FeedAt.nob HF3.out hvh
    have hclean : ∀ j, (.slice At ps.length ct : Value).ownBlock = some j → ∀ (i : Nat) (n : Int), w3.cell? ⟨j, i, none⟩ ≠ some (.int .u8 n) := fun j e => HS3.out.2.1 j e
    have hfk := frame_feed HK3.out HF3.out
    have HK4 := hid (hbut4.held HK3.out hfk (fun e => (HS3.out.apart HK3.out (by decide)).elim (fun h => by rw [h] at e; cases e) (fun h => h e.symm)))
    have HP4 := hid ((hbut4.clean HP3.out hnob hclean).more hbut4.size)
    have HR4 := hid ((hbut4.clean HR3.out hnob hclean).more hbut4.size)
    have HG4 := hid (But.join HG3.out hbut4 hrown)
    obtain ⟨A4, c4, ev, hc41, hc42⟩ := hs4.form
    obtain ⟨N4, hN4⟩ : ∃ N4, (ps ++ gapP a1 q).length = N4 := ⟨_, rfl⟩
    have hN42 : N4 ≤ ps.length + 1 := by rw [← hN4, List.length_append]; have := gapP_len a1 q; omega
    rw [hN4] at ev hc41
    subst ev
    have HN4 := hid hN4
    have HS4 := hid hs4
    have HF4 := hid hf4
    have hfl4 := hf4.lt
    have x1 := hf4.cell 1
    have xf := hf4.frozen 1
    obtain ⟨k0, k1⟩ := cC2 HK4.out
    have hkl4 := HK4.out.lt
    simp at x1 k0 k1
    have HSB := hid (fun W (h : Below w4.heap.size w4 W) => hs4.below h)
    have HFR := hid (fun W N (hN : W.heap.size = N) (h : Row W W.heap.size (.slice A1 T.1.2.length c1) T.1.2) => fr_row W N hN ⟨q, T.2.1, true, T.1.1, T.1.2⟩ A1 c1 h)
    have HP4B := hid (fun W (h : Below w4.heap.size w4 W) => (HP4.out.below h).more h.size)
    clear hs4 hf4 hbut4 hrown hnob hclean hfk hN4 HS3 HF3 HK3 HP3 HR3 HG3 hw3 hF hfl3 hkl3 y2
    simp only at HFR
    go_wp2_with fail
    go_region_law (first | (refine step_append_segs (by rfl) (.tmp 49) (.tmp 57) 42 (by rfl) i0 _ Tryz.underlying42 hi hz0 hz1 (by omega) rfl w.heap.size (.slice A4 N4 c4) (ps ++ gapP a1 q) (by rfl) (HSB.out _ (by first | exact (Below.refl _ _).alloc (Nat.le_refl _) _ | exact ((Below.refl _ _).drew).alloc (Nat.le_refl _) _)) (.slice (some ⟨w4.heap.size, 0, none⟩) 1 1) [⟨⟨q, T.2.1, true, T.1.1, T.1.2⟩, A1, c1⟩] (by rfl) (HFR.out _ _ rfl HP4.out) (by rw [HN4.out]; simp; omega) (by simp; have := HG4.out.size; omega) ?_; intro v5 w5 hs5 hg5))
    all_goals
     obtain ⟨hbut5, hf5⟩ := app_but HF4.out HS4.out (by first | exact ((Below.refl _ _).alloc (Nat.le_refl _) _).drew | exact ((Below.refl _ _).drew).alloc (Nat.le_refl _) _) hg5
     obtain ⟨A5, c5, ev, _, _⟩ := hs5.form
     rw [List.length_append, HN4.out, List.length_singleton] at ev
     subst ev
     have hr5 := (hbut5.clean HR4.out (FeedAt.nob HF4.out hvh) (fun j e => HS4.out.2.1 j e)).more hbut5.size
     have hput := grown_put w5 g 1 (.int .i64 ((q : Int) + (T.2.1 : Nat)))
     have HR6 := hid (((But.of_one hput none).clean hr5 (FeedAt.nob hf5 hvh) (fun j e => by cases e)).more hput.size)
     have HG6 := hid (grown_trans (But.join HG4.out hbut5 (fun j e => (HS4.out.1.lt j e).1)) hput)
     have HS6 := hid (hs5.past hf5 hvh 1 (.int .i64 ((q : Int) + (T.2.1 : Nat))))
     have HF6 := hid (show FeedAt (w5.setCell ⟨g, 1, none⟩ (.int .i64 ((q : Int) + (T.2.1 : Nat)))) g vh (q + T.2.1) xs.length cl by rw [FeedAt, show ((q + T.2.1 : Nat) : Int) = (q : Int) + (T.2.1 : Nat) by omega]; simpa using hf5.put 1 (.int .i64 ((q : Int) + (T.2.1 : Nat))))
     have hfl5 := hf5.lt
     have z1 := hf5.cell 1
     have zf := hf5.frozen 1
     simp at z1
     have hrow6 := HR6.out.drop (k := T.2.1) (by rw [HLO.out]; omega)
     rw [List.drop_drop, HLO.out] at hrow6
     have hA6 := fun x (h : (if c3 = T.2.1 then A3 else A3.map (·.add T.2.1)) = some x) => cut_addr h
     have HROW6 := hid hrow6
     have HA6 := hid hA6
     have s0 : (0 : Int) ≤ (T.2.1 : Nat) := by omega
     have s1 : ((T.2.1 : Nat) : Int) ≤ ((xs.length - q : Nat) : Int) := by omega
     have hc3 : xs.length - q ≤ c3 := by
      obtain ⟨_, _, hv, q1, _⟩ := HR6.out
      injection hv with _ e2 e3
      subst e3
      omega
     have s2 : ((xs.length - q : Nat) : Int) ≤ c3 := by omega
     clear hs5 hg5 hbut5 hf5 hr5 hput hrow6 hA6 x1 xf k0 k1 HK4 HP4 HR4 HG4 HSB HFR HP4B
     by_cases hck : c3 = T.2.1
     ·rw [if_pos hck, show c3 - T.2.1 = 0 by omega] at HROW6
      simp only [if_pos hck] at HA6
      go_wp2_with fail
      rw [show xs.length - q - T.2.1 = xs.length - (q + T.2.1) by omega]
      have HC := HFN.out A3 0 (q + T.2.1) _ (by rw [HLO.out]; exact HROW6.out)
      rw [HLO.out] at HC
      have HCH := hid HC
      clear HC
      refine HCH.out.mono ?_
      rintro e w7 ⟨rfl, hb7⟩
      have HF7 := hid (HF6.out.below hb7 HF6.out.lt)
      have HS7 := hid (HS6.out.below hb7)
      have HR7 := hid ((HROW6.out.below hb7).more hb7.size)
      have HG7 := hid (grown_trans HG6.out (grown_below hb7 (some g)))
      clear hb7
      go_wp2_with fail
      go_roundg (xs.length - (q + T.2.1))
      case measure => have := HGK.out; omega
      case rel =>
       have hl7 : (ps ++ gapP a1 q ++ [(⟨⟨q, T.2.1, true, T.1.1, T.1.2⟩, A1, c1⟩ : Pt)]).length = N4 + 1 := by rw [List.length_append, HN4.out, List.length_singleton]
       refine ⟨ps ++ gapP a1 q ++ [⟨⟨q, T.2.1, true, T.1.1, T.1.2⟩, A1, c1⟩], q + T.2.1, q + T.2.1, A3, 0, A5, c5, rfl, by rw [hl7], rfl, rfl, Nat.le_refl _, by omega, by omega, hid rfl, hid (by rw [hl7]; exact HS7.out), hid ?_, hid ?_, hid HF7.out, hid HG7.out, hid HR7.out, hid ?_⟩
       ·refine (HNP.out.append (gapP_new _ _ _)).append ?_
        intro p hp a e
        rw [List.mem_singleton] at hp
        subst hp
        exact HN1.out a e
       ·have := HST.out _ a1 o1 q HII.out ha1 hoq hqx HRR.out HBG.out
        rw [frS, HT.out] at this
        rw [List.map_append, List.map_append, gapP_map]
        exact this
       ·intro x e
        obtain ⟨y, e1, e2⟩ := HA6.out x e
        obtain ⟨z, e3, e4⟩ := HA3.out y e1
        obtain ⟨u, e5, e6⟩ := HAB.out z e3
        exact ⟨u, e5, e2.trans (e4.trans e6)⟩
     ·rw [if_neg hck] at HROW6
      simp only [if_neg hck] at HA6
      go_wp2_with fail
      rw [show xs.length - q - T.2.1 = xs.length - (q + T.2.1) by omega]
      generalize Option.map (fun x : Addr => x.add T.2.1) A3 = A6 at HROW6 HA6 ⊢
      obtain ⟨c6, hc6⟩ : ∃ c6, c3 - T.2.1 = c6 := ⟨_, rfl⟩
      rw [hc6] at HROW6 ⊢
      clear hc6
      have HC := HFN.out A6 c6 (q + T.2.1) _ (by rw [HLO.out]; exact HROW6.out)
      rw [HLO.out] at HC
      have HCH := hid HC
      clear HC
      refine HCH.out.mono ?_
      rintro e w7 ⟨rfl, hb7⟩
      have HF7 := hid (HF6.out.below hb7 HF6.out.lt)
      have HS7 := hid (HS6.out.below hb7)
      have HR7 := hid ((HROW6.out.below hb7).more hb7.size)
      have HG7 := hid (grown_trans HG6.out (grown_below hb7 (some g)))
      clear hb7
      go_wp2_with fail
      go_roundg (xs.length - (q + T.2.1))
      case measure => have := HGK.out; omega
      case rel =>
       have hl7 : (ps ++ gapP a1 q ++ [(⟨⟨q, T.2.1, true, T.1.1, T.1.2⟩, A1, c1⟩ : Pt)]).length = N4 + 1 := by rw [List.length_append, HN4.out, List.length_singleton]
       refine ⟨ps ++ gapP a1 q ++ [⟨⟨q, T.2.1, true, T.1.1, T.1.2⟩, A1, c1⟩], q + T.2.1, q + T.2.1, A6, c6, A5, c5, rfl, by rw [hl7], rfl, rfl, Nat.le_refl _, by omega, by omega, hid rfl, hid (by rw [hl7]; exact HS7.out), hid ?_, hid ?_, hid HF7.out, hid HG7.out, hid HR7.out, hid ?_⟩
       ·refine (HNP.out.append (gapP_new _ _ _)).append ?_
        intro p hp a e
        rw [List.mem_singleton] at hp
        subst hp
        exact HN1.out a e
       ·have := HST.out _ a1 o1 q HII.out ha1 hoq hqx HRR.out HBG.out
        rw [frS, HT.out] at this
        rw [List.map_append, List.map_append, gapP_map]
        exact this
       ·intro x e
        obtain ⟨y, e1, e2⟩ := HA6.out x e
        obtain ⟨z, e3, e4⟩ := HA3.out y e1
        obtain ⟨u, e5, e6⟩ := HAB.out z e3
        exact ⟨u, e5, e2.trans (e4.trans e6)⟩
   ·have hne : (er != 0) = true := bne_iff_ne.2 her
    have hne2 : (er == 0) = false := beq_eq_false_iff_ne.2 her
    have hng : ¬ Begins xs q := by unfold Begins; rw [HT.out, HE.out]; exact her
    have HNG := hid hng
    clear hng her
    go_wp2_with fail
    go_ret2
    exact ⟨_, A3, _, c3, ps, a1, o1, q, rfl, HS3.out, HNP.out, HII.out, ha1, hoq, by omega, HF3.out, HG3.out, HR3.out, fun x e => by obtain ⟨y, e1, e2⟩ := HA3.out x e; obtain ⟨z, e3, e4⟩ := HAB.out y e1; exact ⟨z, e3, e2.trans e4⟩, by omega, .inr ⟨HRR.out, HNG.out⟩⟩
end Go.Proofs.YtnlfcmbpocdpjaaGreat
