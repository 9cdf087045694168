/-
  The parts of what is skipped and of a frame; slices of parts, cut off in front, further on.
-/
import Derived.Test.YtfaedecfpnmnjaaFinds
import Derived.Test.YtfaedecfpnmnjaaPlainFrames
import Derived.Test.YtfaedecfpnmnjaaFrameGet
import Derived.RangeFuncBox
import Derived.OwnWalkIn
import Derived.Maps.AppendAt
namespace Go.Proofs.Ytfaedecfpnmnjaa
open Go.RowKit

set_option maxRecDepth 100000 in
theorem skipped_any (a r : Nat) (ha : a ≤ r) (hr : r ≤ 9223372036854775807) (w : World) :
    Calls Try.prog 56 #[.int .i64 a, .int .i64 r] w fun e w' => e = .returned (.agg #[.int .i64 a, .int .i64 (r - a : Nat), .bool false, .int .i64 0, .slice none 0 0]) ∧ Below w.heap.size w w' := by
  have h1 : (0 : Int) ≤ a := by omega
  have h2 : (a : Int) ≤ r := by omega
  have h3 : (r : Int) ≤ 9223372036854775807 := by omega
  have h4 : ((r - a : Nat) : Int) = (r : Int) - a := by omega
  rw [h4]
  clear h4
  go_enter Try.func56, Try.ntmps56
  go_wp2_with fail
  refine bodyPost_ret (v := .agg #[.int .i64 a, .int .i64 (r - a), .bool false, .int .i64 0, .slice none 0 0]) (by simp [results, Try.results56, go_sem]) rfl ?_
  exact ⟨rfl, (Below.refl _ _).alloc (Nat.le_refl _) _⟩

/-- What framePart answers of what begins at a place. -/
def Part (w : World) (k : Nat) (t : (Int × List Int) × Nat × Int) (r : Ending) (w' : World) : Prop :=
  ∃ A c, r = .returned (.agg #[.int .i64 k, .int .i64 t.2.1, .bool true, .int .i64 t.1.1, .slice A t.1.2.length c]) ∧ Row w' w'.heap.size (.slice A t.1.2.length c) t.1.2 ∧ Below w.heap.size w w'

set_option maxRecDepth 100000 in
theorem framePart_any (A : Option Addr) (c : Nat) (xs : List Int) (hsm : xs.length ≤ 9223372036854775807) (w : World) (hrow : Row w w.heap.size (.slice A xs.length c) xs) (hb : ∀ x ∈ xs, 0 ≤ x ∧ x < 256) (k : Nat) (hk : k ≤ xs.length) :
    Calls Try.prog 57 #[.slice A xs.length c, .int .i64 k] w (Part w k (getFr (xs.drop k))) := by
  have HAT := Lib.hid (fun W (h : Row W W.heap.size (.slice A xs.length c) xs) => at_in A c xs hsm W h hb k hk)
  have HROW := Lib.hid hrow
  clear hrow hb
  generalize getFr (xs.drop k) = t at HAT ⊢
  have k0 : (0 : Int) ≤ k := by omega
  have k1 : (k : Int) ≤ 9223372036854775807 := by omega
  go_enter Try.func57, Try.ntmps57
  go_wp2_with fail
  refine (HAT.out _ ((HROW.out.below ((Below.refl _ _).alloc (Nat.le_refl _) _)).more (by simp))).mono ?_
  rintro e w1 ⟨A1, c1, rfl, hrow1, hb1⟩
  have hz1 : w.heap.size + 1 ≤ w1.heap.size := by simpa using hb1.size
  have hres : Held w1 w.heap.size 41 #[.int .i64 0, .int .i64 0, .bool false, .int .i64 0, .slice none 0 0] := (hb1.block w.heap.size (by simp)).trans (heap_alloc_new w _)
  have bw1 : Below w.heap.size w w1 := ((Below.refl _ _).alloc (Nat.le_refl _) _).trans (hb1.mono (by simp))
  have hres2 : ∀ o : Obj, Held (w1.alloc o) w.heap.size 41 #[.int .i64 0, .int .i64 0, .bool false, .int .i64 0, .slice none 0 0] := fun o => hres.below ((Below.refl _ _).alloc (Nat.le_refl _) _) (by omega)
  have hr0 := fun o => (hres2 o).cell 0
  have hr1 := fun o => (hres2 o).cell 1
  have hr2 := fun o => (hres2 o).cell 2
  have hr3 := fun o => (hres2 o).cell 3
  have hr4 := fun o => (hres2 o).cell 4
  have hf0 := fun o => (hres2 o).frozen 0
  have hf1 := fun o => (hres2 o).frozen 1
  have hf2 := fun o => (hres2 o).frozen 2
  have hf3 := fun o => (hres2 o).frozen 3
  have hf4 := fun o => (hres2 o).frozen 4
  simp at hr0 hr1 hr2 hr3 hr4
  have HRES2 := Lib.hid hres2
  clear hres2
  have HROW1 := Lib.hid hrow1
  have HB1 := Lib.hid bw1
  have HRES := Lib.hid hres
  clear hb1 hrow1 bw1 hres
  go_wp2_with fail
  have hfin := (((((HRES2.out (.cells #[.int .i64 t.1.1, .slice A1 t.1.2.length c1] 30)).put 0 (.int .i64 k)).put 1 (.int .i64 t.2.1)).put 2 (.bool true)).put 3 (.int .i64 t.1.1)).put 4 (.slice A1 t.1.2.length c1)
  have e0 := hfin.cell 0
  have e1 := hfin.cell 1
  have e2 := hfin.cell 2
  have e3 := hfin.cell 3
  have e4 := hfin.cell 4
  simp at e0 e1 e2 e3 e4
  refine bodyPost_ret (v := .agg #[.int .i64 k, .int .i64 t.2.1, .bool true, .int .i64 t.1.1, .slice A1 t.1.2.length c1]) (by simp [results, Try.results57, go_sem, e0, e1, e2, e3, e4]) rfl ?_
  refine ⟨A1, c1, rfl, ?_, ?_⟩
  · refine (HROW1.out.keep_but (g := w.heap.size) (fun k hk hn => ?_) (fun i n => ?_)).more (by simp)
    · rw [Below.heap_setCell _ _ _ k hn, Below.heap_setCell _ _ _ k hn, Below.heap_setCell _ _ _ k hn, Below.heap_setCell _ _ _ k hn, Below.heap_setCell _ _ _ k hn, Below.heap_alloc _ _ _ hk]
    · rw [HRES.out.cell]
      match i with
      | 0 => simp
      | 1 => simp
      | 2 => simp
      | 3 => simp
      | 4 => simp
      | i + 5 => simp
  · exact (((((HB1.out.alloc (by omega) _).setCell (p := ⟨w.heap.size, 0, none⟩) (Nat.le_refl _) _).setCell (p := ⟨w.heap.size, 1, none⟩) (Nat.le_refl _) _).setCell (p := ⟨w.heap.size, 2, none⟩) (Nat.le_refl _) _).setCell (p := ⟨w.heap.size, 3, none⟩) (Nat.le_refl _) _).setCell (p := ⟨w.heap.size, 4, none⟩) (Nat.le_refl _) _
#print axioms skipped_any
#print axioms framePart_any
end Go.Proofs.Ytfaedecfpnmnjaa

namespace Go.Proofs.Ytfaedecfpnmnjaa
open Go.RowKit

/-- A part, and where its frame's payload lies. -/
structure Pt where
  s : Sg
  A : Option Addr
  c : Nat
/-- Its payload's value. -/
abbrev Pt.pv (p : Pt) : Value := .slice p.A p.s.pay.length p.c
/-- Its cells. -/
def Pt.cells (p : Pt) : List Value := [.int .i64 p.s.frm, .int .i64 p.s.n, .bool p.s.isf, .int .i64 p.s.kind, .slice p.A p.s.pay.length p.c]
/-- Its value. -/
abbrev Pt.val (p : Pt) : Value := .agg #[.int .i64 p.s.frm, .int .i64 p.s.n, .bool p.s.isf, .int .i64 p.s.kind, .slice p.A p.s.pay.length p.c]
/-- Its payload reads as it. -/
def Pt.Reads (w : World) (B : Nat) (p : Pt) : Prop := Row w B p.pv p.s.pay
/-- The cells of parts, one behind the other. -/
def flatS : List Pt → List Value
  | [] => []
  | p :: l => p.cells ++ flatS l

theorem flatS_length : ∀ l : List Pt, (flatS l).length = l.length * 5
  | [] => rfl
  | p :: l => by
    rw [flatS, List.length_append, flatS_length l, List.length_cons, show p.cells.length = 5 from rfl]
    omega
theorem flatS_append : ∀ l m : List Pt, flatS (l ++ m) = flatS l ++ flatS m
  | [], _ => rfl
  | p :: l, m => by rw [List.cons_append, flatS, flatS, flatS_append l m, List.append_assoc]
theorem flatS_one (p : Pt) : flatS [p] = p.cells := by rw [flatS, flatS, List.append_nil]
theorem flatS_at : ∀ (l : List Pt) (i : Nat) (p : Pt), l[i]? = some p → ∀ j u, p.cells[j]? = some u → (flatS l)[i * 5 + j]? = some u
  | [], i, p, h, _, _, _ => by simp at h
  | q :: l, 0, p, h, j, u, hj => by
    simp only [List.getElem?_cons_zero, Option.some.injEq] at h
    subst h
    have hlt := (List.getElem?_eq_some_iff.1 hj).1
    rw [flatS, Nat.zero_mul, Nat.zero_add, List.getElem?_append_left hlt]
    exact hj
  | q :: l, i + 1, p, h, j, u, hj => by
    rw [List.getElem?_cons_succ] at h
    rw [flatS, show (i + 1) * 5 + j = q.cells.length + (i * 5 + j) by rw [show q.cells.length = 5 from rfl]; omega, List.getElem?_append_right (by omega), Nat.add_sub_cancel_left]
    exact flatS_at l i p h j u hj
theorem flatS_set : ∀ (l : List Pt) (i : Nat) (p : Pt), i < l.length → ∀ (j : Nat) (u : Value) (q : Pt), l[i]? = some p → q.cells = p.cells.set j u → j < 5 → flatS (l.set i q) = (flatS l).set (i * 5 + j) u
  | [], i, p, h, _, _, _, _, _, _ => by simp at h
  | r :: l, 0, p, _, j, u, q, h, hq, hj => by
    simp only [List.getElem?_cons_zero, Option.some.injEq] at h
    subst h
    rw [List.set_cons_zero, flatS, flatS, hq, Nat.zero_mul, Nat.zero_add, List.set_append_left _ _ (by rw [show r.cells.length = 5 from rfl]; exact hj)]
  | r :: l, i + 1, p, hl, j, u, q, h, hq, hj => by
    rw [List.getElem?_cons_succ] at h
    rw [List.set_cons_succ, flatS, flatS, flatS_set l i p (by simpa using hl) j u q h hq hj, show (i + 1) * 5 + j = r.cells.length + (i * 5 + j) by rw [show r.cells.length = 5 from rfl]; omega,
      List.set_append_right _ _ (by omega), Nat.add_sub_cancel_left]
theorem cells_one (p : Pt) : ∀ u ∈ p.cells, u.oneCell' = true := by
  intro u hu
  simp only [Pt.cells, List.mem_cons, List.not_mem_nil, or_false] at hu
  rcases hu with rfl | rfl | rfl | rfl | rfl <;> rfl
theorem cells_nob (p : Pt) : ∀ u ∈ p.cells, ∀ n : Int, u ≠ .int .u8 n := by
  intro u hu n
  simp only [Pt.cells, List.mem_cons, List.not_mem_nil, or_false] at hu
  rcases hu with rfl | rfl | rfl | rfl | rfl <;> simp
theorem flatS_nob : ∀ l : List Pt, ∀ u ∈ flatS l, ∀ n : Int, u ≠ .int .u8 n
  | [], u, hu, _ => by simp [flatS] at hu
  | p :: l, u, hu, n => by
    rw [flatS] at hu
    rcases List.mem_append.1 hu with h | h
    · exact cells_nob p u h n
    · exact flatS_nob l u h n

/-- No byte stands in the block of a slice's own row. -/
def Clean (w : World) (v : Value) : Prop := ∀ g, v.ownBlock = some g → ∀ (i : Nat) (n : Int), w.cell? ⟨g, i, none⟩ ≠ some (.int .u8 n)
/-- A slice of parts of the call's own. -/
def Segs (w : World) (n0 : Nat) (v : Value) (ps : List Pt) : Prop :=
  w.ownsRow n0 41 5 v ps.length (flatS ps) ∧ Clean w v ∧ ∀ p ∈ ps, p.Reads w w.heap.size

section
variable {w w' : World} {n0 B : Nat} {v : Value} {ps : List Pt}
theorem Pt.Reads.more {p : Pt} {B' : Nat} (h : p.Reads w B) (hB : B ≤ B') : p.Reads w B' := Row.more h hB
theorem Pt.Reads.below {p : Pt} (h : p.Reads w w.heap.size) (hb : Below w.heap.size w w') : p.Reads w' w'.heap.size := (Row.below h hb).more hb.size
/-- What turns blocks alone in which no byte stands turns no payload. -/
theorem Pt.Reads.grown {p : Pt} {row : Option Nat} (h : p.Reads w w.heap.size) (hg : w.grownBy w' row) (hr : ∀ k, row = some k → ∀ (i : Nat) (n : Int), w.cell? ⟨k, i, none⟩ ≠ some (.int .u8 n)) : p.Reads w' w'.heap.size := by
  refine Row.more (w := w') ?_ hg.size
  cases row with
  | none => exact h.keep fun a ha => World.cell?_of_block (hg.block a.block ha (by simp))
  | some g => exact h.keep_but (g := g) (fun k hk hn => hg.block k hk (fun e => hn (by injection e))) (hr g rfl)
theorem Segs.nil (w : World) (n0 : Nat) : Segs w n0 (.slice none 0 0) [] := ⟨World.ownsRow_nil _ _ _ _, fun g h => by simp [Value.ownBlock] at h, by simp⟩
/-- What turns another block, in which no byte stands. -/
theorem Segs.kept {row : Option Nat} (h : Segs w n0 v ps) (hg : w.grownBy w' row) (hne : v.ownBlock = none ∨ v.ownBlock ≠ row) (hr : ∀ k, row = some k → ∀ (i : Nat) (n : Int), w.cell? ⟨k, i, none⟩ ≠ some (.int .u8 n)) : Segs w' n0 v ps := by
  obtain ⟨h1, h2, h3⟩ := h
  refine ⟨h1.kept hg hne, fun g e i n => ?_, fun p hp => (h3 p hp).grown hg hr⟩
  have hlt := (h1.lt g e).2
  rw [World.cell?_of_block (a := ⟨g, i, none⟩) (hg.block g hlt (fun e2 => hne.elim (fun h => by rw [e] at h; cases h) (fun h => h (e.trans e2.symm.symm))))]
  exact h2 g e i n
theorem Segs.below (h : Segs w n0 v ps) (hb : Below w.heap.size w w') : Segs w' n0 v ps :=
  h.kept (row := none) ⟨hb.os, hb.tape, hb.output, hb.size, fun k hk _ => hb.block k hk⟩ (Classical.em _) (fun k e => by cases e)
theorem Segs.alloc (h : Segs w n0 v ps) (o : Obj) : Segs (w.alloc o) n0 v ps := h.below ((Below.refl _ _).alloc (Nat.le_refl _) o)
theorem Segs.putObj {l : Nat} {o : Obj} (h : Segs w n0 v ps) (o' : Obj) (hl : w.heap[l]? = some o) (ho : o.isCells = false) : Segs (w.putObj l o') n0 v ps := by
  refine h.kept (grownBy_putObj' w l o') ?_ (fun k e i n hc => ?_)
  · rcases h.1.2 with ⟨rfl, _⟩ | ⟨g, cap, cur, rfl, _, hgb, _⟩
    · exact .inl rfl
    · refine .inr fun e => ?_
      obtain rfl : g = l := by simpa [Value.ownBlock] using e
      rw [hgb] at hl
      cases hl
      cases ho
  · obtain rfl : l = k := by injection e
    obtain ⟨o2, ho2, hc2⟩ := cells_of_cell hc
    rw [show w.heap[l]? = some o from hl] at ho2
    cases ho2
    rw [ho] at hc2
    cases hc2
/-- What turns no cells. -/
def Turned (w w' : World) (row : Option Nat) : Prop := w.grownBy w' row ∧ ∀ r, row = some r → ∃ o : Obj, w.heap[r]? = some o ∧ o.isCells = false
theorem Turned.nob {row : Option Nat} (h : Turned w w' row) : ∀ k, row = some k → ∀ (i : Nat) (n : Int), w.cell? ⟨k, i, none⟩ ≠ some (.int .u8 n) := by
  intro k e i n hc
  obtain ⟨o, ho, hn⟩ := h.2 k e
  obtain ⟨o2, ho2, hc2⟩ := cells_of_cell hc
  rw [show w.heap[k]? = some o from ho] at ho2
  cases ho2
  rw [hn] at hc2
  cases hc2
theorem Turned.block {row : Option Nat} (h : Turned w w' row) {g : Nat} {cs : Array Value} {t : TypeId} {fr : Nat × Nat} (hg : w.heap[g]? = some (.cells cs t fr)) : w'.heap[g]? = some (.cells cs t fr) := by
  refine (h.1.block g (Array.getElem?_eq_some_iff.1 hg).1 fun e => ?_).trans hg
  obtain ⟨o, ho, hn⟩ := h.2 g e.symm
  rw [hg] at ho
  cases ho
  cases hn
theorem Segs.turned {row : Option Nat} (h : Segs w n0 v ps) (ht : Turned w w' row) : Segs w' n0 v ps := by
  refine h.kept ht.1 ?_ ht.nob
  rcases h.1.2 with ⟨rfl, _⟩ | ⟨g, cap, cur, rfl, _, hgb, _⟩
  · exact .inl rfl
  · refine .inr fun e => ?_
    obtain ⟨o, ho, hn⟩ := ht.2 g (by rw [← e]; rfl)
    rw [hgb] at ho
    cases ho
    cases hn
theorem Pt.Reads.turned {p : Pt} {row : Option Nat} (h : p.Reads w w.heap.size) (ht : Turned w w' row) : p.Reads w' w'.heap.size := h.grown ht.1 ht.nob
/-- A row of one's own of another type's elements lies elsewhere. -/
theorem Segs.apart {g : Nat} {t : TypeId} {cs : Array Value} {fr : Nat × Nat} (h : Segs w n0 v ps) (hg : w.heap[g]? = some (.cells cs t fr)) (ht : t ≠ 41) : v.ownBlock = none ∨ v.ownBlock ≠ some g := by
  rcases h.1.2 with ⟨rfl, _⟩ | ⟨g', cap, cur, rfl, _, hgb, _⟩
  · exact .inl rfl
  · refine .inr fun e => ?_
    obtain rfl : g' = g := by simpa [Value.ownBlock] using e
    rw [hgb] at hg
    injection hg with hg
    injection hg with _ e3 _
    exact ht e3.symm
theorem Segs.form (h : Segs w n0 v ps) : ∃ A c, v = .slice A ps.length c ∧ ps.length ≤ c ∧ c ≤ 9223372036854775807 := by
  rcases h.1.2 with ⟨rfl, h0⟩ | ⟨g, cap, cur, rfl, _, _, h1, h2, _⟩
  · exact ⟨none, 0, by rw [h0], by omega, by omega⟩
  · unfold maxLen at h2
    exact ⟨_, cap, rfl, h1, by omega⟩
end

/-- append of a part behind a slice of parts of the call's own. -/
theorem run_append_seg {P : Program} (w : World) (t ty : TypeId) (i : TypeInfo) (z : Value) (ht : P.underlying t = some (.slice 41)) (hi : P.info? 41 = some i) (hz : i.zero = some z)
    (hsize : i.size = 5) (hby : i.bytes ≤ 100) (hzs : z.cells = #[.int .i64 0, .int .i64 0, .bool false, .int .i64 0, .slice none 0 0])
    (n0 : Nat) (v : Value) (ps : List Pt) (hs : Segs w n0 v ps) (ad : Addr) (c : Nat) (p : Pt) (hc : ∀ j u, p.cells[j]? = some u → w.cell? (ad.add j) = some u) (hp : p.Reads w w.heap.size)
    (hlen : ps.length + 1 ≤ 1000000000000) (hbase : n0 ≤ w.heap.size) :
    ∃ v' w', (Builtin.append_ #[t, t] ty #[v, .slice (some ad) 1 c]).run P w = .ok v' w' ∧ Segs w' n0 v' (ps ++ [p]) ∧ w.grownBy w' v.ownBlock := by
  have hl5 : p.cells.length = 1 * 5 := rfl
  have hb2 : (ps.length + 1) * i.bytes ≤ 140737488355328 := Nat.le_trans (Nat.mul_le_mul hlen hby) (by omega)
  have hm : ps.length + 1 ≤ maxLen := by unfold maxLen; omega
  obtain ⟨v', w', hrun, hown, hgr, _⟩ := run_append_own (P := P) w n0 t ty _ i z 5 i.bytes ht hi hz hsize rfl (by rw [hzs]; rfl) (by omega) v ps.length (flatS ps) hs.1 ad 1 c p.cells hl5 hc (cells_one p) hm hb2 hbase
  refine ⟨v', w', hrun, ⟨by simpa [flatS_append, flatS_one] using hown, ?_, fun q hq => ?_⟩, hgr⟩
  · -- what it comes to, written out
    have hzb : ∀ (k : Nat) (u : Value), u ∈ (Builtin.zeroCells z.cells k).toList → ∀ n : Int, u ≠ .int .u8 n := by
      intro k u hu n
      simp only [Builtin.zeroCells, hzs] at hu
      simp at hu
      obtain ⟨a, _, rfl⟩ := hu
      have ha : a % 5 = 0 ∨ a % 5 = 1 ∨ a % 5 = 2 ∨ a % 5 = 3 ∨ a % 5 = 4 := by omega
      rcases ha with e | e | e | e | e <;> rw [e] <;> simp
    have new : ∀ (cur : Array Value), (∀ u ∈ cur.toList, ∀ n : Int, u ≠ .int .u8 n) → ∀ (i : Nat) (n : Int), (w.drew.alloc (.cells cur 41)).cell? ⟨w.heap.size, i, none⟩ ≠ some (.int .u8 n) := by
      intro cur hcur i n e
      rw [cell_of_row _ w.heap.size i cur _ (0, 0) (heap_alloc_new w.drew _)] at e
      exact hcur _ (by obtain ⟨hlt, he⟩ := Array.getElem?_eq_some_iff.1 e; rw [← he]; exact Array.getElem_mem_toList hlt) n rfl
    intro g hg i' n
    rcases hs.1.2 with ⟨rfl, h0⟩ | ⟨b, cap, cur, rfl, _, hgb, hnc, hcm, hcs, htake⟩
    · have hr := run_append_nil (P := P) w t ty _ i z ht hi hz ad 1 c p.cells (by rw [hsize]; exact hl5) hc (by omega) (by omega) (by omega)
      rw [hrun] at hr
      injection hr with e1 e2
      subst e1 e2
      obtain rfl : w.heap.size = g := by simpa [Value.ownBlock] using hg
      refine new _ (fun u hu => ?_) i' n
      simp only [Array.toList_append, List.mem_append] at hu
      rcases hu with hu | hu
      · exact cells_nob p u hu
      · exact hzb _ u hu
    · by_cases hroom : ps.length + 1 ≤ cap
      · have hr := run_append_room (P := P) w t ty _ i ht hi b ps.length cap cur hgb ad 1 c p.cells (by rw [hsize]; exact hl5) hc (cells_one p) hroom (by rw [hsize, hcs, hl5]; omega)
        rw [hrun] at hr
        injection hr with e1 e2
        subst e1 e2
        obtain rfl : b = g := by simpa [Value.ownBlock] using hg
        rw [cell_setRow_same w b i' cur _ _ _ hgb]
        intro e
        have hmem : (Value.int .u8 n) ∈ cur.toList.take (ps.length * i.size) ++ p.cells ++ cur.toList.drop (ps.length * i.size + p.cells.length) := by
          rw [List.getElem?_toArray] at e
          exact List.mem_of_getElem? e
        have hold : ∀ u ∈ cur.toList, ∀ n : Int, u ≠ .int .u8 n := by
          intro u hu n e
          obtain ⟨k, hk⟩ := List.mem_iff_getElem?.1 hu
          refine hs.2.1 b rfl k n ?_
          rw [cell_of_row w b k cur _ _ hgb, ← e]
          simpa using hk
        rcases List.mem_append.1 hmem with h | h
        · rcases List.mem_append.1 h with h | h
          · exact hold _ (List.mem_of_mem_take h) n rfl
          · exact cells_nob p _ h n rfl
        · exact hold _ (List.mem_of_mem_drop h) n rfl
      · have hr := run_append_grow (P := P) w t ty _ i z ht hi hz ⟨b, 0, none⟩ ps.length cap (flatS ps) (by rw [hsize]; exact flatS_length ps) (hs.1.cells (g := b) rfl) ad 1 c p.cells (by rw [hsize]; exact hl5) hc (by omega) (by omega) (growslice_fits (by omega) hb2)
        rw [hrun] at hr
        injection hr with e1 e2
        subst e1 e2
        obtain rfl : w.heap.size = g := by simpa [Value.ownBlock] using hg
        refine new _ (fun u hu => ?_) i' n
        simp only [Array.toList_append, List.mem_append] at hu
        rcases hu with (hu | hu) | hu
        · exact flatS_nob ps u hu
        · exact cells_nob p u hu
        · exact hzb _ u hu
  · rcases List.mem_append.1 hq with h | h
    · exact (hs.2.2 q h).grown hgr hs.2.1
    · obtain rfl : q = p := by simpa using h
      exact hp.grown hgr hs.2.1

/-- The same in a region's list. -/
theorem wpList_append_seg {P : Program} {w : World} {ops : Array Oper} {rest : List Oper} {o : Oper} {a : Act} {Q : Exit → Act → World → Prop} (hgd : o.guard = none) (s x : Operand) (t : TypeId)
    (ho : o.op = .call { callee := .builtin .append, args := #[s, x], argTypes := #[t, t] })
    (i : TypeInfo) (z : Value) (ht : P.underlying t = some (.slice 41)) (hi : P.info? 41 = some i) (hz : i.zero = some z)
    (hsize : i.size = 5) (hby : i.bytes ≤ 100) (hzs : z.cells = #[.int .i64 0, .int .i64 0, .bool false, .int .i64 0, .slice none 0 0])
    (n0 : Nat) (v : Value) (ps : List Pt) (hs : a.eval s = v) (hown : Segs w n0 v ps) (ad : Addr) (c : Nat) (p : Pt) (hx : a.eval x = .slice (some ad) 1 c) (hc : ∀ j u, p.cells[j]? = some u → w.cell? (ad.add j) = some u) (hp : p.Reads w w.heap.size)
    (hlen : ps.length + 1 ≤ 1000000000000) (hbase : n0 ≤ w.heap.size)
    (h : ∀ v' w', Segs w' n0 v' (ps ++ [p]) → w.grownBy w' v.ownBlock → wpList P ops Q rest (a.put o.dst v') w') : wpList P ops Q (o :: rest) a w := by
  refine wpList_plain hgd fun _ hK => ?_
  obtain ⟨v', w', hr, h2, h3⟩ := run_append_seg (P := P) w t o.type i z ht hi hz hsize hby hzs n0 v ps hown ad c p hc hp hlen hbase
  unfold Oper.wp execOp
  simp only [ho, resolve, invoke, builtin, Sem.run_bind, Sem.run_pure, Result.andThen_ok, List.map_toArray, List.map_cons, List.map_nil, hs, hx, hr]
  exact hK _ _ (h v' w' h2 h3)
/-- The same inside a fence. -/
theorem wpListIn_append_seg {F : Fence} {n : Nat} {P : Program} {w : World} {ops : Array Oper} {rest : List Oper} {o : Oper} {a : Act} {Q : Exit → Act → World → Prop} (hgd : o.guard = none) (s x : Operand) (t : TypeId)
    (ho : o.op = Op.call { callee := Callee.builtin Builtin.append, args := #[s, x], argTypes := #[t, t] })
    (i : TypeInfo) (z : Value) (ht : P.underlying t = some (.slice 41)) (hi : P.info? 41 = some i) (hz : i.zero = some z)
    (hsize : i.size = 5) (hby : i.bytes ≤ 100) (hzs : z.cells = #[.int .i64 0, .int .i64 0, .bool false, .int .i64 0, .slice none 0 0])
    (n0 : Nat) (v : Value) (ps : List Pt) (hs : a.eval s = v) (hown : Segs w n0 v ps) (ad : Addr) (c : Nat) (p : Pt) (hx : a.eval x = .slice (some ad) 1 c) (hc : ∀ j u, p.cells[j]? = some u → w.cell? (ad.add j) = some u) (hp : p.Reads w w.heap.size)
    (hlen : ps.length + 1 ≤ 1000000000000) (hbase : n0 ≤ w.heap.size)
    (h : ∀ v' w', Segs w' n0 v' (ps ++ [p]) → w.grownBy w' v.ownBlock → wpListIn F n P ops Q rest (a.put o.dst v') w') : wpListIn F n P ops Q (o :: rest) a w := by
  refine wpListIn_plain hgd fun K hK' => ?_
  obtain ⟨v', w', hrun, h2, h3⟩ := run_append_seg (P := P) w t o.type i z ht hi hz hsize hby hzs n0 v ps hown ad c p hc hp hlen hbase
  unfold Oper.wpIn
  refine ⟨?_, ?_⟩
  · simp [Oper.about, ho, resolve, Target.leads, Sem.run_pure]
  · rw [Oper.semAt_plain F _ _ (by rw [ho]; intro c hc'; cases hc')]
    simp [execOp, ho, resolve, invoke, builtin, hs, hx, hrun, Result.andThen]
    exact hK' _ _ (h v' w' h2 h3)

/-- The slice value reads as parts; they lie in a block below B. -/
def SegRow (w : World) (B : Nat) (v : Value) (ps : List Pt) : Prop :=
  ∃ A c, v = .slice A ps.length c ∧ ps.length ≤ c ∧ c ≤ maxLen ∧ (A = none → c = 0) ∧
    (0 < ps.length → ∃ b o, A = some ⟨b, o, none⟩ ∧ b < B ∧ ∀ i p, ps[i]? = some p → ∀ j u, p.cells[j]? = some u → w.cell? ⟨b, o + i * 5 + j, none⟩ = some u) ∧ ∀ p ∈ ps, p.Reads w B
section
variable {w w' : World} {n0 B : Nat} {v : Value} {ps : List Pt}
theorem Segs.row (h : Segs w n0 v ps) : SegRow w w.heap.size v ps := by
  obtain ⟨h1, _, h3⟩ := h
  rcases h1.2 with ⟨rfl, h0⟩ | ⟨g, cap, cur, rfl, _, hg, hnc, hcm, _, _⟩
  · obtain rfl : ps = [] := List.eq_nil_of_length_eq_zero h0
    exact ⟨none, 0, rfl, Nat.le_refl _, Nat.zero_le _, fun _ => rfl, fun h => absurd h (by simp), by simp⟩
  · refine ⟨some ⟨g, 0, none⟩, cap, rfl, hnc, hcm, by simp, fun _ => ⟨g, 0, rfl, (Array.getElem?_eq_some_iff.1 hg).1, fun i p hp j u hj => ?_⟩, h3⟩
    have := flatS_at ps i p hp j u hj
    have hlt := (List.getElem?_eq_some_iff.1 this).1
    rw [flatS_length] at hlt
    rw [Nat.zero_add, h1.cellAt _ hlt]
    exact this
theorem SegRow.below (h : SegRow w w.heap.size v ps) (hb : Below w.heap.size w w') : SegRow w' w'.heap.size v ps := by
  obtain ⟨A, c, hv, h1, h2, h3, h4, h5⟩ := h
  refine ⟨A, c, hv, h1, h2, h3, fun hn => ?_, fun p hp => (h5 p hp).below hb⟩
  obtain ⟨b, o, e, hlt, hc⟩ := h4 hn
  exact ⟨b, o, e, Nat.lt_of_lt_of_le hlt hb.size, fun i p hp j u hj => (hb.cell (p := ⟨b, o + i * 5 + j, none⟩) hlt).trans (hc i p hp j u hj)⟩
theorem SegRow.form (h : SegRow w B v ps) : ∃ A c, v = .slice A ps.length c ∧ ps.length ≤ c ∧ c ≤ 9223372036854775807 := by
  obtain ⟨A, c, hv, h1, h2, _⟩ := h
  unfold maxLen at h2
  exact ⟨A, c, hv, h1, by omega⟩
/-- The cells of the part at a place. -/
theorem SegRow.at {A : Option Addr} {n c : Nat} (h : SegRow w B (.slice A n c) ps) {i : Nat} {p : Pt} (hp : ps[i]? = some p) : ∃ b o, A = some ⟨b, o, none⟩ ∧ b < B ∧
    w.cell? ⟨b, o + i * 5, none⟩ = some (.int .i64 p.s.frm) ∧ w.cell? ⟨b, o + i * 5 + 1, none⟩ = some (.int .i64 p.s.n) ∧ w.cell? ⟨b, o + i * 5 + 2, none⟩ = some (.bool p.s.isf) ∧
    w.cell? ⟨b, o + i * 5 + 3, none⟩ = some (.int .i64 p.s.kind) ∧ w.cell? ⟨b, o + i * 5 + 4, none⟩ = some (.slice p.A p.s.pay.length p.c) ∧ p.Reads w B := by
  obtain ⟨A', c', hv, h1, h2, h3, h4, h5⟩ := h
  injection hv with e1 e2 e3
  subst e1 e3
  have hlt := (List.getElem?_eq_some_iff.1 hp).1
  obtain ⟨b, o, rfl, hb, hc⟩ := h4 (by omega)
  exact ⟨b, o, rfl, hb, hc i p hp 0 _ rfl, hc i p hp 1 _ rfl, hc i p hp 2 _ rfl, hc i p hp 3 _ rfl, hc i p hp 4 _ rfl, h5 p (List.mem_of_getElem? hp)⟩
/-- A store into a cell of one of them that is no payload. -/
theorem Segs.store {g cap : Nat} (h : Segs w n0 (.slice (some ⟨g, 0, none⟩) ps.length cap) ps) {i : Nat} {p q : Pt} (hp : ps[i]? = some p) (j : Nat) (hj : j < 5) (u : Value) (hq : q.cells = p.cells.set j u) (hs : q.s.pay = p.s.pay) (hA : q.A = p.A) (hcc : q.c = p.c) (hu : ∀ n : Int, u ≠ .int .u8 n) :
    Segs (w.setCell ⟨g, i * 5 + j, none⟩ u) n0 (.slice (some ⟨g, 0, none⟩) ps.length cap) (ps.set i q) := by
  obtain ⟨h1, h2, h3⟩ := h
  have hlt := (List.getElem?_eq_some_iff.1 hp).1
  have hgr : w.grownBy (w.setCell ⟨g, i * 5 + j, none⟩ u) (some g) := ⟨rfl, rfl, rfl, (KeepsWalks.setCell w _ u).size, fun k _ hk => Below.heap_setCell _ _ _ k (fun e => hk (by rw [e]))⟩
  have hclean : ∀ k, some g = some k → ∀ (i : Nat) (n : Int), w.cell? ⟨k, i, none⟩ ≠ some (.int .u8 n) := fun k e => h2 k e
  refine ⟨?_, fun g' e i' n => ?_, fun r hr => ?_⟩
  · rw [List.length_set, flatS_set ps i p hlt j u q hp hq hj]
    exact (h1.stored _ u).1
  · obtain rfl : g = g' := by simpa [Value.ownBlock] using e
    by_cases he : i' = i * 5 + j
    · subst he
      have hsome : (w.cell? ⟨g, i * 5 + j, none⟩).isSome = true := by
        rw [h1.cellAt _ (by omega), List.getElem?_eq_getElem (by rw [flatS_length]; omega)]
        rfl
      rw [World.cell?_setCell_same' w ⟨g, i * 5 + j, none⟩ u hsome]
      intro e2
      exact hu n (by injection e2)
    · have hne : (⟨g, i * 5 + j, none⟩ : Addr) ≠ ⟨g, i', none⟩ := by
        intro e3
        injection e3 with _ e4 _
        exact he e4.symm
      rw [World.cell?_setCell_other (h := hne)]
      exact h2 g rfl i' n
  · have hok : ∀ x ∈ ps, x.Reads (w.setCell ⟨g, i * 5 + j, none⟩ u) (w.setCell ⟨g, i * 5 + j, none⟩ u).heap.size := fun x hx => (h3 x hx).grown hgr hclean
    rcases List.mem_or_eq_of_mem_set hr with h | rfl
    · exact hok r h
    · have := hok p (List.mem_of_getElem? hp)
      unfold Pt.Reads Pt.pv at this ⊢
      rw [hs, hA, hcc]
      exact this
end
theorem Try.infoSeg : (Try.prog.info? 41).map (fun i => (i.zero, i.size, i.bytes)) = some (some (.agg #[.int .i64 0, .int .i64 0, .bool false, .int .i64 0, .slice none 0 0]), 5, 56) := by kernel_rfl
#print axioms run_append_seg
end Go.Proofs.Ytfaedecfpnmnjaa

namespace Go.Proofs.Ytfaedecfpnmnjaa
open Go.RowKit

theorem SegRow.drop {w : World} {B : Nat} {A : Option Addr} {n c : Nat} {ps : List Pt} (h : SegRow w B (.slice A n c) ps) {k : Nat} (hk : k ≤ ps.length) :
    SegRow w B (.slice (if c = k then A else A.map (·.add (k * 5))) (ps.drop k).length (c - k)) (ps.drop k) := by
  obtain ⟨A', c', hv, h1, h2, h3, h4, h5⟩ := h
  injection hv with e1 e2 e3
  subst e1 e3
  have hl : (ps.drop k).length = ps.length - k := by simp
  refine ⟨_, _, rfl, by omega, by omega, fun h => ?_, fun hn => ?_, fun p hp => h5 p (List.mem_of_mem_drop hp)⟩
  · by_cases e : c = k
    · omega
    · rw [if_neg e] at h
      have : A = none := by simpa using h
      have := h3 this
      omega
  · obtain ⟨b, o, rfl, hb, hc⟩ := h4 (by omega)
    refine ⟨b, o + k * 5, by rw [if_neg (by omega)]; simp [Go.WideShapes.add_plain], hb, fun i p hp j u hj => ?_⟩
    rw [List.getElem?_drop] at hp
    have := hc (k + i) p hp j u hj
    rw [show o + k * 5 + i * 5 + j = o + (k + i) * 5 + j by omega]
    exact this

/-- A part that stands further on. -/
def shiftP (K : Nat) (p : Pt) : Pt := ⟨shiftS K p.s, p.A, p.c⟩
theorem shiftP_map (K : Nat) (ps : List Pt) : (ps.map (shiftP K)).map (·.s) = (ps.map (·.s)).map (shiftS K) := by simp [shiftP, Function.comp_def]
/-- The first k of them further on. -/
def shifted (K k : Nat) (ps : List Pt) : List Pt := (ps.take k).map (shiftP K) ++ ps.drop k
theorem shifted_length (K k : Nat) (ps : List Pt) : (shifted K k ps).length = ps.length := by
  rw [shifted, List.length_append, List.length_map, List.length_take, List.length_drop]
  omega
theorem shifted_zero (K : Nat) (ps : List Pt) : shifted K 0 ps = ps := by simp [shifted]
theorem shifted_all (K : Nat) (ps : List Pt) : shifted K ps.length ps = ps.map (shiftP K) := by simp [shifted]
theorem shifted_at {K k : Nat} {ps : List Pt} {p : Pt} (h : ps[k]? = some p) : (shifted K k ps)[k]? = some p := by
  have hlt := (List.getElem?_eq_some_iff.1 h).1
  have hl : ((ps.take k).map (shiftP K)).length = k := by rw [List.length_map, List.length_take]; omega
  rw [shifted, List.getElem?_append_right (by omega), hl, Nat.sub_self, List.getElem?_drop, Nat.add_zero]
  exact h
theorem shifted_set {K k : Nat} {ps : List Pt} {p : Pt} (h : ps[k]? = some p) : (shifted K k ps).set k (shiftP K p) = shifted K (k + 1) ps := by
  obtain ⟨hlt, he⟩ := List.getElem?_eq_some_iff.1 h
  have hl : ((ps.take k).map (shiftP K)).length = k := by rw [List.length_map, List.length_take]; omega
  rw [shifted, List.set_append_right _ _ (by omega), hl, Nat.sub_self, List.drop_eq_getElem_cons hlt, List.set_cons_zero, shifted, List.take_add_one, h, List.map_append]
  simp
/-- The store that moves one. -/
theorem Segs.moved {w : World} {n0 g cap K k : Nat} {ps : List Pt} {p : Pt} {N : Nat} (hN : ps.length = N) (h : Segs w n0 (.slice (some ⟨g, 0, none⟩) N cap) (shifted K k ps)) (hp : ps[k]? = some p) :
    Segs (w.setCell ⟨g, k * 5, none⟩ (.int .i64 ((p.s.frm : Int) + K))) n0 (.slice (some ⟨g, 0, none⟩) N cap) (shifted K (k + 1) ps) := by
  have hl := shifted_length K k ps
  rw [hN] at hl
  rw [← hl] at h ⊢
  have := h.store (i := k) (p := p) (q := shiftP K p) (shifted_at hp) 0 (by omega) (.int .i64 ((p.s.frm : Int) + K)) (by simp [shiftP, shiftS, Pt.cells]) rfl rfl rfl (by simp)
  rwa [shifted_set hp] at this
end Go.Proofs.Ytfaedecfpnmnjaa
