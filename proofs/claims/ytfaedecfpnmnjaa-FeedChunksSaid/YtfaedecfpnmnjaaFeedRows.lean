/-
  What turns one block and one row alone; append of parts behind parts, of bytes behind a row (and where that lies); clear of a row of bytes. No program here.
-/
import Derived.Test.YtfaedecfpnmnjaaSegRows
import Derived.Test.YtfaedecfpnmnjaaCurNew
import Derived.Lib.SliceRun
import Derived.Maps.AppendAt
namespace Go.Proofs.Ytfaedecfpnmnjaa
open Go.RowKit

/-- What turns block g, and the block of a row, alone. -/
structure But (w w' : World) (row : Option Nat) (g : Nat) : Prop where
  os : w'.os = w.os
  tape : w'.tape = w.tape
  output : w'.output = w.output
  size : w.heap.size ≤ w'.heap.size
  block : ∀ k, k < w.heap.size → k ≠ g → some k ≠ row → w'.heap[k]? = w.heap[k]?

section
variable {w w' w2 : World} {row row' : Option Nat} {g : Nat}
theorem But.refl (w : World) (row : Option Nat) (g : Nat) : But w w row g := ⟨rfl, rfl, rfl, Nat.le_refl _, fun _ _ _ _ => rfl⟩
theorem But.of_one (h : w.grownBy w' (some g)) (row : Option Nat) : But w w' row g := ⟨h.os, h.tape, h.output, h.size, fun k hk hn _ => h.block k hk (fun e => hn (by injection e))⟩
theorem But.of_row (h : w.grownBy w' row) (g : Nat) : But w w' row g := ⟨h.os, h.tape, h.output, h.size, fun k hk _ hn => h.block k hk hn⟩
theorem But.of_below (h : Below w.heap.size w w') (row : Option Nat) (g : Nat) : But w w' row g := ⟨h.os, h.tape, h.output, h.size, fun k hk _ _ => h.block k hk⟩
theorem But.trans (h : But w w' row g) (k : But w' w2 row' g) (hr : ∀ j, row' = some j → row = some j ∨ w.heap.size ≤ j) : But w w2 row g :=
  ⟨k.os.trans h.os, k.tape.trans h.tape, k.output.trans h.output, Nat.le_trans h.size k.size, fun i hi hn hn2 =>
    (k.block i (Nat.lt_of_lt_of_le hi h.size) hn (fun e => (hr i e.symm).elim (fun e2 => hn2 e2.symm) (fun h => by omega))).trans (h.block i hi hn hn2)⟩
theorem But.one (h : But w w' none g) : w.grownBy w' (some g) := ⟨h.os, h.tape, h.output, h.size, fun k hk hn => h.block k hk (fun e => hn (by rw [e])) (by simp)⟩
/-- All below a bound but block g, where the row lies above. -/
theorem But.low {n : Nat} (h : But w w' row g) (hn : n ≤ w.heap.size) (hg : n ≤ g) (hr : ∀ j, row = some j → n ≤ j) : Below n w w' :=
  ⟨h.os, h.tape, h.output, h.size, fun k hk => h.block k (by omega) (by omega) (fun e => by have := hr k e.symm; omega)⟩
theorem But.held {k : Nat} {t : TypeId} {cs : Array Value} (h : But w w' row g) (hk : Held w k t cs) (h1 : k ≠ g) (h2 : some k ≠ row) : Held w' k t cs := (h.block k hk.lt h1 h2).trans hk
theorem But.bytes {B : Nat} {A : Option Addr} {n c : Nat} {xs : List Int} (h : But w w' row g) (hr : Row w B (.slice A n c) xs) (hg : ∀ (i : Nat) (n : Int), w.cell? ⟨g, i, none⟩ ≠ some (.int .u8 n)) (hA : ∀ a, A = some a → row ≠ some a.block) : Row w' B (.slice A n c) xs := by
  obtain ⟨A', c', hv, h1, h2, h3, h4⟩ := hr
  injection hv with e1 e2 e3
  subst e1 e3
  refine ⟨_, _, by rw [e2], h1, h2, h3, fun hn => ?_⟩
  obtain ⟨b, o, e, hb, hc⟩ := h4 hn
  refine ⟨b, o, e, hb, fun i hi => ?_⟩
  have hlt : b < w.heap.size := World.block_lt_of_cell? w ⟨b, o + 0, none⟩ (hc 0 hn)
  have hne : b ≠ g := fun e => by
    subst e
    exact hg _ _ (hc 0 hn)
  exact (World.cell?_of_block (h.block b hlt hne (fun e2 => hA _ e e2.symm))).trans (hc i hi)
theorem But.clean {B : Nat} {v : Value} {xs : List Int} (h : But w w' row g) (hr : Row w B v xs) (hg : ∀ (i : Nat) (n : Int), w.cell? ⟨g, i, none⟩ ≠ some (.int .u8 n)) (hc : ∀ j, row = some j → ∀ (i : Nat) (n : Int), w.cell? ⟨j, i, none⟩ ≠ some (.int .u8 n)) : Row w' B v xs := by
  obtain ⟨A, c, hv, h1, h2, h3, h4⟩ := hr
  refine ⟨_, _, hv, h1, h2, h3, fun hn => ?_⟩
  obtain ⟨b, o, e, hb, hcell⟩ := h4 hn
  refine ⟨b, o, e, hb, fun i hi => ?_⟩
  have hlt : b < w.heap.size := World.block_lt_of_cell? w ⟨b, o + 0, none⟩ (hcell 0 hn)
  exact (World.cell?_of_block (h.block b hlt (fun e => by subst e; exact hg _ _ (hcell 0 hn)) (fun e2 => hc b e2.symm _ _ (hcell 0 hn)))).trans (hcell i hi)
/-- The payloads lie in no block of a row. -/
def Off (row : Option Nat) (ps : List Pt) : Prop := ∀ p ∈ ps, ∀ a, p.A = some a → row ≠ some a.block
/-- Those that are something lie in no block of a row. -/
def OffN (row : Option Nat) (ps : List Pt) : Prop := ∀ p ∈ ps, p.s.pay ≠ [] → ∀ a, p.A = some a → row ≠ some a.block
theorem OffN.append {ps qs : List Pt} (h : OffN row ps) (k : OffN row qs) : OffN row (ps ++ qs) := fun p hp => (List.mem_append.1 hp).elim (h p) (k p)
theorem OffN.nil (row : Option Nat) : OffN row [] := fun p hp => by simp at hp
/-- The payloads lie in blocks from n on. -/
def NewP (n : Nat) (ps : List Pt) : Prop := ∀ p ∈ ps, ∀ a, p.A = some a → n ≤ a.block
theorem Off.none (ps : List Pt) : Off none ps := fun _ _ _ _ e => by cases e
theorem Off.append {ps qs : List Pt} (h : Off row ps) (k : Off row qs) : Off row (ps ++ qs) := fun p hp => (List.mem_append.1 hp).elim (h p) (k p)
theorem NewP.append {n : Nat} {ps qs : List Pt} (h : NewP n ps) (k : NewP n qs) : NewP n (ps ++ qs) := fun p hp => (List.mem_append.1 hp).elim (h p) (k p)
theorem NewP.nil (n : Nat) : NewP n [] := fun p hp => by simp at hp
theorem Off.nil (row : Option Nat) : Off row [] := fun p hp => by simp at hp
theorem NewP.less {n m : Nat} {ps : List Pt} (h : NewP n ps) (hm : m ≤ n) : NewP m ps := fun p hp a e => Nat.le_trans hm (h p hp a e)
theorem NewP.off {n : Nat} {ps : List Pt} (h : NewP n ps) (hr : ∀ j, row = some j → j < n) : Off row ps := fun p hp a e e2 => by
  have := h p hp a e
  have := hr _ e2
  omega
/-- A payload that is none, or stands in memory, lies below the heap's end. -/
def LowP (n : Nat) (ps : List Pt) : Prop := ∀ p ∈ ps, ∀ a, p.A = some a → p.s.pay ≠ [] → a.block < n
theorem reads_low {n : Nat} {ps : List Pt} (h : ∀ p ∈ ps, p.Reads w w.heap.size) (hn : w.heap.size = n) : LowP n ps := by
  intro p hp a e hne
  obtain ⟨A, c, hv, _, _, _, h4⟩ := h p hp
  have hl : 0 < p.s.pay.length := by cases hq : p.s.pay with | nil => exact absurd hq hne | cons _ _ => simp
  obtain ⟨b, o, e2, hb, _⟩ := h4 hl
  injection hv with e3 _ _
  rw [e] at e3
  rw [e2] at e3
  injection e3 with e4
  rw [e4, ← hn]
  exact hb
theorem NewP.offN {n : Nat} {ps : List Pt} (h : NewP n ps) (hr : ∀ j, row = some j → j < n) : OffN row ps := fun p hp _ => h.off hr p hp
theorem LowP.offN {n : Nat} {ps : List Pt} (h : LowP n ps) (hr : ∀ j, row = some j → n ≤ j) : OffN row ps := fun p hp hne a e e2 => by
  have := h p hp a e hne
  have := hr _ e2
  omega
theorem Pt.Reads.but {p : Pt} (hr : p.Reads w w.heap.size) (h : But w w' row g) (hg : ∀ (i : Nat) (n : Int), w.cell? ⟨g, i, Option.none⟩ ≠ some (.int .u8 n)) (hA : p.s.pay ≠ [] → ∀ a, p.A = some a → row ≠ some a.block) : p.Reads w' w'.heap.size := by
  by_cases hp : p.s.pay = []
  · obtain ⟨A', c', hv, h1, h2, h3, h4⟩ := hr
    exact ⟨A', c', hv, h1, h2, h3, fun h => absurd h (by rw [hp]; simp)⟩
  · exact (h.bytes hr hg (hA hp)).more h.size
theorem Segs.but {n0 : Nat} {v : Value} {ps : List Pt} (hs : Segs w n0 v ps) (h : But w w' row g) (hg : ∀ (i : Nat) (n : Int), w.cell? ⟨g, i, Option.none⟩ ≠ some (.int .u8 n)) (h1 : v.ownBlock = none ∨ v.ownBlock ≠ some g) (h2 : v.ownBlock = none ∨ v.ownBlock ≠ row)
    (hA : OffN row ps) : Segs w' n0 v ps := by
  obtain ⟨⟨q1, q2⟩, q3, q4⟩ := hs
  have hkeep : ∀ b, v.ownBlock = some b → b < w.heap.size → w'.heap[b]? = w.heap[b]? := fun b e hlt =>
    h.block b hlt (fun e2 => h1.elim (fun h => by rw [e] at h; cases h) (fun h => h (by rw [e, e2]))) (fun e2 => h2.elim (fun h => by rw [e] at h; cases h) (fun h => h (e.trans e2)))
  refine ⟨⟨q1, ?_⟩, fun b e i n => ?_, fun p hp => (q4 p hp).but h hg (hA p hp)⟩
  · rcases q2 with q2 | ⟨b, cap, cur, rfl, hb, hgb, r⟩
    · exact .inl q2
    · exact .inr ⟨b, cap, cur, rfl, hb, (hkeep b rfl (Array.getElem?_eq_some_iff.1 hgb).1).trans hgb, r⟩
  · rcases q2 with ⟨rfl, _⟩ | ⟨b', cap, cur, rfl, hb, hgb, r⟩
    · simp [Value.ownBlock] at e
    · obtain rfl : b' = b := by simpa [Value.ownBlock] using e
      rw [World.cell?_of_block (a := ⟨b', i, Option.none⟩) (hkeep b' rfl (Array.getElem?_eq_some_iff.1 hgb).1)]
      exact q3 b' rfl i n
end

/-- A row of the call's own, behind what turns another block and another row. -/
theorem own_but {w w' : World} {row : Option Nat} {g base : Nat} {e : TypeId} {size n : Nat} {v : Value} {us : List Value} (h : w.ownsRow base e size v n us) (hb : But w w' row g) (h1 : v.ownBlock = none ∨ v.ownBlock ≠ some g) (h2 : v.ownBlock = none ∨ v.ownBlock ≠ row) : w'.ownsRow base e size v n us := by
  refine ⟨h.1, ?_⟩
  rcases h.2 with h3 | ⟨b, cap, cur, rfl, hbb, hgb, r⟩
  · exact .inl h3
  · refine .inr ⟨b, cap, cur, rfl, hbb, ?_, r⟩
    refine (hb.block b (Array.getElem?_eq_some_iff.1 hgb).1 (fun e2 => ?_) (fun e2 => ?_)).trans hgb
    · exact h1.elim (fun h => by simp [Value.ownBlock] at h) (fun h => h (by simp [Value.ownBlock, e2]))
    · exact h2.elim (fun h => by simp [Value.ownBlock] at h) (fun h => h (by rw [← e2]; rfl))

/-- The cells of parts, by their places. -/
theorem flatS_inv : ∀ (l : List Pt) (j : Nat) (u : Value), (flatS l)[j]? = some u → ∃ p, l[j / 5]? = some p ∧ p.cells[j % 5]? = some u
  | [], j, u, h => by simp [flatS] at h
  | p :: l, j, u, h => by
    have hl : p.cells.length = 5 := rfl
    rw [flatS] at h
    by_cases hj : j < 5
    · rw [List.getElem?_append_left (by omega)] at h
      exact ⟨p, by rw [Nat.div_eq_of_lt hj]; rfl, by rw [Nat.mod_eq_of_lt hj]; exact h⟩
    · rw [List.getElem?_append_right (by omega), hl] at h
      obtain ⟨q, h1, h2⟩ := flatS_inv l (j - 5) u h
      refine ⟨q, ?_, ?_⟩
      · rw [show j / 5 = (j - 5) / 5 + 1 by omega, List.getElem?_cons_succ]
        exact h1
      · rw [show j % 5 = (j - 5) % 5 by omega]
        exact h2
theorem flatS_one' (l : List Pt) : ∀ u ∈ flatS l, u.oneCell' = true := by
  intro u hu
  obtain ⟨j, hj⟩ := List.mem_iff_getElem?.1 hu
  obtain ⟨p, _, h⟩ := flatS_inv l j u hj
  exact cells_one p u (List.mem_of_getElem? h)

/-- append of parts behind a slice of parts of the call's own. -/
theorem run_append_segs {P : Program} (w : World) (t ty : TypeId) (i : TypeInfo) (z : Value) (ht : P.underlying t = some (.slice 41)) (hi : P.info? 41 = some i) (hz : i.zero = some z)
    (hsize : i.size = 5) (hby : i.bytes ≤ 100) (hzs : z.cells = #[.int .i64 0, .int .i64 0, .bool false, .int .i64 0, .slice none 0 0])
    (n0 : Nat) (v : Value) (ps : List Pt) (hs : Segs w n0 v ps) (sv : Value) (qs : List Pt) (hr : SegRow w w.heap.size sv qs)
    (hlen : ps.length + qs.length ≤ 1000000000000) (hbase : n0 ≤ w.heap.size) :
    ∃ v' w', (Builtin.append_ #[t, t] ty #[v, sv]).run P w = .ok v' w' ∧ Segs w' n0 v' (ps ++ qs) ∧ w.grownBy w' v.ownBlock := by
  obtain ⟨A, c, rfl, hc1, hc2, hc3, hc4, hc5⟩ := hr
  rcases A with _ | ad
  · have hq : qs = [] := by
      rcases Nat.eq_zero_or_pos qs.length with h0 | h0
      · exact List.eq_nil_of_length_eq_zero h0
      · obtain ⟨b, o, he, _⟩ := hc4 h0
        cases he
    subst hq
    obtain rfl := hc3 rfl
    exact ⟨v, w, run_append_owned_none w n0 t ty 41 i 5 ht hi v ps.length (flatS ps) hs.1, by simpa using hs, World.grownBy.refl w _⟩
  · have hl5 : (flatS qs).length = qs.length * 5 := flatS_length qs
    have hc : ∀ j u, (flatS qs)[j]? = some u → w.cell? (ad.add j) = some u := fun j u hj => by
      have hlt := (List.getElem?_eq_some_iff.1 hj).1
      obtain ⟨q, h1, h2⟩ := flatS_inv qs j u hj
      obtain ⟨b, o, he, _, hcell⟩ := hc4 (by omega)
      obtain rfl : ad = ⟨b, o, none⟩ := by injection he
      have := hcell _ q h1 _ u h2
      rw [Go.WideShapes.add_plain, show o + j = o + j / 5 * 5 + j % 5 by omega]
      exact this
    have hb2 : (ps.length + qs.length) * i.bytes ≤ 140737488355328 := by
      have : (ps.length + qs.length) * i.bytes ≤ 1000000000000 * 100 := Nat.mul_le_mul hlen hby
      omega
    have hm : ps.length + qs.length ≤ maxLen := by unfold maxLen; omega
    obtain ⟨v', w', hrun, hown, hgr, hnil⟩ := run_append_own (P := P) w n0 t ty _ i z 5 i.bytes ht hi hz hsize rfl (by rw [hzs]; rfl) (by omega) v ps.length (flatS ps) hs.1 ad qs.length c (flatS qs) hl5 hc (flatS_one' qs) hm hb2 hbase
    refine ⟨v', w', hrun, ⟨by simpa [flatS_append] using hown, ?_, fun q hq => ?_⟩, hgr⟩
    · have hzb : ∀ (k : Nat) (u : Value), u ∈ (Builtin.zeroCells z.cells k).toList → ∀ n : Int, u ≠ .int .u8 n := by
        intro k u hu n
        simp only [Builtin.zeroCells, hzs] at hu
        simp at hu
        obtain ⟨a, _, rfl⟩ := hu
        have ha : a % 5 = 0 ∨ a % 5 = 1 ∨ a % 5 = 2 ∨ a % 5 = 3 ∨ a % 5 = 4 := by omega
        rcases ha with e | e | e | e | e <;> rw [e] <;> simp
      have new : ∀ (cur : Array Value), (∀ u ∈ cur.toList, ∀ n : Int, u ≠ .int .u8 n) → ∀ (i : Nat) (n : Int), (w.drew.alloc (.cells cur 41)).cell? ⟨w.heap.size, i, none⟩ ≠ some (.int .u8 n) := by
        intro cur hcur i n e
        rw [cell_of_row _ w.heap.size i cur _ (0, 0) (heap_alloc_new w.drew _)] at e
        exact hcur _ (by obtain ⟨hlt, he⟩ := Array.getElem?_eq_some_iff.1 e; rw [← he]; exact Array.getElem_mem_toList hlt) n rfl
      intro g hg i' n
      rcases hs.1.2 with ⟨rfl, h0⟩ | ⟨b, cap, cur, rfl, _, hgb, hnc, hcm, hcs, htake⟩
      · by_cases hq0 : qs.length = 0
        · have := hnil.2 ⟨rfl, hq0⟩
          subst this
          simp [Value.ownBlock] at hg
        · have hr := run_append_nil (P := P) w t ty _ i z ht hi hz ad qs.length c (flatS qs) (by rw [hsize]; exact hl5) hc (by omega) (by omega) (by have := hb2; rw [h0, Nat.zero_add] at this; omega)
          rw [hrun] at hr
          injection hr with e1 e2
          subst e1 e2
          obtain rfl : w.heap.size = g := by simpa [Value.ownBlock] using hg
          refine new _ (fun u hu => ?_) i' n
          simp only [Array.toList_append, List.mem_append] at hu
          rcases hu with hu | hu
          · exact flatS_nob qs u hu
          · exact hzb _ u hu
      · by_cases hroom : ps.length + qs.length ≤ cap
        · have hr := run_append_room (P := P) w t ty _ i ht hi b ps.length cap cur hgb ad qs.length c (flatS qs) (by rw [hsize]; exact hl5) hc (flatS_one' qs) hroom (by rw [hsize, hcs, hl5]; omega)
          rw [hrun] at hr
          injection hr with e1 e2
          subst e1 e2
          obtain rfl : b = g := by simpa [Value.ownBlock] using hg
          rw [cell_setRow_same w b i' cur _ _ _ hgb]
          intro e
          have hmem : (Value.int .u8 n) ∈ cur.toList.take (ps.length * i.size) ++ flatS qs ++ cur.toList.drop (ps.length * i.size + (flatS qs).length) := by
            rw [List.getElem?_toArray] at e
            exact List.mem_of_getElem? e
          have hold : ∀ u ∈ cur.toList, ∀ n : Int, u ≠ .int .u8 n := by
            intro u hu n e
            obtain ⟨k, hk⟩ := List.mem_iff_getElem?.1 hu
            refine hs.2.1 b rfl k n ?_
            rw [cell_of_row w b k cur _ _ hgb, ← e]
            simpa using hk
          rcases List.mem_append.1 hmem with h | h
          · rcases List.mem_append.1 h with h | h
            · exact hold _ (List.mem_of_mem_take h) n rfl
            · exact flatS_nob qs _ h n rfl
          · exact hold _ (List.mem_of_mem_drop h) n rfl
        · have hr := run_append_grow (P := P) w t ty _ i z ht hi hz ⟨b, 0, none⟩ ps.length cap (flatS ps) (by rw [hsize]; exact flatS_length ps) (hs.1.cells (g := b) rfl) ad qs.length c (flatS qs) (by rw [hsize]; exact hl5) hc (by omega) (by omega) (growslice_fits (by omega) hb2)
          rw [hrun] at hr
          injection hr with e1 e2
          subst e1 e2
          obtain rfl : w.heap.size = g := by simpa [Value.ownBlock] using hg
          refine new _ (fun u hu => ?_) i' n
          simp only [Array.toList_append, List.mem_append] at hu
          rcases hu with (hu | hu) | hu
          · exact flatS_nob ps u hu
          · exact flatS_nob qs u hu
          · exact hzb _ u hu
    · rcases List.mem_append.1 hq with h | h
      · exact (hs.2.2 q h).grown hgr hs.2.1
      · exact (hc5 q h).grown hgr hs.2.1

section
variable {P : Program} {w : World} {ops : Array Oper} {rest : List Oper} {o : Oper} {a : Act} {Q : Exit → Act → World → Prop}
/-- The same in a region's list. -/
theorem wpList_append_segs (hgd : o.guard = none) (s x : Operand) (t : TypeId) (ho : o.op = .call { callee := .builtin .append, args := #[s, x], argTypes := #[t, t] })
    (i : TypeInfo) (z : Value) (ht : P.underlying t = some (.slice 41)) (hi : P.info? 41 = some i) (hz : i.zero = some z)
    (hsize : i.size = 5) (hby : i.bytes ≤ 100) (hzs : z.cells = #[.int .i64 0, .int .i64 0, .bool false, .int .i64 0, .slice none 0 0])
    (n0 : Nat) (v : Value) (ps : List Pt) (hs : a.eval s = v) (hown : Segs w n0 v ps) (sv : Value) (qs : List Pt) (hx : a.eval x = sv) (hr : SegRow w w.heap.size sv qs)
    (hlen : ps.length + qs.length ≤ 1000000000000) (hbase : n0 ≤ w.heap.size)
    (h : ∀ v' w', Segs w' n0 v' (ps ++ qs) → w.grownBy w' v.ownBlock → wpList P ops Q rest (a.put o.dst v') w') : wpList P ops Q (o :: rest) a w := by
  refine wpList_plain hgd fun _ hK => ?_
  obtain ⟨v', w', hr, h2, h3⟩ := run_append_segs (P := P) w t o.type i z ht hi hz hsize hby hzs n0 v ps hown sv qs hr hlen hbase
  unfold Oper.wp execOp
  simp only [ho, resolve, invoke, builtin, Sem.run_bind, Sem.run_pure, Result.andThen_ok, List.map_toArray, List.map_cons, List.map_nil, hs, hx, hr]
  exact hK _ _ (h v' w' h2 h3)
/-- The same as a step of a region that draws its order. -/
theorem step_append_segs {K : Act → World → Prop} {E : Prop} (hgd : o.guard = none) (s x : Operand) (t : TypeId) (ho : o.op = .call { callee := .builtin .append, args := #[s, x], argTypes := #[t, t] })
    (i : TypeInfo) (z : Value) (ht : P.underlying t = some (.slice 41)) (hi : P.info? 41 = some i) (hz : i.zero = some z)
    (hsize : i.size = 5) (hby : i.bytes ≤ 100) (hzs : z.cells = #[.int .i64 0, .int .i64 0, .bool false, .int .i64 0, .slice none 0 0])
    (n0 : Nat) (v : Value) (ps : List Pt) (hs : a.eval s = v) (hown : Segs w n0 v ps) (sv : Value) (qs : List Pt) (hx : a.eval x = sv) (hr : SegRow w w.heap.size sv qs)
    (hlen : ps.length + qs.length ≤ 1000000000000) (hbase : n0 ≤ w.heap.size)
    (h : ∀ v' w', Segs w' n0 v' (ps ++ qs) → w.grownBy w' v.ownBlock → K (a.put o.dst v') w') : if Region.wanted o (yielded ops a.tmps) = true then Oper.wp P o a w K Q else E := by
  have hw : Region.wanted o (yielded ops a.tmps) = true := by simp [Region.wanted, hgd]
  obtain ⟨v', w', hr, h2, h3⟩ := run_append_segs (P := P) w t o.type i z ht hi hz hsize hby hzs n0 v ps hown sv qs hr hlen hbase
  rw [if_pos hw]
  unfold Oper.wp execOp
  simp only [ho, resolve, invoke, builtin, Sem.run_bind, Sem.run_pure, Result.andThen_ok, List.map_toArray, List.map_cons, List.map_nil, hs, hx, hr]
  exact h v' w' h2 h3
end
/-- A part alone in a block: a row of one. -/
theorem one_row {w : World} {B : Nat} (g c : Nat) (hc : 1 ≤ c) (hc2 : c ≤ maxLen) (p : Pt) (hg : g < B) (h : ∀ j u, p.cells[j]? = some u → w.cell? ⟨g, j, none⟩ = some u) (hp : p.Reads w B) : SegRow w B (.slice (some ⟨g, 0, none⟩) 1 c) [p] := by
  refine ⟨_, _, rfl, hc, hc2, by simp, fun _ => ⟨g, 0, rfl, hg, fun i q hq j u hj => ?_⟩, fun q hq => ?_⟩
  · match i with
    | 0 =>
      simp only [List.getElem?_cons_zero, Option.some.injEq] at hq
      subst hq
      simpa using h j u hj
    | i + 1 => simp at hq
  · obtain rfl : q = p := by simpa using hq
    exact hp

/-- append, of what such a slice reads as, behind a row of the call's own; and where the new row lies. -/
theorem run_append_row_at {P : Program} (w : World) (base : Nat) (t ty e : TypeId) (i : TypeInfo) (z : Value) (ht : P.underlying t = some (.slice e)) (hi : P.info? e = some i) (hz : i.zero = some z)
    (hsize : i.size = 1) (hby : i.bytes = 1) (hzs : z.cells.size = 1)
    (v : Value) (n : Nat) (us : List Value) (hown : w.ownsRow base e 1 v n us) (B : Nat) (sv : Value) (xs : List Int) (hr : Row w B sv xs)
    (hlen : n + xs.length ≤ 140737488355328) (hbase : base ≤ w.heap.size) :
    ∃ v' w', (Builtin.append_ #[t, t] ty #[v, sv]).run P w = .ok v' w' ∧ w'.ownsRow base e 1 v' (n + xs.length) (us ++ xs.map (.int .u8)) ∧ w.grownBy w' v.ownBlock ∧ (v'.ownBlock = v.ownBlock ∨ v'.ownBlock = some w.heap.size) := by
  obtain ⟨A, c, rfl, h1, h2, h3, h4⟩ := hr
  rcases A with _ | ad
  · have hx : xs = [] := by
      rcases Nat.eq_zero_or_pos xs.length with h0 | h0
      · exact List.eq_nil_of_length_eq_zero h0
      · obtain ⟨b, o, he, _⟩ := h4 h0
        cases he
    subst hx
    obtain rfl := h3 rfl
    exact ⟨v, w, run_append_owned_none w base t ty e i 1 ht hi v n us hown, by simpa using hown, World.grownBy.refl w _, .inl rfl⟩
  · obtain ⟨v', w', q1, q2, q3, _, q5⟩ := run_append_own_at (P := P) w base t ty e i z 1 1 ht hi hz hsize hby hzs (by omega) v n us hown ad xs.length c (xs.map (.int .u8)) (by simp) (fun j u hu => by
      have hj : j < xs.length := by
        have := (List.getElem?_eq_some_iff.1 hu).1
        simpa using this
      obtain ⟨b, o, he, _, hc⟩ := h4 (by omega)
      obtain rfl : ad = ⟨b, o, none⟩ := by injection he
      have hu' : u = .int .u8 (xs.getD j 0) := by
        rw [List.getElem?_map, List.getElem?_eq_getElem hj] at hu
        simp at hu
        simp [List.getD, List.getElem?_eq_getElem hj, hu]
      rw [hu', ← hc j hj, Go.WideShapes.add_plain]) (fun u hu => by
      obtain ⟨x, _, rfl⟩ := List.mem_map.1 hu
      simp [Value.oneCell']) (by simp only [maxLen]; omega) (by omega) hbase
    exact ⟨v', w', q1, q2, q3, q5⟩
section
variable {P : Program} {w : World} {ops : Array Oper} {rest : List Oper} {o : Oper} {a : Act} {Q : Exit → Act → World → Prop}
theorem wpList_append_row_at (hgd : o.guard = none) (s x : Operand) (t : TypeId) (ho : o.op = Op.call { callee := Callee.builtin Builtin.append, args := #[s, x], argTypes := #[t, t] })
    (base : Nat) (e : TypeId) (i : TypeInfo) (z : Value) (h1 : P.underlying t = some (.slice e)) (h2 : P.info? e = some i) (h3 : i.zero = some z) (h4 : i.size = 1) (h5 : i.bytes = 1) (h6 : z.cells.size = 1)
    (v : Value) (k : Nat) (us : List Value) (hs : a.eval s = v) (hown : w.ownsRow base e 1 v k us) (B : Nat) (sv : Value) (xs : List Int) (hx : a.eval x = sv) (hr : Row w B sv xs)
    (b2 : k + xs.length ≤ 140737488355328) (b3 : base ≤ w.heap.size)
    (hK : ∀ v' w', w'.ownsRow base e 1 v' (k + xs.length) (us ++ xs.map (.int .u8)) → w.grownBy w' v.ownBlock → (v'.ownBlock = v.ownBlock ∨ v'.ownBlock = some w.heap.size) → wpList P ops Q rest (a.put o.dst v') w') :
    wpList P ops Q (o :: rest) a w := by
  obtain ⟨v', w', hrun, r1, r2, r3⟩ := run_append_row_at (P := P) w base t o.type e i z h1 h2 h3 h4 h5 h6 v k us hown B sv xs hr b2 b3
  refine wpList_plain hgd fun K hK' => ?_
  unfold Oper.wp
  simp [execOp, ho, resolve, invoke, builtin, hs, hx, hrun, Result.andThen]
  exact hK' _ _ (hK v' w' r1 r2 r3)
/-- append behind a slice that has no room for what is appended, which isn't nothing: a new block (the slice may be nil). -/
theorem step_append_fresh {K : Act → World → Prop} {E : Prop} (hgd : o.guard = none) (s x : Operand) (t : TypeId) (ho : o.op = .call { callee := .builtin .append, args := #[s, x], argTypes := #[t, t] })
    (e : TypeId) (i : TypeInfo) (z : Value) (ht : P.underlying t = some (.slice e)) (hi : P.info? e = some i) (hz : i.zero = some z) (hsize : i.size = 1) (hby : i.bytes = 1) (hzs : z.cells.size = 1)
    (B B2 : Nat) (A A2 : Option Addr) (c c2 n m : Nat) (xs ys : List Int) (hs : a.eval s = .slice A n c) (hx : a.eval x = .slice A2 m c2) (hn : xs.length = n) (hm : ys.length = m) (hr : Row w B (.slice A n c) xs) (hr2 : Row w B2 (.slice A2 m c2) ys)
    (h02 : 0 < m) (hc : c < n + m) (hl : n + m ≤ 100000000000) (H : Nat) (hH : w.heap.size = H)
    (h : ∀ cap w', w'.ownsRow w.heap.size e 1 (.slice (some ⟨H, 0, none⟩) (n + m) cap) (n + m) ((xs ++ ys).map (.int .u8)) → Below w.heap.size w w' → K (a.put o.dst (.slice (some ⟨H, 0, none⟩) (n + m) cap)) w') :
    if Region.wanted o (yielded ops a.tmps) = true then Oper.wp P o a w K Q else E := by
  have hw : Region.wanted o (yielded ops a.tmps) = true := by simp [Region.wanted, hgd]
  subst hn hm hH
  have hrun : ∃ cap w', (Builtin.append_ #[t, t] o.type #[.slice A xs.length c, .slice A2 ys.length c2]).run P w = .ok (.slice (some ⟨w.heap.size, 0, none⟩) (xs.length + ys.length) cap) w' ∧
      w'.ownsRow w.heap.size e 1 (.slice (some ⟨w.heap.size, 0, none⟩) (xs.length + ys.length) cap) (xs.length + ys.length) ((xs ++ ys).map (.int .u8)) ∧ Below w.heap.size w w' := by
    obtain ⟨A', c', hv, q1, q2, q3, h4⟩ := hr
    injection hv with e1 _ e3
    subst e1 e3
    rcases A with _ | ad
    · obtain rfl := q3 rfl
      have hx0 : xs = [] := List.eq_nil_of_length_eq_zero (by omega)
      subst hx0
      obtain ⟨v', w', q1, q2, q3, q4⟩ := run_append_row_at (P := P) w w.heap.size t o.type e i z ht hi hz hsize hby hzs (.slice none 0 0) 0 [] (World.ownsRow_nil _ _ _ _) B2 _ ys hr2 (by omega) (Nat.le_refl _)
      rw [Nat.zero_add] at q2
      obtain ⟨g, cap, rfl, _, _⟩ := q2.form h02
      have hg : g = w.heap.size := by rcases q4 with q4 | q4 <;> simp [Value.ownBlock] at q4; exact q4
      subst hg
      refine ⟨cap, w', by simpa using q1, by simpa using q2, ⟨q3.os, q3.tape, q3.output, q3.size, fun k hk => q3.block k hk (by simp [Value.ownBlock])⟩⟩
    · have hold : ∀ (j : Nat) (v : Value), (xs.map (Value.int .u8))[j]? = some v → w.cell? (ad.add j) = some v := by
        intro j v hj
        have hjl : j < xs.length := by have := (List.getElem?_eq_some_iff.1 hj).1; simpa using this
        obtain ⟨b, oo, e4, _, hcell⟩ := h4 (by omega)
        obtain rfl : ad = ⟨b, oo, none⟩ := by injection e4
        rw [Go.WideShapes.add_plain, hcell j hjl, ← hj]
        simp [List.getD, List.getElem?_eq_getElem hjl]
      obtain ⟨_, _, hv2, _, _, _, h42⟩ := hr2
      injection hv2 with e1 _ e4
      subst e1
      obtain ⟨b2, o2, rfl, _, hcell2⟩ := h42 h02
      have key : ∀ (zs : List Int) (bb oo : Nat), (∀ i, i < zs.length → w.cell? ⟨bb, oo + i, none⟩ = some (.int .u8 (zs.getD i 0))) → ∀ (j : Nat) (v : Value), (zs.map (Value.int .u8))[j]? = some v → w.cell? ((⟨bb, oo, none⟩ : Addr).add j) = some v := by
        intro zs bb oo hcz j v hj
        have hjl : j < zs.length := by have := (List.getElem?_eq_some_iff.1 hj).1; simpa using this
        rw [Go.WideShapes.add_plain, hcz j hjl, ← hj]
        simp [List.getD, List.getElem?_eq_getElem hjl]
      have hr := run_append_grow (P := P) w t o.type e i z ht hi hz ad xs.length c (xs.map (.int .u8)) (by simp [hsize]) hold ⟨b2, o2, none⟩ ys.length c2 (ys.map (.int .u8)) (by simp [hsize]) (key ys b2 o2 hcell2) hc (by omega) (by rw [hby]; exact growslice_fits (by omega) (by omega))
      have hge := grownCap_ge w (xs.length + ys.length) c e
      have hcm := grownCap_le_maxLen w (xs.length + ys.length) c e (by simp only [maxLen]; omega)
      refine ⟨_, _, hr, ⟨by simp, .inr ⟨w.heap.size, _, _, rfl, Nat.le_refl _, heap_alloc_new w.drew _, hge, hcm, ?_, ?_⟩⟩, ((Below.refl _ _).alloc (Nat.le_refl _) _).drew⟩
      · simp only [Array.size_append, List.size_toArray, size_zeroCells, hzs, List.length_map]
        omega
      · simp only [Array.toList_append, List.append_assoc, Nat.mul_one]
        rw [← List.append_assoc, ← List.map_append, show xs.length + ys.length = ((xs ++ ys).map (Value.int .u8)).length by simp]
        exact List.take_left
  obtain ⟨cap, w', hrun, h2, h3⟩ := hrun
  rw [if_pos hw]
  unfold Oper.wp execOp
  simp only [ho, resolve, invoke, builtin, Sem.run_bind, Sem.run_pure, Result.andThen_ok, List.map_toArray, List.map_cons, List.map_nil, hs, hx, hrun]
  exact h cap w' h2 h3
end

/-- A slice whose capacity is cut to its length. -/
theorem Row.cut {w : World} {B : Nat} {A : Option Addr} {n c : Nat} {xs : List Int} (h : Row w B (.slice A n c) xs) : Row w B (.slice A n n) xs := by
  obtain ⟨A', c', hv, h1, h2, h3, h4⟩ := h
  injection hv with e1 e2 e3
  subst e1 e2 e3
  exact ⟨A, xs.length, rfl, Nat.le_refl _, by omega, fun e => by have := h3 e; omega, h4⟩
/-- clear of a row of bytes of the call's own; it owns its row, of no bytes, behind that. -/
theorem run_clear_row {P : Program} (w : World) (base : Nat) (t ty e : TypeId) (ht : P.underlying t = some (.slice e)) (hz : ∀ w, (zeroValue e).run P w = .ok (.int .u8 0) w)
    (v : Value) (n : Nat) (us : List Value) (hown : w.ownsRow base e 1 v n us) :
    ∃ w', (Builtin.clear_ #[t] ty #[v]).run P w = .ok (.tuple #[]) w' ∧ w.grownBy w' v.ownBlock ∧ ∃ us', w'.ownsRow base e 1 v n us' := by
  rcases hown.2 with ⟨rfl, rfl⟩ | ⟨g, cap, cur, rfl, hb, hg, hnc, hcm, hcs, htake⟩
  · exact ⟨w, by simp [Builtin.clear_, run_underlying ht], World.grownBy.refl w _, us, hown⟩
  · by_cases hn : n = 0
    · subst hn
      exact ⟨w, by simp [Builtin.clear_, run_underlying ht], World.grownBy.refl w _, us, hown⟩
    · have hr := Lib.run_clear_slice (P := P) w t e ty (.int .u8 0) ht hz rfl rfl g 0 n cap (by omega) (fun j hj => by rw [Nat.zero_add, hown.cellAt j (by omega), List.getElem?_eq_getElem (by rw [hown.1]; omega)]; rfl) (fun j _ => hown.frozenAt _)
      have stored : ∀ (l : List Value) (j : Nat) (W : World) (xs : List Value), W.ownsRow base e 1 (.slice (some ⟨g, 0, none⟩) n cap) n xs → (∃ xs', (W.setCells g j l).ownsRow base e 1 (.slice (some ⟨g, 0, none⟩) n cap) n xs') ∧ W.grownBy (W.setCells g j l) (some g) := by
        intro l
        induction l with
        | nil => intro j W xs h; exact ⟨⟨xs, h⟩, World.grownBy.refl W _⟩
        | cons u l ih =>
          intro j W xs h
          obtain ⟨h1, h2⟩ := h.stored j u
          obtain ⟨h3, h4⟩ := ih (j + 1) _ _ h1
          exact ⟨h3, grown_trans h2 h4⟩
      obtain ⟨h1, h2⟩ := stored (List.replicate n (.int .u8 0)) 0 w us hown
      exact ⟨_, hr, h2, h1⟩
/-- A row of the call's own, cut to nothing. -/
theorem own_zero {w : World} {base : Nat} {e : TypeId} {v : Value} {n : Nat} {us : List Value} (h : w.ownsRow base e 1 v n us) : ∃ v0, (∀ A c, v = .slice A n c → v0 = .slice A 0 c) ∧ w.ownsRow base e 1 v0 0 [] ∧ v0.ownBlock = v.ownBlock := by
  rcases h.2 with ⟨rfl, rfl⟩ | ⟨g, cap, cur, rfl, hb, hg, hnc, hcm, hcs, htake⟩
  · exact ⟨.slice none 0 0, fun A c e => e, World.ownsRow_nil _ _ _ _, rfl⟩
  · exact ⟨.slice (some ⟨g, 0, none⟩) 0 cap, fun A c e => by injection e with e1 _ e3; rw [← e1, ← e3], ⟨rfl, .inr ⟨g, cap, cur, rfl, hb, hg, Nat.zero_le _, hcm, hcs, by simp⟩⟩, rfl⟩
#print axioms run_append_segs
#print axioms step_append_fresh
#print axioms run_clear_row
end Go.Proofs.Ytfaedecfpnmnjaa
