/-
  What the theorem of StreamChunks rests on, part 13 of 15.
-/
import Derived.Lib.SlBytesConst
import Derived.Lib.SmallJoins
import Derived.Deep.RegionHeld3
import Derived.Deep.RegionLaw
import Derived.Deep.RegionHeldLaw
import Derived.Deep.AppendLies
import Derived.Test.YtnlfcmbpocdpjaaGreatStreamChunksZ12
set_option maxRecDepth 100000
set_option maxHeartbeats 16000000
namespace Go.Proofs.YtnlfcmbpocdpjaaGreat
open Lib (hid)
open Go.RowKit
theorem run_append_full {P : Program} (w : World) (t ty e : TypeId) (i : TypeInfo) (z : Value) (ht : P.underlying t = some (.slice e)) (hi : P.info? e = some i) (hz : i.zero = some z)
  (hsize : i.size = 1) (hby : i.bytes = 1) (hzs : z.cells.size = 1) (B B2 : Nat) (A A2 : Option Addr) (c c2 : Nat) (xs ys : List Int) (hr : Row w B (.slice A xs.length c) xs) (hr2 : Row w B2 (.slice A2 ys.length c2) ys)
  (h0 : 0 < xs.length) (h02 : 0 < ys.length) (hc : c < xs.length + ys.length) (hl : xs.length + ys.length ≤ 100000000000) :
  ∃ cap w', (Builtin.append_ #[t, t] ty #[.slice A xs.length c, .slice A2 ys.length c2]).run P w = .ok (.slice (some ⟨w.heap.size, 0, none⟩) (xs.length + ys.length) cap) w' ∧
   w'.ownsRow w.heap.size e 1 (.slice (some ⟨w.heap.size, 0, none⟩) (xs.length + ys.length) cap) (xs.length + ys.length) ((xs ++ ys).map (.int .u8)) ∧ Below w.heap.size w w' := by
 obtain ⟨_, _, hv, _, _, _, h4⟩ := hr
 injection hv with e1 _ e3
 subst e1
 obtain ⟨b, o, rfl, _, hcell⟩ := h4 h0
 obtain ⟨_, _, hv2, _, _, _, h42⟩ := hr2
 injection hv2 with e1 _ e4
 subst e1
 obtain ⟨b2, o2, rfl, _, hcell2⟩ := h42 h02
 have key : ∀ (zs : List Int) (bb oo : Nat), (∀ i, i < zs.length → w.cell? ⟨bb, oo + i, none⟩ = some (.int .u8 (zs.getD i 0))) → ∀ (j : Nat) (v : Value), (zs.map (Value.int .u8))[j]? = some v → w.cell? ((⟨bb, oo, none⟩ : Addr).add j) = some v := by
  intro zs bb oo hcz j v hj
  have hjl : j < zs.length := by have := (List.getElem?_eq_some_iff.1 hj).1; simpa using this
  rw [Go.WideShapes.add_plain, hcz j hjl, ← hj]
  simp [List.getD, List.getElem?_eq_getElem hjl]
 have hr := run_append_grow (P := P) w t ty e i z ht hi hz ⟨b, o, none⟩ xs.length c (xs.map (.int .u8)) (by simp [hsize]) (key xs b o hcell) ⟨b2, o2, none⟩ ys.length c2 (ys.map (.int .u8)) (by simp [hsize]) (key ys b2 o2 hcell2) hc (by omega) (by rw [hby]; exact growslice_fits (by omega) (by omega))
 have hge := grownCap_ge w (xs.length + ys.length) c e
 have hcm := grownCap_le_maxLen w (xs.length + ys.length) c e (by simp only [maxLen]; omega)
 refine ⟨_, _, hr, ⟨by simp, .inr ⟨w.heap.size, _, _, rfl, Nat.le_refl _, heap_alloc_new w.drew _, hge, hcm, ?_, ?_⟩⟩, ((Below.refl _ _).alloc (Nat.le_refl _) _).drew⟩
 ·simp only [Array.size_append, List.size_toArray, size_zeroCells, hzs, List.length_map]
  omega
 ·simp only [Array.toList_append, List.append_assoc, Nat.mul_one]
  rw [← List.append_assoc, ← List.map_append, show xs.length + ys.length = ((xs ++ ys).map (Value.int .u8)).length by simp]
  exact List.take_left
theorem step_append_full {P : Program} {w : World} {ops : Array Oper} {o : Oper} {a : Act} {K : Act → World → Prop} {Q : Exit → Act → World → Prop} {E : Prop} (hgd : o.guard = none) (s x : Operand) (t : TypeId)
  (ho : o.op = .call { callee := .builtin .append, args := #[s, x], argTypes := #[t, t] })
  (e : TypeId) (i : TypeInfo) (z : Value) (ht : P.underlying t = some (.slice e)) (hi : P.info? e = some i) (hz : i.zero = some z) (hsize : i.size = 1) (hby : i.bytes = 1) (hzs : z.cells.size = 1)
  (B B2 : Nat) (A A2 : Option Addr) (c c2 n m : Nat) (xs ys : List Int) (hs : a.eval s = .slice A n c) (hx : a.eval x = .slice A2 m c2) (hn : xs.length = n) (hm : ys.length = m) (hr : Row w B (.slice A n c) xs) (hr2 : Row w B2 (.slice A2 m c2) ys)
  (h0 : 0 < n) (h02 : 0 < m) (hc : c < n + m) (hl : n + m ≤ 100000000000) (H : Nat) (hH : w.heap.size = H)
  (h : ∀ cap w', w'.ownsRow w.heap.size e 1 (.slice (some ⟨H, 0, none⟩) (n + m) cap) (n + m) ((xs ++ ys).map (.int .u8)) → Below w.heap.size w w' → K (a.put o.dst (.slice (some ⟨H, 0, none⟩) (n + m) cap)) w') :
  if Region.wanted o (yielded ops a.tmps) = true then Oper.wp P o a w K Q else E := by
 have hw : Region.wanted o (yielded ops a.tmps) = true := by simp [Region.wanted, hgd]
 subst hn hm hH
 obtain ⟨cap, w', hrun, h2, h3⟩ := run_append_full (P := P) w t o.type e i z ht hi hz hsize hby hzs B B2 A A2 c c2 xs ys hr hr2 h0 h02 hc hl
 rw [if_pos hw]
 unfold Oper.wp execOp
 simp only [ho, resolve, invoke, builtin, Sem.run_bind, Sem.run_pure, Result.andThen_ok, List.map_toArray, List.map_cons, List.map_nil, hs, hx, hrun]
 exact h cap w' h2 h3
theorem freeze_first (w : World) (C : Array Value) (e : TypeId) (o : Obj) (k : Nat) : ((w.alloc (.cells C e)).alloc o).freeze ⟨w.heap.size, k, none⟩ 1 = (w.alloc (.cells C e (k, k + 1))).alloc o := by
 unfold World.freeze
 rw [if_neg (by decide)]
 have hm : ∀ (a : Array Obj) (x y : Obj) (f : Obj → Obj), ((a.push x).push y).modify a.size f = (a.push (f x)).push y := by
  intro a x y f
  apply Array.ext
  ·simp
  ·intro i h1 h2
   simp only [Array.getElem_modify, Array.getElem_push]
   by_cases h : a.size = i
   ·subst h
    simp
   ·by_cases hi : i < a.size
    ·simp [h, hi, Nat.lt_succ_of_lt hi]
    ·have hi2 : i = a.size + 1 := by simp at h1; omega
     subst hi2
     simp
 show ({ ((w.alloc (.cells C e)).alloc o) with heap := ((w.heap.push (.cells C e)).push o).modify w.heap.size _ } : World) = _
 rw [hm]
 rfl
theorem run_convert_const_past {P : Program} (w : World) (t e : TypeId) (C : Array Value) (o : Obj) (n c g : Nat) (hg : g = w.heap.size) (ht : P.underlying t = some (.slice e)) (he : P.underlying e = some (.int .u8)) :
  (convert t t (.slice (some ⟨g, 0, none⟩) n c)).run P ((w.alloc (.cells C e)).alloc o) = .ok (.slice (some ⟨g, 0, none⟩) n c) ((w.alloc (.cells C e (C.size, C.size + 1))).alloc o) := by
 subst hg
 have hsh : ((w.alloc (.cells C e)).alloc o).shape? w.heap.size = some (e, C.size) := by
  have : ((w.alloc (.cells C e)).alloc o).heap[w.heap.size]? = some (.cells C e) := by
   show ((w.heap.push (.cells C e)).push o)[w.heap.size]? = _
   simp [Array.getElem?_push]
  unfold World.shape?
  rw [this]
 simp [convert, run_underlying ht, run_underlying he, markStringish, hsh]
 exact freeze_first w C e o C.size
theorem own_cap {w : World} {base g n cap : Nat} {e : TypeId} {xs : List Value} (h : w.ownsRow base e 1 (.slice (some ⟨g, 0, none⟩) n cap) n xs) : n ≤ cap ∧ cap ≤ 9223372036854775807 := by
 rcases h.2 with ⟨h0, _⟩ | ⟨g', cap', cur, hv, _, _, h1, h2, _⟩
 ·cases h0
 ·injection hv with _ _ e3
  subst e3
  unfold maxLen at h2
  exact ⟨h1, by omega⟩
theorem body_row {w : World} {base g cap : Nat} {e : TypeId} {k : Int} {p : List Int} (h : w.ownsRow base e 1 (.slice (some ⟨g, 0, none⟩) (5 + (encI p.length).length + p.length) cap) (5 + (encI p.length).length + p.length) ((markL ++ [k] ++ encI p.length).map (.int .u8) ++ p.map (.int .u8))) :
  Row w w.heap.size (.slice (some ⟨g, 4, none⟩) (5 + (encI p.length).length + p.length - 4) (cap - 4)) (bodyL k p) := by
 obtain ⟨hc, _⟩ := own_cap h
 rw [← List.map_append] at h
 have hd := (Row.of_own h).drop (k := 4) (by simp [markL])
 have e1 : (markL ++ [k] ++ encI p.length ++ p).drop 4 = bodyL k p := by simp [markL, bodyL, encT]
 have e2 : (bodyL k p).length = 5 + (encI p.length).length + p.length - 4 := by simp [bodyL, encT]; omega
 rw [e1, e2, if_neg (by omega), Option.map_some, Go.WideShapes.add_plain] at hd
 exact hd
theorem le4_row (W : World) (t : TypeId) (s : Nat) : Row (W.alloc (.cells #[.int .u8 ((s : Int) % 256), .int .u8 ((s : Int) / 256 % 256), .int .u8 ((s : Int) / 65536 % 256), .int .u8 ((s : Int) / 16777216)] t)) (W.heap.size + 1) (.slice (some ⟨W.heap.size, 0, none⟩) 4 4) (le4 s) :=
 Row.of_cells (xs := le4 s) (by simp [le4]) (by omega) (fun i hi => by
  rw [World.cell?_alloc_new]
  simp [le4] at hi
  rcases (by omega : i = 0 ∨ i = 1 ∨ i = 2 ∨ i = 3) with rfl | rfl | rfl | rfl <;> rfl)
theorem bodyL_byte {k : Int} {p : List Int} (hk : k = 1 ∨ k = 2) (hp : p.length ≤ 4096) (hb : ∀ x ∈ p, 0 ≤ x ∧ x < 256) : ∀ x ∈ bodyL k p, 0 ≤ x ∧ x < 256 := by
 intro x hx
 simp only [bodyL, encT, List.mem_cons, List.mem_append] at hx
 rcases hx with rfl | hx | hx
 ·omega
 ·exact encI_bytes (by omega) x hx
 ·exact hb x hx
def markCells : Array Value := #[.int .u8 199, .int .u8 84, .int .u8 71, .int .u8 1]
theorem four_cells {w : World} {g : Nat} (hg : g < w.heap.size) (hc : ∀ i, w.cell? ⟨g, i, none⟩ = markCells[i]?) : Row w w.heap.size (.slice (some ⟨g, 0, none⟩) 4 4) markL :=
 Row.of_cells (xs := markL) (by simp [markL]) hg (fun i hi => by
  rw [hc i]
  simp [markL] at hi
  rcases (by omega : i = 0 ∨ i = 1 ∨ i = 2 ∨ i = 3) with rfl | rfl | rfl | rfl <;> rfl)
theorem one_cell {w : World} {g : Nat} {y : Int} (hg : g < w.heap.size) (hc : w.cell? ⟨g, 0, none⟩ = some (.int .u8 y)) : Row w w.heap.size (.slice (some ⟨g, 0, none⟩) 1 1) [y] :=
 Row.of_cells (xs := [y]) (by simp) hg (fun i hi => by
  simp at hi
  subst hi
  exact hc)
theorem rows_a (W : World) (y : Int) (g g2 : Nat) (hg : g = W.heap.size) (hg2 : g2 = W.heap.size + 1) :
  Row ((W.alloc (.cells markCells 5 (4, 5))).alloc (.cells #[.int .u8 y] 5)).drew ((W.alloc (.cells markCells 5 (4, 5))).alloc (.cells #[.int .u8 y] 5)).drew.heap.size (.slice (some ⟨g, 0, none⟩) 4 4) markL ∧
  Row ((W.alloc (.cells markCells 5 (4, 5))).alloc (.cells #[.int .u8 y] 5)).drew ((W.alloc (.cells markCells 5 (4, 5))).alloc (.cells #[.int .u8 y] 5)).drew.heap.size (.slice (some ⟨g2, 0, none⟩) 1 1) [y] := by
 subst hg hg2
 refine ⟨four_cells (by simp <;> omega) (fun i => ?_), one_cell (by simp <;> omega) ?_⟩
 ·show ((W.alloc (.cells markCells 5 (4, 5))).alloc (.cells #[.int .u8 y] 5)).cell? _ = _
  rw [World.cell?_alloc_lt _ _ _ (by simp), World.cell?_alloc_mark]
 ·show ((W.alloc (.cells markCells 5 (4, 5))).alloc (.cells #[.int .u8 y] 5)).cell? _ = _
  rw [show W.heap.size + 1 = (W.alloc (.cells markCells 5 (4, 5))).heap.size by simp, World.cell?_alloc_new]
  rfl
theorem rows_b (W : World) (y : Int) (g g2 : Nat) (hg : g = W.heap.size) (hg2 : g2 = W.heap.size + 1) :
  Row ((W.alloc (.cells #[.int .u8 y] 5)).alloc (.cells markCells 5 (4, 5))).drew ((W.alloc (.cells #[.int .u8 y] 5)).alloc (.cells markCells 5 (4, 5))).drew.heap.size (.slice (some ⟨g2, 0, none⟩) 4 4) markL ∧
  Row ((W.alloc (.cells #[.int .u8 y] 5)).alloc (.cells markCells 5 (4, 5))).drew ((W.alloc (.cells #[.int .u8 y] 5)).alloc (.cells markCells 5 (4, 5))).drew.heap.size (.slice (some ⟨g, 0, none⟩) 1 1) [y] := by
 subst hg hg2
 refine ⟨four_cells (by simp <;> omega) (fun i => ?_), one_cell (by simp <;> omega) ?_⟩
 ·show ((W.alloc (.cells #[.int .u8 y] 5)).alloc (.cells markCells 5 (4, 5))).cell? _ = _
  rw [show W.heap.size + 1 = (W.alloc (.cells #[.int .u8 y] 5)).heap.size by simp, World.cell?_alloc_mark]
 ·show ((W.alloc (.cells #[.int .u8 y] 5)).alloc (.cells markCells 5 (4, 5))).cell? _ = _
  rw [World.cell?_alloc_lt _ _ _ (by simp), World.cell?_alloc_new]
  rfl
theorem fput_any (k : Int) (hk : k = 1 ∨ k = 2) (A : Option Addr) (c : Nat) (p : List Int) (hp : p.length ≤ 4096) (hb : ∀ x ∈ p, 0 ≤ x ∧ x < 256) (w : World) (hrow : Row w w.heap.size (.slice A p.length c) p) :
  Calls Tryz.prog 209 #[.agg #[.int .i64 k, .slice A p.length c]] w fun e w' => ∃ cap g, e = .returned (.tuple #[.slice (some ⟨g, 0, none⟩) (encFr k p).length cap, .int .i64 0]) ∧
   w'.ownsRow w.heap.size 5 1 (.slice (some ⟨g, 0, none⟩) (encFr k p).length cap) (encFr k p).length ((encFr k p).map (.int .u8)) ∧ Below w.heap.size w w' := by
 have HK := hid (fun W => known_yes hk W)
 have HROW := hid hrow; clear hrow
 have HBP := hid hb; clear hb
 obtain ⟨i0, hi, hz0, hz1, hz2⟩ := info_parts Tryz.infoU8
 have hk8 : IntKind.u8.wrap k = k := by rw [IntKind.wrap_u8]; omega
 have kc := fun (w : World) (C : Array Value) (n c g : Nat) (h : g = w.heap.size) => Joins.run_convert_bytes_const_at (P := Tryz.prog) w 22 5 C n c g h Tryz.underlying22 Tryz.underlying5
 have kcd : ∀ (w : World) (C : Array Value) (n c g : Nat), g = w.heap.size → (convert 22 22 (.slice (some ⟨g, 0, none⟩) n c)).run Tryz.prog (w.alloc (.cells C 5)).drew = .ok (.slice (some ⟨g, 0, none⟩) n c) (w.alloc (.cells C 5 (C.size, C.size + 1))).drew :=
  fun w C n c g h => kc w.drew C n c g h
 have kp := fun (w : World) (C : Array Value) (o : Obj) (n c g : Nat) (h : g = w.heap.size) => run_convert_const_past (P := Tryz.prog) w 22 5 C o n c g h Tryz.underlying22 Tryz.underlying5
 have kpd : ∀ (w : World) (C : Array Value) (o : Obj) (n c g : Nat), g = w.heap.size → (convert 22 22 (.slice (some ⟨g, 0, none⟩) n c)).run Tryz.prog ((w.alloc (.cells C 5)).alloc o).drew = .ok (.slice (some ⟨g, 0, none⟩) n c) ((w.alloc (.cells C 5 (C.size, C.size + 1))).alloc o).drew :=
  fun w C o n c g h => kp w.drew C o n c g h
 have hput : ∀ (W : World) (A : Option Addr) (c : Nat), Row W W.heap.size (.slice A 5 c) (markL ++ [k]) → Calls Tryz.prog 137 #[.slice A 5 c, .int .u64 p.length] W fun e W' => ∃ v, e = .returned v ∧ W'.ownsRow W.heap.size 5 1 v (5 + (encI p.length).length) ((markL ++ [k] ++ encI p.length).map (.int .u8)) ∧ Below W.heap.size W W' :=
  fun W A c h => put_any A c (markL ++ [k]) p.length (by omega) (by simp [markL]) W h
 have HPUT := hid hput
 have hu64 : IntKind.u64.wrap (p.length : Int) = (p.length : Int) := by rw [IntKind.wrap_u64]; omega
 clear hput
 have hbody := bodyL_byte hk hp HBP.out
 have hsl := sumX_lt hbody
 have hs1 := fun W v h => sum_any v [bodyL k p] W h (by intro l hl; simp at hl; subst hl; exact hbody)
 rw [show [bodyL k p].flatten = bodyL k p by simp] at hs1
 have HS1 := hid hs1
 have HF4 := hid (fun W => four_any (sumX (bodyL k p)) hsl W)
 simp only [le4V] at HF4
 have HSL := hid hsl
 clear hbody hs1 hsl
 go_enter Tryz.func209, Tryz.ntmps209
 go_wp2_with fail
 refine (HK.out _).mono ?_
 rintro e w1 ⟨rfl, rfl⟩
 go_wp2_with fail
 go_region_held_law (fun W => W.cell? ⟨w.heap.size, 0, none⟩ = some (.int .i64 k) ∧ W.cell? ⟨w.heap.size, 1, none⟩ = some (.slice A p.length c))
  (first | go_keep | exact ⟨(hb4.cell (p := ⟨w.heap.size, 0, none⟩) (by have := hb3.size; simp at this; simp only; omega)).trans ((hb3.cell (p := ⟨w.heap.size, 0, none⟩) (by simp <;> omega)).trans (by go_simp)), (hb4.cell (p := ⟨w.heap.size, 1, none⟩) (by have := hb3.size; simp at this; simp only; omega)).trans ((hb3.cell (p := ⟨w.heap.size, 1, none⟩) (by simp <;> omega)).trans (by go_simp))⟩ | exact ⟨(hb3.cell (p := ⟨w.heap.size, 0, none⟩) (by simp <;> omega)).trans (by go_simp), (hb3.cell (p := ⟨w.heap.size, 1, none⟩) (by simp <;> omega)).trans (by go_simp)⟩)
  (first
   | (refine step_append_full (by rfl) (.tmp 17) (.tmp 21) 22 (by rfl) 5 i0 (.int .u8 0) Tryz.underlying22 hi hz0 hz1 hz2 rfl _ _ (some ⟨w.heap.size + 1, 0, none⟩) (some ⟨w.heap.size + 1 + 1, 0, none⟩) 4 1 4 1 markL [k] (by rfl) (by rfl) rfl rfl (rows_a (w.alloc _) k (w.heap.size + 1) (w.heap.size + 1 + 1) (by simp) (by simp)).1 (rows_a (w.alloc _) k (w.heap.size + 1) (w.heap.size + 1 + 1) (by simp) (by simp)).2 (by omega) (by omega) (by omega) (by omega) (w.heap.size + 1 + 1 + 1) (by simp) ?_; intro cap3 w3 hown3 hb3)
   | (refine step_append_full (by rfl) (.tmp 17) (.tmp 21) 22 (by rfl) 5 i0 (.int .u8 0) Tryz.underlying22 hi hz0 hz1 hz2 rfl _ _ (some ⟨w.heap.size + 1 + 1, 0, none⟩) (some ⟨w.heap.size + 1, 0, none⟩) 4 1 4 1 markL [k] (by rfl) (by rfl) rfl rfl (rows_b (w.alloc _) k (w.heap.size + 1) (w.heap.size + 1 + 1) (by simp) (by simp)).1 (rows_b (w.alloc _) k (w.heap.size + 1) (w.heap.size + 1 + 1) (by simp) (by simp)).2 (by omega) (by omega) (by omega) (by omega) (w.heap.size + 1 + 1 + 1) (by simp) ?_; intro cap3 w3 hown3 hb3)
   | (go_at_call 137; (with_reducible refine (HPUT.out _ _ _ (Row.of_own hown3)).mono ?_); rintro e w4 ⟨v4, rfl, hown4, hb4⟩))
 all_goals
  have hz3 : w.heap.size ≤ w3.heap.size := by have := hb3.size; simp at this; omega
  have bw3 : Below w.heap.size w w3 := ((((Below.refl _ _).alloc (Nat.le_refl _) _).alloc (by simp) _).alloc (by simp <;> omega) _).drew.trans (hb3.mono (by simp <;> omega))
  have bw4 : Below w.heap.size w w4 := bw3.trans (hb4.mono hz3)
  have hown : w4.ownsRow w.heap.size 5 1 v4 (5 + (encI p.length).length) ((markL ++ [k] ++ encI p.length).map (.int .u8)) := Joins.ownsRow_le hown4 hz3
  have hz31 : w.heap.size < w3.heap.size := by have := hb3.size; simp at this; omega
  have hc1 : w4.cell? ⟨w.heap.size, 1, none⟩ = some (.slice A p.length c) := (hb4.cell (p := ⟨w.heap.size, 1, none⟩) hz31).trans ((hb3.cell (p := ⟨w.heap.size, 1, none⟩) (by simp <;> omega)).trans (by go_simp))
  have HOWN := hid hown
  have HBW4 := hid bw4
  have HZ4 := hid (show w.heap.size < w4.heap.size from Nat.lt_of_lt_of_le hz31 hb4.size)
  clear hz3 hz31 bw3 bw4 hown hown4 hown3 hb4 hb3
  have hlen := encI_ten (n := p.length) (by omega)
  obtain ⟨l1, l2⟩ := hlen
  obtain ⟨g4, cap4, hv4, _, _⟩ := HOWN.out.form (by omega)
  subst hv4
  go_wp2_with (at_builtin; (refine wpList_append_row _ rfl _ _ 22 rfl w.heap.size 5 i0 (.int .u8 0) Tryz.underlying22 hi hz0 hz1 hz2 rfl _ (5 + (encI p.length).length) _ (by rfl) HOWN.out w.heap.size _ p rfl (HROW.out.below HBW4.out) (by omega) (Nat.le_of_lt HZ4.out) ?_; intro v5 w5 hown5 hg5 hn5; obtain ⟨g5, cap5, hv5, hgb5, hgs5⟩ := hown5.form (by omega); subst hv5; obtain ⟨hcp5, hcm5⟩ := own_cap hown5; have hcp6 : (4 : Int) < (cap5 : Int) := (by omega); have HOWN5 := hid hown5; have HG5 := hid hg5; have hcp7 : 4 < cap5 := (by omega); clear hown5 hg5 hn5))
  have bw5 : Below w.heap.size w w5 := HBW4.out.grown HG5.out (Nat.le_of_lt HZ4.out) (fun j hj => (HOWN.out.lt j hj).1)
  have HBW5 := hid bw5
  have HZ5 := hid (show w.heap.size ≤ w5.heap.size from bw5.size)
  clear bw5
  refine (HS1.out _ _ (Parts.one (by simp) (by simp [World.cell?_alloc_new]) (((body_row HOWN5.out).below ((Below.refl _ _).alloc (Nat.le_refl _) _)).more (by simp)))).mono ?_
  rintro e w6 ⟨rfl, rfl⟩
  go_wp2_with fail
  refine (HF4.out _).mono ?_
  rintro e w7 ⟨rfl, hb7⟩
  have hz7 := hb7.size
  rw [World.size_alloc] at hz7
  have HOWN7 := hid (own_below (HOWN5.out.alloc _) hb7)
  have HBW7 := hid ((HBW5.out.alloc HZ5.out _).trans (hb7.mono (by simp; have := HZ5.out; omega)))
  have hz75 : w.heap.size ≤ w7.heap.size := HBW7.out.size
  clear hb7
  go_wp2_with (at_builtin; refine wpList_append_row _ rfl _ _ 22 rfl w.heap.size 5 i0 (.int .u8 0) Tryz.underlying22 hi hz0 hz1 hz2 rfl _ (5 + (encI p.length).length + p.length) _ (by rfl) (HOWN7.out.alloc _) (w7.heap.size + 1) _ (le4 (sumX (bodyL k p))) rfl (le4_row w7 _ _) (by simp [le4]; omega) (by simp; omega) ?_; intro v8 w8 hown8 hg8 hn8; obtain ⟨g8, cap8, hv8, hgb8, hgs8⟩ := hown8.form (by omega); subst hv8; have HOWN8 := hid hown8; have HG8 := hid hg8; clear hown8 hg8 hn8)
  have hel : (encFr k p).length = 5 + (encI p.length).length + p.length + (le4 (sumX (bodyL k p))).length := by rw [encFr_length, le4_length]; omega
  have hec : encFr k p = markL ++ [k] ++ encI p.length ++ p ++ le4 (sumX (bodyL k p)) := by simp [encFr, bodyL, encT]
  have HEL := hid hel
  have HEC := hid hec
  clear hel hec
  go_ret2
  refine ⟨cap8, g8, by rw [HEL.out]; rfl, ?_, ?_⟩
  ·have h8 := HOWN8.out
   rw [← HEL.out, ← List.map_append, ← List.map_append, ← HEC.out] at h8
   exact h8
  ·exact (HBW7.out.alloc hz75 _).grown HG8.out (by simp; omega) (fun j hj => (HOWN7.out.lt j hj).1)
theorem own_shape {w : World} {base : Nat} {e : TypeId} {size n : Nat} {v : Value} {us : List Value} (h : w.ownsRow base e size v n us) : ∃ A c, v = .slice A n c := by
 rcases h.2 with ⟨rfl, rfl⟩ | ⟨g, c, _, rfl, _⟩
 ·exact ⟨none, 0, rfl⟩
 ·exact ⟨_, c, rfl⟩
def gapP (a r : Nat) : List Pt := if a < r then [⟨skipS a r, none, 0⟩] else []
theorem gapP_yes {a r : Nat} (h : a < r) : gapP a r = [⟨skipS a r, none, 0⟩] := if_pos h
theorem gapP_no {a r : Nat} (h : ¬ a < r) : gapP a r = [] := if_neg h
theorem gapP_new (n a r : Nat) : NewP n (gapP a r) := by
 intro p hp a' e
 unfold gapP at hp
 split at hp
 ·obtain rfl : p = _ := by simpa using hp
  cases e
 ·simp at hp
theorem gap_row (W : World) (N : Nat) (hN : W.heap.size = N) (a r : Nat) (x : Int) (hx : x = ((r - a : Nat) : Int)) :
  SegRow (W.alloc (.cells #[.int .i64 a, .int .i64 x, .bool false, .int .i64 0, .slice none 0 0] 46)) (W.alloc (.cells #[.int .i64 a, .int .i64 x, .bool false, .int .i64 0, .slice none 0 0] 46)).heap.size (.slice (some ⟨N, 0, none⟩) 1 1) [⟨skipS a r, none, 0⟩] := by
 subst hN hx
 have h : Held (W.alloc (.cells #[.int .i64 a, .int .i64 ((r - a : Nat) : Int), .bool false, .int .i64 0, .slice none 0 0] 46)) W.heap.size 46 #[.int .i64 a, .int .i64 ((r - a : Nat) : Int), .bool false, .int .i64 0, .slice none 0 0] := heap_alloc_new W _
 refine one_row _ _ (Nat.le_refl _) (by unfold maxLen; omega) _ (by simp) (fun j u hj => ?_) (Row.nil _ _)
 rw [h.cell j]
 simpa [Pt.cells, skipS] using hj
abbrev FeedAt (w : World) (g : Nat) (vh : Value) (a tot : Nat) (cl : Bool) : Prop := Held w g 146 #[vh, .int .i64 a, .int .i64 tot, .bool cl]
theorem FeedAt.nob {w : World} {g : Nat} {vh : Value} {a tot : Nat} {cl : Bool} (hf : FeedAt w g vh a tot cl) (hvh : ∀ n, vh ≠ .int .u8 n) (i : Nat) (n : Int) : w.cell? ⟨g, i, none⟩ ≠ some (.int .u8 n) := by
 rw [hf.cell i]
 match i with
 | 0 => simpa using hvh n
 | 1 => simp
 | 2 => simp
 | 3 => simp
 | i + 4 => simp
theorem app_but {w W0 w' : World} {g : Nat} {vh : Value} {a tot : Nat} {cl : Bool} {n0 : Nat} {v : Value} {ps : List Pt} (hf : FeedAt w g vh a tot cl) (hs : Segs w n0 v ps) (hb : Below w.heap.size w W0) (hg : W0.grownBy w' v.ownBlock) :
  But w w' v.ownBlock g ∧ FeedAt w' g vh a tot cl := by
 refine ⟨(But.of_below hb _ g).trans (But.of_row hg g) (fun j e => .inl e), ?_⟩
 refine ((hg.block g (Nat.lt_of_lt_of_le hf.lt hb.size) (fun e => ?_)).trans (hb.block g hf.lt)).trans hf
 rcases hs.apart hf (by decide) with h | h
 ·rw [h] at e; cases e
 ·exact h e.symm
theorem Segs.past {w : World} {n0 : Nat} {v : Value} {ps : List Pt} {g : Nat} {vh : Value} {a tot : Nat} {cl : Bool} (hs : Segs w n0 v ps) (hf : FeedAt w g vh a tot cl) (hvh : ∀ n, vh ≠ .int .u8 n) (i : Nat) (u : Value) : Segs (w.setCell ⟨g, i, none⟩ u) n0 v ps :=
 hs.kept (grown_put w g i u) (hs.apart hf (by decide)) fun k e j n => by
  obtain rfl : g = k := by injection e
  exact hf.nob hvh j n
theorem skip_any (w : World) (g : Nat) (vh : Value) (a r tot : Nat) (cl : Bool) (hf : FeedAt w g vh a tot cl) (n0 : Nat) (v : Value) (ps : List Pt) (hs : Segs w n0 v ps) (hn0 : n0 ≤ w.heap.size)
  (ha : a ≤ 100000000000) (hr : r ≤ 100000000000) (hps : ps.length ≤ 100000000000) (hvh : ∀ n, vh ≠ .int .u8 n) :
  Calls Tryz.prog 77 #[.pointer (some ⟨g, 0, none⟩), v, .int .i64 r] w fun e w' =>
   ∃ v', e = .returned v' ∧ Segs w' n0 v' (ps ++ gapP a r) ∧ FeedAt w' g vh (max a r) tot cl ∧ But w w' v.ownBlock g := by
 obtain ⟨i0, hi, hz0, hz1, hz2⟩ := info_parts Tryz.infoSeg
 obtain ⟨A, c, rfl, hc, hcm⟩ := hs.form
 have hg := hf.lt
 have hc1 := hf.cell 1
 simp at hc1
 have hf1 := hf.frozen 1
 have r0 : (0 : Int) ≤ r := by omega
 have r1 : (r : Int) ≤ 100000000000 := by omega
 have a0 : (0 : Int) ≤ a := by omega
 have a1 : (a : Int) ≤ 100000000000 := by omega
 have HF := hid hf
 have HS := hid hs
 have HSB := hid (fun W (h : Below w.heap.size w W) => hs.below h)
 clear hf hs
 by_cases hlt : a < r
 ·have hli : (a : Int) < r := by omega
  rw [gapP_yes hlt, Nat.max_eq_right (Nat.le_of_lt hlt)]
  have HW := hid (show IntKind.i64.wrap ((r : Int) - a) = ((r - a : Nat) : Int) by rw [IntKind.wrap_i64]; omega)
  go_enter Tryz.func77, Tryz.ntmps77
  go_wp2_with fail
  go_region_law (first | (refine step_append_segs (by rfl) (.tmp 13) (.tmp 25) 42 (by rfl) i0 _ Tryz.underlying42 hi hz0 hz1 (by omega) rfl n0 (.slice A ps.length c) ps (by rfl) (HSB.out _ (by first | exact (Below.refl _ _).alloc (Nat.le_refl _) _ | exact ((Below.refl _ _).drew).alloc (Nat.le_refl _) _)) (.slice (some ⟨w.heap.size, 0, none⟩) 1 1) [⟨skipS a r, none, 0⟩] (by rfl) (gap_row _ _ rfl a r _ HW.out) (by simp; omega) (by simp; omega) ?_; intro v' w' hs' hg'))
  all_goals
   obtain ⟨hbut, hf'⟩ := app_but HF.out HS.out (by first | exact ((Below.refl _ _).alloc (Nat.le_refl _) _).drew | exact ((Below.refl _ _).drew).alloc (Nat.le_refl _) _) hg'
   obtain ⟨A1, c1, ev, _, _⟩ := hs'.form
   rw [List.length_append, List.length_singleton] at ev
   subst ev
   have hg1 := hf'.lt
   have hc1' := hf'.cell 1
   simp at hc1'
   have hf1' := hf'.frozen 1
   have HF1 := hid hf'
   have HS1 := hid hs'
   have HBUT := hid hbut
   clear hf' hs' hbut hg' hc1 hf1
   go_wp2_with fail
   go_ret
   exact ⟨_, rfl, HS1.out.past HF1.out hvh 1 _, by simpa using HF1.out.put 1 (.int .i64 r), HBUT.out.trans (But.of_one (grown_put w' g 1 _) _) (fun j e => .inl e)⟩
 ·have hli : ¬ (a : Int) < r := by omega
  rw [gapP_no hlt, Nat.max_eq_left (by omega), List.append_nil]
  go_enter Tryz.func77, Tryz.ntmps77
  go_wp2_with fail
  go_ret
  exact ⟨_, rfl, HS.out, HF.out, But.refl _ _ _⟩
theorem own_feed {w : World} {g : Nat} {vx : Value} {a tot : Nat} {cl : Bool} {n0 n : Nat} {v : Value} {us : List Value} (hf : FeedAt w g vx a tot cl) (h : w.ownsRow n0 5 1 v n us) : v.ownBlock = none ∨ v.ownBlock ≠ some g := by
 rcases h.2 with ⟨rfl, _⟩ | ⟨g', cap, cur, rfl, _, hgb, _⟩
 ·exact .inl rfl
 ·refine .inr fun e => ?_
  obtain rfl : g' = g := by simpa [Value.ownBlock] using e
  rw [show w.heap[g']? = _ from hf] at hgb
  injection hgb with hgb
  injection hgb with _ e3 _
  revert e3
  decide
theorem feed_but {w w' : World} {g : Nat} {vx : Value} {a tot : Nat} {cl : Bool} {n0 n : Nat} {v : Value} {us : List Value} (hf : FeedAt w g vx a tot cl) (h : w.ownsRow n0 5 1 v n us) (hg : w.grownBy w' v.ownBlock) : FeedAt w' g vx a tot cl :=
 hf.grown hg fun e => (own_feed hf h).elim (fun h => by rw [h] at e; cases e) (fun h => h e.symm)
theorem hold_any (w : World) (g : Nat) (A : Option Addr) (n c a tot : Nat) (cl : Bool) (hf : FeedAt w g (.slice A n c) a tot cl) (n0 : Nat) (us : List Value) (hown : w.ownsRow n0 5 1 (.slice A n c) n us) (hn0 : n0 ≤ w.heap.size)
  (Ar : Option Addr) (nr cr : Nat) (ys : List Int) (hys : ys.length ≤ 100000000000) (hr : Row w w.heap.size (.slice Ar nr cr) ys) (hap : ∀ x, Ar = some x → (.slice A n c : Value).ownBlock ≠ some x.block) :
  Calls Tryz.prog 74 #[.pointer (some ⟨g, 0, none⟩), .slice Ar nr cr] w fun e w' =>
   ∃ v', e = .returned (.tuple #[]) ∧ FeedAt w' g v' a tot cl ∧ w'.ownsRow n0 5 1 v' ys.length (ys.map (.int .u8)) ∧ But w w' (.slice A n c : Value).ownBlock g ∧
    (v'.ownBlock = (.slice A n c : Value).ownBlock ∨ ∃ j, v'.ownBlock = some j ∧ w.heap.size ≤ j) := by
 obtain ⟨i0, hi, hz0, hz1, hz2⟩ := info_parts Tryz.infoU8
 obtain ⟨w1, hcl, hg1, us', hown1⟩ := run_clear_row (P := Tryz.prog) w n0 22 0 5 Tryz.underlying22 (fun w => by simp [zeroValue, typeInfo, hi, hz0]) (.slice A n c) n us hown
 obtain ⟨v0, hv0, hown0, hob⟩ := own_zero hown1
 have hv0' := hv0 A c rfl
 subst hv0'
 have hf1 : FeedAt w1 g (.slice A n c) a tot cl := feed_but hf hown hg1
 have hb1 := But.of_row hg1 g
 have hr1 : Row w1 w1.heap.size (.slice Ar nr cr) ys := (hb1.bytes hr (hf.nob (by simp)) hap).more hg1.size
 obtain ⟨_, hn1, hn2⟩ : ∃ _ : True, n ≤ c ∧ c ≤ 9223372036854775807 := by
  rcases hown.2 with ⟨e, h0⟩ | ⟨_, _, _, e, _, _, h1, h2, _⟩
  ·injection e with _ _ e3; exact ⟨trivial, by omega, by omega⟩
  ·injection e with _ _ e3; unfold maxLen at h2; exact ⟨trivial, by omega, by omega⟩
 have hg := hf.lt
 have hgl1 := hf1.lt
 have x0 := hf.cell 0
 have y0 := hf1.cell 0
 simp at x0 y0
 have hsz : w.heap.size ≤ w1.heap.size := hg1.size
 have HF1 := hid hf1
 have HR1 := hid hr1
 have HO := hid hown0
 have HB1 := hid hb1
 have HOB := hid hob
 clear hf hown hr hap hown1 hown0 hv0 hf1 hb1 hr1 hg1 hob
 go_enter Tryz.func74, Tryz.ntmps74
 go_wp2_with (at_builtin; (refine wpList_append_row_at (by rfl) (.tmp 13) (.tmp 14) 22 (by rfl) n0 5 i0 (.int .u8 0) Tryz.underlying22 hi hz0 hz1 hz2 rfl (.slice A 0 c) 0 [] (by rfl) HO.out w1.heap.size (.slice Ar nr cr) ys (by rfl) HR1.out (by omega) (by omega) ?_; intro v' w2 hown2 hg2 hat2; obtain ⟨A2, c2, rfl⟩ := own_shape hown2; have hf2 := feed_but HF1.out HO.out hg2; have hgl2 := hf2.lt; have x2 := hf2.cell 0; simp at x2; have f2 := hf2.frozen 0; rw [Nat.zero_add] at hown2 hat2 ⊢; rw [List.nil_append] at hown2; have HF2 := hid hf2; have HO2 := hid hown2; have HG2 := hid hg2; have HAT := hid hat2; clear hf2 hown2 hg2 hat2))
 go_end0
 have hob2 : (.slice A 0 c : Value).ownBlock = (.slice A n c : Value).ownBlock := HOB.out
 have hb2 := HB1.out.trans (But.of_row HG2.out g) (fun j e => .inl (by rw [← hob2]; exact e))
 have hset := grown_put w2 g 0 (.slice A2 ys.length c2)
 refine ⟨.slice A2 ys.length c2, rfl, by simpa using HF2.out.put 0 (.slice A2 ys.length c2), HO2.out.kept hset ?_, hb2.trans (But.of_one hset _) (fun j e => .inl e), ?_⟩
 ·exact own_feed HF2.out HO2.out
 ·rcases HAT.out with h | h
  ·exact .inl (Eq.trans h hob2)
  ·exact .inr ⟨w1.heap.size, h, hsz⟩
theorem fnew_any (w : World) : Calls Tryz.prog 48 #[] w fun e w' => e = .returned (.pointer (some ⟨w.heap.size, 0, none⟩)) ∧ FeedAt w' w.heap.size (.slice none 0 0) 0 0 false ∧ Below w.heap.size w w' := by
 go_enter Tryz.func48, Tryz.ntmps48
 go_wp2_with fail
 go_ret
 exact ⟨rfl, heap_alloc_new w _, (Below.refl _ _).alloc (Nat.le_refl _) _⟩
theorem held_any (w : World) (g : Nat) (A : Option Addr) (n c a tot : Nat) (cl : Bool) (hf : FeedAt w g (.slice A n c) a tot cl) :
  Calls Tryz.prog 44 #[.pointer (some ⟨g, 0, none⟩)] w fun e w' => e = .returned (.int .i64 n) ∧ w = w' := by
 have hg := hf.lt
 have x0 := hf.cell 0
 simp at x0
 go_enter Tryz.func44, Tryz.ntmps44
 go_wp2_with fail
 go_ret
 exact ⟨rfl, rfl⟩
def Bytes (xs : List Int) : Prop := ∀ x ∈ xs, 0 ≤ x ∧ x < 256
theorem Bytes.append {xs ys : List Int} (h : Bytes xs) (k : Bytes ys) : Bytes (xs ++ ys) := fun x hx => (List.mem_append.1 hx).elim (h x) (k x)
theorem Bytes.drop {xs : List Int} (h : Bytes xs) (k : Nat) : Bytes (xs.drop k) := fun x hx => h x (List.mem_of_mem_drop hx)
def Settled (xs : List Int) (a o : Nat) : Prop := ∀ j, a ≤ j → j < o → (getFr (xs.drop j)).2.2 ≠ 0 ∧ (getFr (xs.drop j)).2.2 ≠ 2
theorem Settled.nil (xs : List Int) (a : Nat) : Settled xs a a := fun j h1 h2 => by omega
theorem Settled.trans {xs : List Int} {a b c : Nat} (h : Settled xs a b) (k : Settled xs b c) : Settled xs a c := fun j h1 h2 => by
 rcases Nat.lt_or_ge j b with h3 | h3
 ·exact h j h1 h3
 ·exact k j h3 h2
theorem Settled.give {xs : List Int} {a o : Nat} (ys : List Int) (h : Settled xs a o) (hb : Bytes xs) (ho : o ≤ xs.length) : Settled (xs ++ ys) a o := fun j h1 h2 => by
 rw [drop_longer ys (by omega) hb (h j h1 h2).2]
 exact h j h1 h2
theorem Settled.no {xs : List Int} {a o : Nat} (h : Settled xs a o) : ∀ j, a ≤ j → j < o → ¬ Begins xs j := fun j h1 h2 => (h j h1 h2).1
theorem begins_give {xs : List Int} {r : Nat} (ys : List Int) (h : Begins xs r) (hb : Bytes xs) (hr : r ≤ xs.length) : getFr ((xs ++ ys).drop r) = getFr (xs.drop r) :=
 drop_longer ys hr hb (by unfold Begins at h; rw [h]; simp)
theorem frS_give {xs : List Int} {r : Nat} (ys : List Int) (h : Begins xs r) (hb : Bytes xs) (hr : r ≤ xs.length) : frS (xs ++ ys) r = frS xs r := by
 unfold frS
 rw [begins_give ys h hb hr]
theorem open_some {xs : List Int} {a r : Nat} (h : nextI true xs a = (r : Int)) : a ≤ r ∧ r < xs.length ∧ ((getFr (xs.drop r)).2.2 = 0 ∨ (getFr (xs.drop r)).2.2 = 2) ∧ Settled xs a r := by
 rcases first_cases (begI true xs) (xs.length - (a : Int).toNat) (a : Int).toNat with ⟨e, _⟩ | ⟨q, e, h1, h2, h3, h4⟩
 ·unfold nextI at h
  omega
 ·unfold nextI at h
  obtain rfl : q = r := by omega
  rw [Int.toNat_natCast] at h1 h2 h4
  refine ⟨h1, by omega, by simpa [begI] using h3, fun j hj hj2 => ?_⟩
  have := h4 j hj hj2
  simpa [begI] using this
theorem open_no {xs : List Int} {a : Nat} (h : nextI true xs a < 0) : Settled xs a xs.length := by
 rcases first_cases (begI true xs) (xs.length - (a : Int).toNat) (a : Int).toNat with ⟨_, hn⟩ | ⟨q, e, _⟩
 ·rw [Int.toNat_natCast] at hn
  intro j hj hj2
  have := hn j hj (by omega)
  simpa [begI] using this
 ·unfold nextI at h
  omega
def Sure (xs : List Int) (T : List Sg) (a : Nat) : Prop := a ≤ xs.length ∧ ∀ more, Bytes more → Ahead (xs ++ more) T a
theorem Sure.start : Sure [] [] 0 := ⟨Nat.zero_le _, fun _ _ => Ahead.start _⟩
theorem Sure.give {xs : List Int} {T : List Sg} {a : Nat} (h : Sure xs T a) {ys : List Int} (hy : Bytes ys) : Sure (xs ++ ys) T a :=
 ⟨by rw [List.length_append]; have := h.1; omega, fun more hm => by rw [List.append_assoc]; exact h.2 (ys ++ more) (hy.append hm)⟩
theorem Sure.now {xs : List Int} {T : List Sg} {a : Nat} (h : Sure xs T a) : Ahead xs T a := by
 have := h.2 [] (fun x hx => by simp at hx)
 rwa [List.append_nil] at this
theorem Sure.fr {xs : List Int} {T : List Sg} {a : Nat} (h : Sure xs T a) (hb : Bytes xs) (hg : Begins xs a) : Sure xs (T ++ [frS xs a]) (a + (getFr (xs.drop a)).2.1) := by
 have hi := begins_in hb hg
 refine ⟨hi.2.1, fun more hm => ?_⟩
 have e := begins_give more hg hb h.1
 have hg' : Begins (xs ++ more) a := by unfold Begins; rw [e]; exact hg
 have := (h.2 more hm).fr (by rw [List.length_append]; omega) hg'
 rw [frS_give more hg hb h.1, e] at this
 exact this
theorem Sure.gap {xs : List Int} {T : List Sg} {a r : Nat} (h : Sure xs T a) (hb : Bytes xs) (hr : a < r) (hs : Settled xs a r) (hg : Begins xs r) : Sure xs ((T ++ [skipS a r]) ++ [frS xs r]) (r + (getFr (xs.drop r)).2.1) := by
 have hi := begins_in hb hg
 have hrl : r ≤ xs.length := by omega
 refine ⟨hi.2.1, fun more hm => ?_⟩
 have e := begins_give more hg hb hrl
 have hg' : Begins (xs ++ more) r := by unfold Begins; rw [e]; exact hg
 have := (h.2 more hm).gap hr (by rw [List.length_append]; omega) (hs.give more hb hrl).no hg'
 rw [frS_give more hg hb hrl, e] at this
 exact this
theorem settled_held {xs : List Int} {o a b : Nat} (h : Settled (xs.drop o) a b) : Settled xs (o + a) (o + b) := fun j h1 h2 => by
 have := h (j - o) (by omega) (by omega)
 rwa [List.drop_drop, show o + (j - o) = j by omega] at this
def gapS (a r : Nat) : List Sg := if a < r then [skipS a r] else []
theorem Sure.step {xs : List Int} {T : List Sg} {a r : Nat} (h : Sure xs T a) (hb : Bytes xs) (ha : a ≤ r) (hs : Settled xs a r) (hg : Begins xs r) : Sure xs ((T ++ gapS a r) ++ [frS xs r]) (r + (getFr (xs.drop r)).2.1) := by
 unfold gapS
 split
 ·exact h.gap hb (by assumption) hs hg
 ·obtain rfl : a = r := by omega
  rw [List.append_nil]
  exact h.fr hb hg
theorem Ahead.step {xs : List Int} {T : List Sg} {a r : Nat} (h : Ahead xs T a) (ha : a ≤ r) (hr : r < xs.length) (hn : ∀ j, a ≤ j → j < r → ¬ Begins xs j) (hg : Begins xs r) : Ahead xs ((T ++ gapS a r) ++ [frS xs r]) (r + (getFr (xs.drop r)).2.1) := by
 unfold gapS
 split
 ·exact h.gap (by assumption) hr hn hg
 ·obtain rfl : a = r := by omega
  rw [List.append_nil]
  exact h.fr hr hg
theorem Ahead.end {xs : List Int} {T : List Sg} {a : Nat} (h : Ahead xs T a) (hn : ∀ j, a ≤ j → j < xs.length → ¬ Begins xs j) : PartsS xs 0 (T ++ gapS a xs.length) := by
 unfold gapS
 split
 ·exact h.last (by assumption) hn
 ·rw [List.append_nil]
  exact h.done (by omega)
def Fd (xs : List Int) (T : List Sg) (a o : Nat) : Prop := a ≤ o ∧ o ≤ xs.length ∧ Sure xs T a ∧ Settled xs a o ∧ (o = xs.length ∨ (getFr (xs.drop o)).2.2 = 2)
theorem Fd.start : Fd [] [] 0 0 := ⟨Nat.le_refl _, Nat.le_refl _, Sure.start, Settled.nil _ _, .inl rfl⟩
theorem nextI_ways (op : Bool) (xs : List Int) : nextI op xs 0 = -1 ∨ ∃ r : Nat, nextI op xs 0 = (r : Int) ∧ r < xs.length := by
 rcases first_cases (begI op xs) (xs.length - (0 : Int).toNat) (0 : Int).toNat with ⟨e, _⟩ | ⟨q, e, h1, h2, _⟩
 ·exact .inl e
 ·exact .inr ⟨q, e, by simp at h2; omega⟩
theorem begins_drop0 (xs : List Int) (o r : Nat) : Begins (xs.drop o) r ↔ Begins xs (o + r) := by
 unfold Begins
 rw [List.drop_drop]
theorem open_here {xs : List Int} {o r : Nat} (h : nextI true (xs.drop o) 0 = (r : Int)) : Settled xs o (o + r) ∧ ((getFr (xs.drop (o + r))).2.2 = 0 ∨ (getFr (xs.drop (o + r))).2.2 = 2) := by
 obtain ⟨_, _, h3, h4⟩ := open_some (a := 0) h
 have := settled_held h4
 rw [List.drop_drop] at h3
 exact ⟨by simpa using this, h3⟩
theorem open_gone {xs : List Int} {o : Nat} (ho : o ≤ xs.length) (h : nextI true (xs.drop o) 0 = -1) : Settled xs o xs.length := by
 have := settled_held (open_no (a := 0) (xs := xs.drop o) (by show nextI true (xs.drop o) 0 < 0; omega))
 rw [List.length_drop] at this
 simpa [show o + (xs.length - o) = xs.length by omega] using this
theorem next_here {xs : List Int} {o r : Nat} (h : nextI false (xs.drop o) 0 = (r : Int)) : Begins xs (o + r) ∧ ∀ j, o ≤ j → j < o + r → ¬ Begins xs j := by
 obtain ⟨_, _, h3, h4⟩ := next_some (a := 0) h
 rw [begins_drop0] at h3
 refine ⟨h3, fun j h1 h2 => ?_⟩
 have := h4 (j - o) (Nat.zero_le _) (by omega)
 rwa [begins_drop0, show o + (j - o) = j by omega] at this
theorem next_gone {xs : List Int} {o : Nat} (h : nextI false (xs.drop o) 0 = -1) : ∀ j, o ≤ j → j < xs.length → ¬ Begins xs j := fun j h1 h2 => by
 have := next_no (a := 0) (xs := xs.drop o) (by show nextI false (xs.drop o) 0 < 0; omega) (j - o) (Nat.zero_le _) (by rw [List.length_drop]; omega)
 rwa [begins_drop0, show o + (j - o) = j by omega] at this
theorem PartsS.exist {xs : List Int} (hx : Bytes xs) : ∀ (n a : Nat), xs.length - a ≤ n → ∃ l, PartsS xs a l
 | 0, a, h => ⟨[], .stop a (by omega)⟩
 | n + 1, a, h => by
  by_cases ha : xs.length ≤ a
  ·exact ⟨[], .stop a ha⟩
  ·rcases next_ways xs a with e | ⟨r, e⟩
   ·exact ⟨_, .rest a (by omega) (next_no (by omega))⟩
   ·obtain ⟨h1, h2, h3, h4⟩ := next_some e
    have h5 := begins_in hx h3
    obtain ⟨l, hl⟩ := PartsS.exist hx n (r + (getFr (xs.drop r)).2.1) (by omega)
    by_cases hr : a = r
    ·subst hr
     exact ⟨_, .fr a l h2 h3 hl⟩
    ·exact ⟨_, .gap a r l (by omega) h2 h4 h3 hl⟩
theorem PartsS.some {xs : List Int} {a : Nat} {l : List Sg} (h : PartsS xs a l) (ha : a < xs.length) : l ≠ [] := by
 cases h with
 | stop _ h => omega
 | rest _ _ _ => simp
 | fr _ _ _ _ _ => simp
 | gap _ _ _ _ _ _ _ _ => simp
theorem PartsS.none {xs : List Int} {a : Nat} {l : List Sg} (h : PartsS xs a l) (ha : xs.length ≤ a) : l = [] := by
 cases h with
 | stop _ _ => rfl
 | rest _ h _ => omega
 | fr _ _ h _ _ => omega
 | gap _ _ _ h1 h _ _ _ => omega
theorem cut_addr {A : Option Addr} {c k : Nat} {x : Addr} (h : (if c = k then A else A.map (·.add k)) = some x) : ∃ y, A = some y ∧ x.block = y.block := by
 split at h
 ·exact ⟨x, h, rfl⟩
 ·cases A with
  | none => cases h
  | some y =>
   simp only [Option.map_some, Option.some.injEq] at h
   exact ⟨y, rfl, by rw [← h]; unfold Addr.add; split <;> rfl⟩
def Tells (w : World) (g : Nat) (vh : Value) (cl : Bool) (xs : List Int) (A : Option Addr) (op : Bool) (I : List Sg → Nat → Nat → Prop) (e : Ending) (w' : World) : Prop :=
 ∃ v Ar nr cr ps a o q, e = .returned (.tuple #[v, .slice Ar nr cr]) ∧ Segs w' w.heap.size v ps ∧ NewP w.heap.size ps ∧ I (ps.map (·.s)) a o ∧ a ≤ o ∧ o ≤ q ∧ q ≤ xs.length ∧ FeedAt w' g vh a xs.length cl ∧ w.grownBy w' (some g) ∧
  Row w' w'.heap.size (.slice Ar nr cr) (xs.drop q) ∧ (∀ x, Ar = some x → ∃ y, A = some y ∧ x.block = y.block) ∧ ps.length ≤ xs.length ∧
  (nextI op (xs.drop o) 0 = -1 ∧ q = xs.length ∨ nextI op (xs.drop o) 0 = ((q - o : Nat) : Int) ∧ ¬ Begins xs q)
theorem fr_row (W : World) (N : Nat) (hN : W.heap.size = N) (s : Sg) (A : Option Addr) (c : Nat) (hp : Row W W.heap.size (.slice A s.pay.length c) s.pay) :
  SegRow (W.alloc (.cells #[.int .i64 s.frm, .int .i64 s.n, .bool s.isf, .int .i64 s.kind, .slice A s.pay.length c] 46)) (W.alloc (.cells #[.int .i64 s.frm, .int .i64 s.n, .bool s.isf, .int .i64 s.kind, .slice A s.pay.length c] 46)).heap.size (.slice (some ⟨N, 0, none⟩) 1 1) [⟨s, A, c⟩] := by
 subst hN
 have ba : Below W.heap.size W (W.alloc (.cells #[.int .i64 s.frm, .int .i64 s.n, .bool s.isf, .int .i64 s.kind, .slice A s.pay.length c] 46)) := (Below.refl _ _).alloc (Nat.le_refl _) _
 have h : Held (W.alloc (.cells #[.int .i64 s.frm, .int .i64 s.n, .bool s.isf, .int .i64 s.kind, .slice A s.pay.length c] 46)) W.heap.size 46 #[.int .i64 s.frm, .int .i64 s.n, .bool s.isf, .int .i64 s.kind, .slice A s.pay.length c] := heap_alloc_new W _
 refine one_row _ _ (Nat.le_refl _) (by unfold maxLen; omega) _ h.lt (fun j u hj => ?_) ((hp.below ba).more ba.size)
 rw [h.cell j]
 simpa [Pt.cells] using hj
theorem But.join {w w3 w4 : World} {g : Nat} {row : Option Nat} (h : w.grownBy w3 (some g)) (k : But w3 w4 row g) (hr : ∀ j, row = some j → w.heap.size ≤ j) : w.grownBy w4 (some g) :=
 ⟨k.os.trans h.os, k.tape.trans h.tape, k.output.trans h.output, Nat.le_trans h.size k.size, fun i hi hn =>
  (k.block i (Nat.lt_of_lt_of_le hi h.size) (fun e => hn (by rw [e])) (fun e => by have := hr i e.symm; omega)).trans (h.block i hi hn)⟩
theorem frame_feed {w : World} {F g : Nat} {t : TypeId} {x y : Value} {vh : Value} {a tot : Nat} {cl : Bool} (h : Held w F t #[x, y]) (hf : FeedAt w g vh a tot cl) : F ≠ g := by
 rintro rfl
 have e := (show w.heap[F]? = _ from h).symm.trans hf
 injection e with e
 injection e with e _ _
 have := congrArg Array.size e
 simp at this
theorem gapP_map (a r : Nat) : (gapP a r).map (·.s) = gapS a r := by
 unfold gapP gapS
 split <;> rfl
theorem gapP_len (a r : Nat) : (gapP a r).length ≤ 1 := by
 unfold gapP
 split <;> simp
theorem tellN_any (xs : List Int) (hsm : xs.length ≤ 100000000000) (hbx : ∀ x ∈ xs, 0 ≤ x ∧ x < 256)
  (I : List Sg → Nat → Nat → Prop) (hstep : ∀ ps a o r, I ps a o → a ≤ o → o ≤ r → r < xs.length → nextI false (xs.drop o) 0 = ((r - o : Nat) : Int) → Begins xs r → I (ps ++ gapS a r ++ [frS xs r]) (r + (getFr (xs.drop r)).2.1) (r + (getFr (xs.drop r)).2.1))
  (w : World) (g : Nat) (vh : Value) (hvh : ∀ n, vh ≠ .int .u8 n) (a o : Nat) (cl : Bool) (hao : a ≤ o) (ho : o ≤ xs.length) (hI : I [] a o) (hf : FeedAt w g vh a xs.length cl)
  (A : Option Addr) (n c : Nat) (hn : n = (xs.drop o).length) (hrow : Row w w.heap.size (.slice A n c) (xs.drop o)) :
  Calls Tryz.prog 72 #[.pointer (some ⟨g, 0, none⟩), .slice A n c, .func (.func 76) #[] #[]] w (Tells w g vh cl xs A false I) := by
 obtain ⟨i0, hi, hz0, hz1, hz2⟩ := info_parts Tryz.infoSeg
 subst hn
 have HFN := hid (fun A c o W (h : Row W W.heap.size (.slice A (xs.drop o).length c) (xs.drop o)) => next_any A c (xs.drop o) (by rw [List.length_drop]; omega) W h (drop_bytes hbx o) 0 (by omega) (by omega))
 have HFN1 := hid (HFN.out A c o w hrow)
 have HST := hid hstep
 have HBX := hid hbx
 have HROW := hid hrow
 have HF := hid hf
 have HI := hid hI
 have hlo : ∀ o, (xs.drop o).length = xs.length - o := fun o => List.length_drop
 clear hstep hbx hrow hf hI
 rw [hlo] at HROW HFN1 ⊢
 have HLO := hid hlo
 clear hlo
 go_enter Tryz.func72, Tryz.ntmps72
 go_wp2_with fail
 refine HFN1.out.mono ?_
 rintro e w1 ⟨rfl, hb1⟩
 have HF1 := hid (HF.out.below hb1 HF.out.lt)
 have HR1 := hid ((HROW.out.below hb1).more hb1.size)
 have HG1 := hid (grown_below hb1 (some g))
 clear HROW HF hb1 HFN1
 go_wp2_with fail
 go_loopg [1, 6, 8, 9] (xs.length - o) (fun gk bb tt pp ff wr => ∃ (ps : List Pt) (a1 o1 : Nat) (Ab : Option Addr) (cb : Nat) (At : Option Addr) (ct : Nat), bb = .slice Ab (xs.length - o1) cb ∧ tt = .slice At ps.length ct ∧ pp = .int .i64 (max (nextI false (xs.drop o1) 0) 0) ∧ ff = .bool (decide (0 ≤ nextI false (xs.drop o1) 0)) ∧
  a1 ≤ o1 ∧ o1 ≤ xs.length ∧ ps.length ≤ o1 ∧ Hid (xs.length - o1 = gk) ∧ Hid (Segs wr w.heap.size (.slice At ps.length ct) ps) ∧ Hid (NewP w.heap.size ps) ∧ Hid (I (ps.map (·.s)) a1 o1) ∧ Hid (FeedAt wr g vh a1 xs.length cl) ∧ Hid (w.grownBy wr (some g)) ∧
  Hid (Row wr wr.heap.size (.slice Ab (xs.length - o1) cb) (xs.drop o1)) ∧ Hid (∀ x, Ab = some x → ∃ y, A = some y ∧ x.block = y.block))
 case atStart =>
  exact ⟨[], a, o, A, c, none, 0, rfl, rfl, rfl, rfl, hao, ho, Nat.zero_le _, hid rfl, hid (Segs.nil _ _), hid (NewP.nil _), hid HI.out, hid HF1.out, hid HG1.out, hid HR1.out, hid (fun x e => ⟨x, e, rfl⟩)⟩
 case round =>
  obtain ⟨ps, a1, o1, Ab, cb, At, ct, rfl, rfl, rfl, rfl, ha1, ho1, hpl, HGK, HS, HNP, HII, HFR, HGR, HRO, HAB⟩ := hrel
  rcases nextI_ways false (xs.drop o1) with hR | ⟨r, hR, hr⟩
  ·have HRR := hid hR
   rw [hR, show max (-1 : Int) 0 = 0 from rfl, show decide ((0 : Int) ≤ -1) = false from rfl]
   clear hR
   go_wp2_with fail
   go_ret2
   exact ⟨_, none, 0, 0, ps, a1, o1, xs.length, rfl, HS.out, HNP.out, HII.out, ha1, ho1, Nat.le_refl _, HFR.out, HGR.out, by rw [List.drop_length]; exact Row.nil _ _, fun x e => (by cases e), by omega, .inl ⟨HRR.out, rfl⟩⟩
  ·have HRR := hid hR
   rw [hR, show max (r : Int) 0 = (r : Int) by omega, show decide (0 ≤ (r : Int)) = true by simp]
   rw [HLO.out] at hr
   have hrow2 := HRO.out.drop (k := r) (by rw [HLO.out]; omega)
   rw [List.drop_drop, HLO.out] at hrow2
   obtain ⟨q, hq⟩ : ∃ q, o1 + r = q := ⟨_, rfl⟩
   rw [hq] at hrow2
   have hcap : xs.length - o1 ≤ cb ∧ cb ≤ 9223372036854775807 := by
    obtain ⟨_, _, hv, q1, q2, _⟩ := HRO.out
    injection hv with _ e2 e3
    subst e3
    unfold maxLen at q2
    exact ⟨by omega, by omega⟩
   obtain ⟨hcap1, hcap2⟩ := hcap
   have hA3 := fun x (h : (if cb = r then Ab else Ab.map (·.add r)) = some x) => cut_addr h
   rw [if_neg (by omega)] at hrow2 hA3
   have HROW2 := hid hrow2
   have HA3 := hid hA3
   clear hR hrow2 hA3
   have hr0 : (0 : Int) ≤ r := by omega
   have hr1 : (r : Int) ≤ ((xs.length - o1 : Nat) : Int) := by omega
   have hr2 : ((xs.length - o1 : Nat) : Int) ≤ cb := by omega
   go_wp2_with fail
   rw [show xs.length - o1 - r = xs.length - q by omega]
   generalize Option.map (fun x : Addr => x.add r) Ab = A3 at HROW2 HA3 ⊢
   have hcap3 : xs.length - q ≤ cb - r ∧ cb - r ≤ 9223372036854775807 := ⟨by omega, by omega⟩
   obtain ⟨c3, hc3⟩ : ∃ c3, cb - r = c3 := ⟨_, rfl⟩
   rw [hc3] at HROW2 hcap3 ⊢
   obtain ⟨hcap31, hcap32⟩ := hcap3
   have hqx : q < xs.length := by omega
   have hoq : o1 ≤ q := by omega
   have hrq : r = q - o1 := by omega
   rw [hrq] at HRR
   have HAT := at_new A3 c3 (xs.drop q) (by rw [HLO.out]; omega) wr (by rw [HLO.out]; exact HROW2.out) (drop_bytes HBX.out q) 0 (Nat.zero_le _)
   rw [List.drop_zero, HLO.out] at HAT
   have HATH := hid HAT
   clear HAT hc3 hr0 hr1 hr2 hcap1 hcap2 hr hq hrq
   obtain ⟨T, hT⟩ : ∃ T, getFr (xs.drop q) = T := ⟨_, rfl⟩
   rw [hT] at HATH
   have HT := hid hT
   clear hT
   refine HATH.out.mono ?_
   rintro e w2 ⟨A1, c1, rfl, hrow1, hb2, hn1⟩
   have hz2 := hb2.size
   have HF2 := hid (HFR.out.below hb2 HFR.out.lt)
   have HS2 := hid (HS.out.below hb2)
   have HR2 := hid ((HROW2.out.below hb2).more hb2.size)
   have HG2 := hid (grown_trans HGR.out (grown_below hb2 (some g)))
   have HP2 := hid hrow1
   have HN1 := hid (fun a e => Nat.le_trans HGR.out.size (hn1 a e))
   have ba : Below w2.heap.size w2 (w2.alloc (.cells #[.int .i64 T.1.1, .slice A1 T.1.2.length c1] 44)) := (Below.refl _ _).alloc (Nat.le_refl _) _
   have HF3 := hid (HF2.out.below ba HF2.out.lt)
   have HS3 := hid (HS2.out.below ba)
   have HR3 := hid ((HR2.out.below ba).more ba.size)
   have HG3 := hid (grown_trans HG2.out (grown_below ba (some g)))
   have HP3 := hid ((HP2.out.below ba).more ba.size)
   have HK3 := hid (show Held (w2.alloc (.cells #[.int .i64 T.1.1, .slice A1 T.1.2.length c1] 44)) w2.heap.size 44 #[.int .i64 T.1.1, .slice A1 T.1.2.length c1] from heap_alloc_new w2 _)
   clear hrow1 hb2 hn1 ba HFR HS HROW2 HGR HF2 HS2 HR2 HG2 HP2 HRO
   obtain ⟨er, hE⟩ : ∃ er, T.2.2 = er := ⟨_, rfl⟩
   rw [hE]
   have HE := hid hE; clear hE
   by_cases her : er = 0
   ·subst her
    have hbg : Begins xs q := by unfold Begins; rw [HT.out, HE.out]
    have hbi := begins_in HBX.out hbg
    rw [HT.out] at hbi
    obtain ⟨hi1, hi2, _, hi4, _, _⟩ := hbi
    have HBG := hid hbg
    obtain ⟨w3, hw3⟩ : ∃ w3, w2.alloc (.cells #[.int .i64 T.1.1, .slice A1 T.1.2.length c1] 44) = w3 := ⟨_, rfl⟩
    rw [hw3] at HF3 HS3 HR3 HG3 HP3 HK3
    obtain ⟨F, hF⟩ : ∃ F, w2.heap.size = F := ⟨_, rfl⟩
    rw [hF] at HK3
    have hfl3 := HF3.out.lt
    have hkl3 := HK3.out.lt
    have y2 := HF3.out.cell 2
    simp at y2
    have hql : ((xs.length - q : Nat) : Int) = (xs.length : Int) - q := by omega
    clear hbg hz2 hcap31 hcap32
    go_wp2_with fail
    rw [show (xs.length : Int) - ((xs.length : Int) - q) = q by omega]
    refine (skip_any w3 g vh a1 q xs.length cl HF3.out w.heap.size (.slice At ps.length ct) ps HS3.out HG3.out.size (by omega) (by omega) (by omega) hvh).mono ?_
    rintro e w4 ⟨v4, rfl, hs4, hf4, hbut4⟩
    rw [Nat.max_eq_right (by omega)] at hf4
    have hrown : ∀ j, (.slice At ps.length ct : Value).ownBlock = some j → w.heap.size ≤ j := fun j e => (HS3.out.1.lt j e).1
    have hnob := FeedAt.nob HF3.out hvh
    have hclean : ∀ j, (.slice At ps.length ct : Value).ownBlock = some j → ∀ (i : Nat) (n : Int), w3.cell? ⟨j, i, none⟩ ≠ some (.int .u8 n) := fun j e => HS3.out.2.1 j e
    have hfk := frame_feed HK3.out HF3.out
    have HK4 := hid (hbut4.held HK3.out hfk (fun e => (HS3.out.apart HK3.out (by decide)).elim (fun h => by rw [h] at e; cases e) (fun h => h e.symm)))
    have HP4 := hid ((hbut4.clean HP3.out hnob hclean).more hbut4.size)
    have HR4 := hid ((hbut4.clean HR3.out hnob hclean).more hbut4.size)
    have HG4 := hid (But.join HG3.out hbut4 hrown)
    obtain ⟨A4, c4, ev, hc41, hc42⟩ := hs4.form
    obtain ⟨N4, hN4⟩ : ∃ N4, (ps ++ gapP a1 q).length = N4 := ⟨_, rfl⟩
    have hN42 : N4 ≤ ps.length + 1 := by rw [← hN4, List.length_append]; have := gapP_len a1 q; omega
    rw [hN4] at ev hc41
    subst ev
    have HN4 := hid hN4
    have HS4 := hid hs4
    have HF4 := hid hf4
    have hfl4 := hf4.lt
    have x1 := hf4.cell 1
    have xf := hf4.frozen 1
    obtain ⟨k0, k1⟩ := cC2 HK4.out
    have hkl4 := HK4.out.lt
    simp at x1 k0 k1
    have HSB := hid (fun W (h : Below w4.heap.size w4 W) => hs4.below h)
    have HFR := hid (fun W N (hN : W.heap.size = N) (h : Row W W.heap.size (.slice A1 T.1.2.length c1) T.1.2) => fr_row W N hN ⟨q, T.2.1, true, T.1.1, T.1.2⟩ A1 c1 h)
    have HP4B := hid (fun W (h : Below w4.heap.size w4 W) => (HP4.out.below h).more h.size)
    clear hs4 hf4 hbut4 hrown hnob hclean hfk hN4 HS3 HF3 HK3 HP3 HR3 HG3 hw3 hF hfl3 hkl3 y2
    simp only at HFR
    go_wp2_with fail
    go_region_law (first | (refine step_append_segs (by rfl) (.tmp 49) (.tmp 57) 42 (by rfl) i0 _ Tryz.underlying42 hi hz0 hz1 (by omega) rfl w.heap.size (.slice A4 N4 c4) (ps ++ gapP a1 q) (by rfl) (HSB.out _ (by first | exact (Below.refl _ _).alloc (Nat.le_refl _) _ | exact ((Below.refl _ _).drew).alloc (Nat.le_refl _) _)) (.slice (some ⟨w4.heap.size, 0, none⟩) 1 1) [⟨⟨q, T.2.1, true, T.1.1, T.1.2⟩, A1, c1⟩] (by rfl) (HFR.out _ _ rfl HP4.out) (by rw [HN4.out]; simp; omega) (by simp; have := HG4.out.size; omega) ?_; intro v5 w5 hs5 hg5))
    all_goals
     obtain ⟨hbut5, hf5⟩ := app_but HF4.out HS4.out (by first | exact ((Below.refl _ _).alloc (Nat.le_refl _) _).drew | exact ((Below.refl _ _).drew).alloc (Nat.le_refl _) _) hg5
     obtain ⟨A5, c5, ev, _, _⟩ := hs5.form
     rw [List.length_append, HN4.out, List.length_singleton] at ev
     subst ev
     have hr5 := (hbut5.clean HR4.out (FeedAt.nob HF4.out hvh) (fun j e => HS4.out.2.1 j e)).more hbut5.size
     have hput := grown_put w5 g 1 (.int .i64 ((q : Int) + (T.2.1 : Nat)))
     have HR6 := hid (((But.of_one hput none).clean hr5 (FeedAt.nob hf5 hvh) (fun j e => by cases e)).more hput.size)
     have HG6 := hid (grown_trans (But.join HG4.out hbut5 (fun j e => (HS4.out.1.lt j e).1)) hput)
     have HS6 := hid (hs5.past hf5 hvh 1 (.int .i64 ((q : Int) + (T.2.1 : Nat))))
     have HF6 := hid (show FeedAt (w5.setCell ⟨g, 1, none⟩ (.int .i64 ((q : Int) + (T.2.1 : Nat)))) g vh (q + T.2.1) xs.length cl by rw [FeedAt, show ((q + T.2.1 : Nat) : Int) = (q : Int) + (T.2.1 : Nat) by omega]; simpa using hf5.put 1 (.int .i64 ((q : Int) + (T.2.1 : Nat))))
     have hfl5 := hf5.lt
     have z1 := hf5.cell 1
     have zf := hf5.frozen 1
     simp at z1
     have hrow6 := HR6.out.drop (k := T.2.1) (by rw [HLO.out]; omega)
     rw [List.drop_drop, HLO.out] at hrow6
     have hA6 := fun x (h : (if c3 = T.2.1 then A3 else A3.map (·.add T.2.1)) = some x) => cut_addr h
     have HROW6 := hid hrow6
     have HA6 := hid hA6
     have s0 : (0 : Int) ≤ (T.2.1 : Nat) := by omega
     have s1 : ((T.2.1 : Nat) : Int) ≤ ((xs.length - q : Nat) : Int) := by omega
     have hc3 : xs.length - q ≤ c3 := by
      obtain ⟨_, _, hv, q1, _⟩ := HR6.out
      injection hv with _ e2 e3
      subst e3
      omega
     have s2 : ((xs.length - q : Nat) : Int) ≤ c3 := by omega
     clear hs5 hg5 hbut5 hf5 hr5 hput hrow6 hA6 x1 xf k0 k1 HK4 HP4 HR4 HG4 HSB HFR HP4B
     by_cases hck : c3 = T.2.1
     ·rw [if_pos hck, show c3 - T.2.1 = 0 by omega] at HROW6
      simp only [if_pos hck] at HA6
      go_wp2_with fail
      rw [show xs.length - q - T.2.1 = xs.length - (q + T.2.1) by omega]
      have HC := HFN.out A3 0 (q + T.2.1) _ (by rw [HLO.out]; exact HROW6.out)
      rw [HLO.out] at HC
      have HCH := hid HC
      clear HC
      refine HCH.out.mono ?_
      rintro e w7 ⟨rfl, hb7⟩
      have HF7 := hid (HF6.out.below hb7 HF6.out.lt)
      have HS7 := hid (HS6.out.below hb7)
      have HR7 := hid ((HROW6.out.below hb7).more hb7.size)
      have HG7 := hid (grown_trans HG6.out (grown_below hb7 (some g)))
      clear hb7
      go_wp2_with fail
      go_roundg (xs.length - (q + T.2.1))
      case measure => have := HGK.out; omega
      case rel =>
       have hl7 : (ps ++ gapP a1 q ++ [(⟨⟨q, T.2.1, true, T.1.1, T.1.2⟩, A1, c1⟩ : Pt)]).length = N4 + 1 := by rw [List.length_append, HN4.out, List.length_singleton]
       refine ⟨ps ++ gapP a1 q ++ [⟨⟨q, T.2.1, true, T.1.1, T.1.2⟩, A1, c1⟩], q + T.2.1, q + T.2.1, A3, 0, A5, c5, rfl, by rw [hl7], rfl, rfl, Nat.le_refl _, by omega, by omega, hid rfl, hid (by rw [hl7]; exact HS7.out), hid ?_, hid ?_, hid HF7.out, hid HG7.out, hid HR7.out, hid ?_⟩
       ·refine (HNP.out.append (gapP_new _ _ _)).append ?_
        intro p hp a e
        rw [List.mem_singleton] at hp
        subst hp
        exact HN1.out a e
       ·have := HST.out _ a1 o1 q HII.out ha1 hoq hqx HRR.out HBG.out
        rw [frS, HT.out] at this
        rw [List.map_append, List.map_append, gapP_map]
        exact this
       ·intro x e
        obtain ⟨y, e1, e2⟩ := HA6.out x e
        obtain ⟨z, e3, e4⟩ := HA3.out y e1
        obtain ⟨u, e5, e6⟩ := HAB.out z e3
        exact ⟨u, e5, e2.trans (e4.trans e6)⟩
     ·rw [if_neg hck] at HROW6
      simp only [if_neg hck] at HA6
      go_wp2_with fail
      rw [show xs.length - q - T.2.1 = xs.length - (q + T.2.1) by omega]
      generalize Option.map (fun x : Addr => x.add T.2.1) A3 = A6 at HROW6 HA6 ⊢
      obtain ⟨c6, hc6⟩ : ∃ c6, c3 - T.2.1 = c6 := ⟨_, rfl⟩
      rw [hc6] at HROW6 ⊢
      clear hc6
      have HC := HFN.out A6 c6 (q + T.2.1) _ (by rw [HLO.out]; exact HROW6.out)
      rw [HLO.out] at HC
      have HCH := hid HC
      clear HC
      refine HCH.out.mono ?_
      rintro e w7 ⟨rfl, hb7⟩
      have HF7 := hid (HF6.out.below hb7 HF6.out.lt)
      have HS7 := hid (HS6.out.below hb7)
      have HR7 := hid ((HROW6.out.below hb7).more hb7.size)
      have HG7 := hid (grown_trans HG6.out (grown_below hb7 (some g)))
      clear hb7
      go_wp2_with fail
      go_roundg (xs.length - (q + T.2.1))
      case measure => have := HGK.out; omega
      case rel =>
       have hl7 : (ps ++ gapP a1 q ++ [(⟨⟨q, T.2.1, true, T.1.1, T.1.2⟩, A1, c1⟩ : Pt)]).length = N4 + 1 := by rw [List.length_append, HN4.out, List.length_singleton]
       refine ⟨ps ++ gapP a1 q ++ [⟨⟨q, T.2.1, true, T.1.1, T.1.2⟩, A1, c1⟩], q + T.2.1, q + T.2.1, A6, c6, A5, c5, rfl, by rw [hl7], rfl, rfl, Nat.le_refl _, by omega, by omega, hid rfl, hid (by rw [hl7]; exact HS7.out), hid ?_, hid ?_, hid HF7.out, hid HG7.out, hid HR7.out, hid ?_⟩
       ·refine (HNP.out.append (gapP_new _ _ _)).append ?_
        intro p hp a e
        rw [List.mem_singleton] at hp
        subst hp
        exact HN1.out a e
       ·have := HST.out _ a1 o1 q HII.out ha1 hoq hqx HRR.out HBG.out
        rw [frS, HT.out] at this
        rw [List.map_append, List.map_append, gapP_map]
        exact this
       ·intro x e
        obtain ⟨y, e1, e2⟩ := HA6.out x e
        obtain ⟨z, e3, e4⟩ := HA3.out y e1
        obtain ⟨u, e5, e6⟩ := HAB.out z e3
        exact ⟨u, e5, e2.trans (e4.trans e6)⟩
   ·have hne : (er != 0) = true := bne_iff_ne.2 her
    have hne2 : (er == 0) = false := beq_eq_false_iff_ne.2 her
    have hng : ¬ Begins xs q := by unfold Begins; rw [HT.out, HE.out]; exact her
    have HNG := hid hng
    clear hng her
    go_wp2_with fail
    go_ret2
    exact ⟨_, A3, _, c3, ps, a1, o1, q, rfl, HS3.out, HNP.out, HII.out, ha1, hoq, by omega, HF3.out, HG3.out, HR3.out, fun x e => by obtain ⟨y, e1, e2⟩ := HA3.out x e; obtain ⟨z, e3, e4⟩ := HAB.out y e1; exact ⟨z, e3, e2.trans e4⟩, by omega, .inr ⟨HRR.out, HNG.out⟩⟩
theorem tellO_any (xs : List Int) (hsm : xs.length ≤ 100000000000) (hbx : ∀ x ∈ xs, 0 ≤ x ∧ x < 256)
  (I : List Sg → Nat → Nat → Prop) (hstep : ∀ ps a o r, I ps a o → a ≤ o → o ≤ r → r < xs.length → nextI true (xs.drop o) 0 = ((r - o : Nat) : Int) → Begins xs r → I (ps ++ gapS a r ++ [frS xs r]) (r + (getFr (xs.drop r)).2.1) (r + (getFr (xs.drop r)).2.1))
  (w : World) (g : Nat) (vh : Value) (hvh : ∀ n, vh ≠ .int .u8 n) (a o : Nat) (cl : Bool) (hao : a ≤ o) (ho : o ≤ xs.length) (hI : I [] a o) (hf : FeedAt w g vh a xs.length cl)
  (A : Option Addr) (n c : Nat) (hn : n = (xs.drop o).length) (hrow : Row w w.heap.size (.slice A n c) (xs.drop o)) :
  Calls Tryz.prog 72 #[.pointer (some ⟨g, 0, none⟩), .slice A n c, .func (.func 73) #[] #[]] w (Tells w g vh cl xs A true I) := by
 obtain ⟨i0, hi, hz0, hz1, hz2⟩ := info_parts Tryz.infoSeg
 subst hn
 have HFN := hid (fun A c o W (h : Row W W.heap.size (.slice A (xs.drop o).length c) (xs.drop o)) => open_any A c (xs.drop o) (by rw [List.length_drop]; omega) W h (drop_bytes hbx o) 0 (by omega) (by omega))
 have HFN1 := hid (HFN.out A c o w hrow)
 have HST := hid hstep
 have HBX := hid hbx
 have HROW := hid hrow
 have HF := hid hf
 have HI := hid hI
 have hlo : ∀ o, (xs.drop o).length = xs.length - o := fun o => List.length_drop
 clear hstep hbx hrow hf hI
 rw [hlo] at HROW HFN1 ⊢
 have HLO := hid hlo
 clear hlo
 go_enter Tryz.func72, Tryz.ntmps72
 go_wp2_with fail
 refine HFN1.out.mono ?_
 rintro e w1 ⟨rfl, hb1⟩
 have HF1 := hid (HF.out.below hb1 HF.out.lt)
 have HR1 := hid ((HROW.out.below hb1).more hb1.size)
 have HG1 := hid (grown_below hb1 (some g))
 clear HROW HF hb1 HFN1
 go_wp2_with fail
 go_loopg [1, 6, 8, 9] (xs.length - o) (fun gk bb tt pp ff wr => ∃ (ps : List Pt) (a1 o1 : Nat) (Ab : Option Addr) (cb : Nat) (At : Option Addr) (ct : Nat), bb = .slice Ab (xs.length - o1) cb ∧ tt = .slice At ps.length ct ∧ pp = .int .i64 (max (nextI true (xs.drop o1) 0) 0) ∧ ff = .bool (decide (0 ≤ nextI true (xs.drop o1) 0)) ∧
  a1 ≤ o1 ∧ o1 ≤ xs.length ∧ ps.length ≤ o1 ∧ Hid (xs.length - o1 = gk) ∧ Hid (Segs wr w.heap.size (.slice At ps.length ct) ps) ∧ Hid (NewP w.heap.size ps) ∧ Hid (I (ps.map (·.s)) a1 o1) ∧ Hid (FeedAt wr g vh a1 xs.length cl) ∧ Hid (w.grownBy wr (some g)) ∧
  Hid (Row wr wr.heap.size (.slice Ab (xs.length - o1) cb) (xs.drop o1)) ∧ Hid (∀ x, Ab = some x → ∃ y, A = some y ∧ x.block = y.block))
 case atStart =>
  exact ⟨[], a, o, A, c, none, 0, rfl, rfl, rfl, rfl, hao, ho, Nat.zero_le _, hid rfl, hid (Segs.nil _ _), hid (NewP.nil _), hid HI.out, hid HF1.out, hid HG1.out, hid HR1.out, hid (fun x e => ⟨x, e, rfl⟩)⟩
 case round =>
  obtain ⟨ps, a1, o1, Ab, cb, At, ct, rfl, rfl, rfl, rfl, ha1, ho1, hpl, HGK, HS, HNP, HII, HFR, HGR, HRO, HAB⟩ := hrel
  rcases nextI_ways true (xs.drop o1) with hR | ⟨r, hR, hr⟩
  ·have HRR := hid hR
   rw [hR, show max (-1 : Int) 0 = 0 from rfl, show decide ((0 : Int) ≤ -1) = false from rfl]
   clear hR
   go_wp2_with fail
   go_ret2
   exact ⟨_, none, 0, 0, ps, a1, o1, xs.length, rfl, HS.out, HNP.out, HII.out, ha1, ho1, Nat.le_refl _, HFR.out, HGR.out, by rw [List.drop_length]; exact Row.nil _ _, fun x e => (by cases e), by omega, .inl ⟨HRR.out, rfl⟩⟩
  ·have HRR := hid hR
   rw [hR, show max (r : Int) 0 = (r : Int) by omega, show decide (0 ≤ (r : Int)) = true by simp]
   rw [HLO.out] at hr
   have hrow2 := HRO.out.drop (k := r) (by rw [HLO.out]; omega)
   rw [List.drop_drop, HLO.out] at hrow2
   obtain ⟨q, hq⟩ : ∃ q, o1 + r = q := ⟨_, rfl⟩
   rw [hq] at hrow2
   have hcap : xs.length - o1 ≤ cb ∧ cb ≤ 9223372036854775807 := by
    obtain ⟨_, _, hv, q1, q2, _⟩ := HRO.out
    injection hv with _ e2 e3
    subst e3
    unfold maxLen at q2
    exact ⟨by omega, by omega⟩
   obtain ⟨hcap1, hcap2⟩ := hcap
   have hA3 := fun x (h : (if cb = r then Ab else Ab.map (·.add r)) = some x) => cut_addr h
   rw [if_neg (by omega)] at hrow2 hA3
   have HROW2 := hid hrow2
   have HA3 := hid hA3
   clear hR hrow2 hA3
   have hr0 : (0 : Int) ≤ r := by omega
   have hr1 : (r : Int) ≤ ((xs.length - o1 : Nat) : Int) := by omega
   have hr2 : ((xs.length - o1 : Nat) : Int) ≤ cb := by omega
   go_wp2_with fail
   rw [show xs.length - o1 - r = xs.length - q by omega]
   generalize Option.map (fun x : Addr => x.add r) Ab = A3 at HROW2 HA3 ⊢
   have hcap3 : xs.length - q ≤ cb - r ∧ cb - r ≤ 9223372036854775807 := ⟨by omega, by omega⟩
   obtain ⟨c3, hc3⟩ : ∃ c3, cb - r = c3 := ⟨_, rfl⟩
   rw [hc3] at HROW2 hcap3 ⊢
   obtain ⟨hcap31, hcap32⟩ := hcap3
   have hqx : q < xs.length := by omega
   have hoq : o1 ≤ q := by omega
   have hrq : r = q - o1 := by omega
   rw [hrq] at HRR
   have HAT := at_new A3 c3 (xs.drop q) (by rw [HLO.out]; omega) wr (by rw [HLO.out]; exact HROW2.out) (drop_bytes HBX.out q) 0 (Nat.zero_le _)
   rw [List.drop_zero, HLO.out] at HAT
   have HATH := hid HAT
   clear HAT hc3 hr0 hr1 hr2 hcap1 hcap2 hr hq hrq
   obtain ⟨T, hT⟩ : ∃ T, getFr (xs.drop q) = T := ⟨_, rfl⟩
   rw [hT] at HATH
   have HT := hid hT
   clear hT
   refine HATH.out.mono ?_
   rintro e w2 ⟨A1, c1, rfl, hrow1, hb2, hn1⟩
   have hz2 := hb2.size
   have HF2 := hid (HFR.out.below hb2 HFR.out.lt)
   have HS2 := hid (HS.out.below hb2)
   have HR2 := hid ((HROW2.out.below hb2).more hb2.size)
   have HG2 := hid (grown_trans HGR.out (grown_below hb2 (some g)))
   have HP2 := hid hrow1
   have HN1 := hid (fun a e => Nat.le_trans HGR.out.size (hn1 a e))
   have ba : Below w2.heap.size w2 (w2.alloc (.cells #[.int .i64 T.1.1, .slice A1 T.1.2.length c1] 44)) := (Below.refl _ _).alloc (Nat.le_refl _) _
   have HF3 := hid (HF2.out.below ba HF2.out.lt)
   have HS3 := hid (HS2.out.below ba)
   have HR3 := hid ((HR2.out.below ba).more ba.size)
   have HG3 := hid (grown_trans HG2.out (grown_below ba (some g)))
   have HP3 := hid ((HP2.out.below ba).more ba.size)
   have HK3 := hid (show Held (w2.alloc (.cells #[.int .i64 T.1.1, .slice A1 T.1.2.length c1] 44)) w2.heap.size 44 #[.int .i64 T.1.1, .slice A1 T.1.2.length c1] from heap_alloc_new w2 _)
   clear hrow1 hb2 hn1 ba HFR HS HROW2 HGR HF2 HS2 HR2 HG2 HP2 HRO
   obtain ⟨er, hE⟩ : ∃ er, T.2.2 = er := ⟨_, rfl⟩
   rw [hE]
   have HE := hid hE; clear hE
   by_cases her : er = 0
   ·subst her
    have hbg : Begins xs q := by unfold Begins; rw [HT.out, HE.out]
    have hbi := begins_in HBX.out hbg
    rw [HT.out] at hbi
    obtain ⟨hi1, hi2, _, hi4, _, _⟩ := hbi
    have HBG := hid hbg
    obtain ⟨w3, hw3⟩ : ∃ w3, w2.alloc (.cells #[.int .i64 T.1.1, .slice A1 T.1.2.length c1] 44) = w3 := ⟨_, rfl⟩
    rw [hw3] at HF3 HS3 HR3 HG3 HP3 HK3
    obtain ⟨F, hF⟩ : ∃ F, w2.heap.size = F := ⟨_, rfl⟩
    rw [hF] at HK3
    have hfl3 := HF3.out.lt
    have hkl3 := HK3.out.lt
    have y2 := HF3.out.cell 2
    simp at y2
    have hql : ((xs.length - q : Nat) : Int) = (xs.length : Int) - q := by omega
    clear hbg hz2 hcap31 hcap32
    go_wp2_with fail
    rw [show (xs.length : Int) - ((xs.length : Int) - q) = q by omega]
    refine (skip_any w3 g vh a1 q xs.length cl HF3.out w.heap.size (.slice At ps.length ct) ps HS3.out HG3.out.size (by omega) (by omega) (by omega) hvh).mono ?_
    rintro e w4 ⟨v4, rfl, hs4, hf4, hbut4⟩
    rw [Nat.max_eq_right (by omega)] at hf4
    have hrown : ∀ j, (.slice At ps.length ct : Value).ownBlock = some j → w.heap.size ≤ j := fun j e => (HS3.out.1.lt j e).1
    have hnob := FeedAt.nob HF3.out hvh
    have hclean : ∀ j, (.slice At ps.length ct : Value).ownBlock = some j → ∀ (i : Nat) (n : Int), w3.cell? ⟨j, i, none⟩ ≠ some (.int .u8 n) := fun j e => HS3.out.2.1 j e
    have hfk := frame_feed HK3.out HF3.out
    have HK4 := hid (hbut4.held HK3.out hfk (fun e => (HS3.out.apart HK3.out (by decide)).elim (fun h => by rw [h] at e; cases e) (fun h => h e.symm)))
    have HP4 := hid ((hbut4.clean HP3.out hnob hclean).more hbut4.size)
    have HR4 := hid ((hbut4.clean HR3.out hnob hclean).more hbut4.size)
    have HG4 := hid (But.join HG3.out hbut4 hrown)
    obtain ⟨A4, c4, ev, hc41, hc42⟩ := hs4.form
    obtain ⟨N4, hN4⟩ : ∃ N4, (ps ++ gapP a1 q).length = N4 := ⟨_, rfl⟩
    have hN42 : N4 ≤ ps.length + 1 := by rw [← hN4, List.length_append]; have := gapP_len a1 q; omega
    rw [hN4] at ev hc41
    subst ev
    have HN4 := hid hN4
    have HS4 := hid hs4
    have HF4 := hid hf4
    have hfl4 := hf4.lt
    have x1 := hf4.cell 1
    have xf := hf4.frozen 1
    obtain ⟨k0, k1⟩ := cC2 HK4.out
    have hkl4 := HK4.out.lt
    simp at x1 k0 k1
    have HSB := hid (fun W (h : Below w4.heap.size w4 W) => hs4.below h)
    have HFR := hid (fun W N (hN : W.heap.size = N) (h : Row W W.heap.size (.slice A1 T.1.2.length c1) T.1.2) => fr_row W N hN ⟨q, T.2.1, true, T.1.1, T.1.2⟩ A1 c1 h)
    have HP4B := hid (fun W (h : Below w4.heap.size w4 W) => (HP4.out.below h).more h.size)
    clear hs4 hf4 hbut4 hrown hnob hclean hfk hN4 HS3 HF3 HK3 HP3 HR3 HG3 hw3 hF hfl3 hkl3 y2
    simp only at HFR
    go_wp2_with fail
    go_region_law (first | (refine step_append_segs (by rfl) (.tmp 49) (.tmp 57) 42 (by rfl) i0 _ Tryz.underlying42 hi hz0 hz1 (by omega) rfl w.heap.size (.slice A4 N4 c4) (ps ++ gapP a1 q) (by rfl) (HSB.out _ (by first | exact (Below.refl _ _).alloc (Nat.le_refl _) _ | exact ((Below.refl _ _).drew).alloc (Nat.le_refl _) _)) (.slice (some ⟨w4.heap.size, 0, none⟩) 1 1) [⟨⟨q, T.2.1, true, T.1.1, T.1.2⟩, A1, c1⟩] (by rfl) (HFR.out _ _ rfl HP4.out) (by rw [HN4.out]; simp; omega) (by simp; have := HG4.out.size; omega) ?_; intro v5 w5 hs5 hg5))
    all_goals
     obtain ⟨hbut5, hf5⟩ := app_but HF4.out HS4.out (by first | exact ((Below.refl _ _).alloc (Nat.le_refl _) _).drew | exact ((Below.refl _ _).drew).alloc (Nat.le_refl _) _) hg5
     obtain ⟨A5, c5, ev, _, _⟩ := hs5.form
     rw [List.length_append, HN4.out, List.length_singleton] at ev
     subst ev
     have hr5 := (hbut5.clean HR4.out (FeedAt.nob HF4.out hvh) (fun j e => HS4.out.2.1 j e)).more hbut5.size
     have hput := grown_put w5 g 1 (.int .i64 ((q : Int) + (T.2.1 : Nat)))
     have HR6 := hid (((But.of_one hput none).clean hr5 (FeedAt.nob hf5 hvh) (fun j e => by cases e)).more hput.size)
     have HG6 := hid (grown_trans (But.join HG4.out hbut5 (fun j e => (HS4.out.1.lt j e).1)) hput)
     have HS6 := hid (hs5.past hf5 hvh 1 (.int .i64 ((q : Int) + (T.2.1 : Nat))))
     have HF6 := hid (show FeedAt (w5.setCell ⟨g, 1, none⟩ (.int .i64 ((q : Int) + (T.2.1 : Nat)))) g vh (q + T.2.1) xs.length cl by rw [FeedAt, show ((q + T.2.1 : Nat) : Int) = (q : Int) + (T.2.1 : Nat) by omega]; simpa using hf5.put 1 (.int .i64 ((q : Int) + (T.2.1 : Nat))))
     have hfl5 := hf5.lt
     have z1 := hf5.cell 1
     have zf := hf5.frozen 1
     simp at z1
     have hrow6 := HR6.out.drop (k := T.2.1) (by rw [HLO.out]; omega)
     rw [List.drop_drop, HLO.out] at hrow6
     have hA6 := fun x (h : (if c3 = T.2.1 then A3 else A3.map (·.add T.2.1)) = some x) => cut_addr h
     have HROW6 := hid hrow6
     have HA6 := hid hA6
     have s0 : (0 : Int) ≤ (T.2.1 : Nat) := by omega
     have s1 : ((T.2.1 : Nat) : Int) ≤ ((xs.length - q : Nat) : Int) := by omega
     have hc3 : xs.length - q ≤ c3 := by
      obtain ⟨_, _, hv, q1, _⟩ := HR6.out
      injection hv with _ e2 e3
      subst e3
      omega
     have s2 : ((xs.length - q : Nat) : Int) ≤ c3 := by omega
     clear hs5 hg5 hbut5 hf5 hr5 hput hrow6 hA6 x1 xf k0 k1 HK4 HP4 HR4 HG4 HSB HFR HP4B
     by_cases hck : c3 = T.2.1
     ·rw [if_pos hck, show c3 - T.2.1 = 0 by omega] at HROW6
      simp only [if_pos hck] at HA6
      go_wp2_with fail
      rw [show xs.length - q - T.2.1 = xs.length - (q + T.2.1) by omega]
      have HC := HFN.out A3 0 (q + T.2.1) _ (by rw [HLO.out]; exact HROW6.out)
      rw [HLO.out] at HC
      have HCH := hid HC
      clear HC
      refine HCH.out.mono ?_
      rintro e w7 ⟨rfl, hb7⟩
      have HF7 := hid (HF6.out.below hb7 HF6.out.lt)
      have HS7 := hid (HS6.out.below hb7)
      have HR7 := hid ((HROW6.out.below hb7).more hb7.size)
      have HG7 := hid (grown_trans HG6.out (grown_below hb7 (some g)))
      clear hb7
      go_wp2_with fail
      go_roundg (xs.length - (q + T.2.1))
      case measure => have := HGK.out; omega
      case rel =>
       have hl7 : (ps ++ gapP a1 q ++ [(⟨⟨q, T.2.1, true, T.1.1, T.1.2⟩, A1, c1⟩ : Pt)]).length = N4 + 1 := by rw [List.length_append, HN4.out, List.length_singleton]
       refine ⟨ps ++ gapP a1 q ++ [⟨⟨q, T.2.1, true, T.1.1, T.1.2⟩, A1, c1⟩], q + T.2.1, q + T.2.1, A3, 0, A5, c5, rfl, by rw [hl7], rfl, rfl, Nat.le_refl _, by omega, by omega, hid rfl, hid (by rw [hl7]; exact HS7.out), hid ?_, hid ?_, hid HF7.out, hid HG7.out, hid HR7.out, hid ?_⟩
       ·refine (HNP.out.append (gapP_new _ _ _)).append ?_
        intro p hp a e
        rw [List.mem_singleton] at hp
        subst hp
        exact HN1.out a e
       ·have := HST.out _ a1 o1 q HII.out ha1 hoq hqx HRR.out HBG.out
        rw [frS, HT.out] at this
        rw [List.map_append, List.map_append, gapP_map]
        exact this
       ·intro x e
        obtain ⟨y, e1, e2⟩ := HA6.out x e
        obtain ⟨z, e3, e4⟩ := HA3.out y e1
        obtain ⟨u, e5, e6⟩ := HAB.out z e3
        exact ⟨u, e5, e2.trans (e4.trans e6)⟩
     ·rw [if_neg hck] at HROW6
      simp only [if_neg hck] at HA6
      go_wp2_with fail
      rw [show xs.length - q - T.2.1 = xs.length - (q + T.2.1) by omega]
      generalize Option.map (fun x : Addr => x.add T.2.1) A3 = A6 at HROW6 HA6 ⊢
      obtain ⟨c6, hc6⟩ : ∃ c6, c3 - T.2.1 = c6 := ⟨_, rfl⟩
      rw [hc6] at HROW6 ⊢
      clear hc6
      have HC := HFN.out A6 c6 (q + T.2.1) _ (by rw [HLO.out]; exact HROW6.out)
      rw [HLO.out] at HC
      have HCH := hid HC
      clear HC
      refine HCH.out.mono ?_
      rintro e w7 ⟨rfl, hb7⟩
      have HF7 := hid (HF6.out.below hb7 HF6.out.lt)
      have HS7 := hid (HS6.out.below hb7)
      have HR7 := hid ((HROW6.out.below hb7).more hb7.size)
      have HG7 := hid (grown_trans HG6.out (grown_below hb7 (some g)))
      clear hb7
      go_wp2_with fail
      go_roundg (xs.length - (q + T.2.1))
      case measure => have := HGK.out; omega
      case rel =>
       have hl7 : (ps ++ gapP a1 q ++ [(⟨⟨q, T.2.1, true, T.1.1, T.1.2⟩, A1, c1⟩ : Pt)]).length = N4 + 1 := by rw [List.length_append, HN4.out, List.length_singleton]
       refine ⟨ps ++ gapP a1 q ++ [⟨⟨q, T.2.1, true, T.1.1, T.1.2⟩, A1, c1⟩], q + T.2.1, q + T.2.1, A6, c6, A5, c5, rfl, by rw [hl7], rfl, rfl, Nat.le_refl _, by omega, by omega, hid rfl, hid (by rw [hl7]; exact HS7.out), hid ?_, hid ?_, hid HF7.out, hid HG7.out, hid HR7.out, hid ?_⟩
       ·refine (HNP.out.append (gapP_new _ _ _)).append ?_
        intro p hp a e
        rw [List.mem_singleton] at hp
        subst hp
        exact HN1.out a e
       ·have := HST.out _ a1 o1 q HII.out ha1 hoq hqx HRR.out HBG.out
        rw [frS, HT.out] at this
        rw [List.map_append, List.map_append, gapP_map]
        exact this
       ·intro x e
        obtain ⟨y, e1, e2⟩ := HA6.out x e
        obtain ⟨z, e3, e4⟩ := HA3.out y e1
        obtain ⟨u, e5, e6⟩ := HAB.out z e3
        exact ⟨u, e5, e2.trans (e4.trans e6)⟩
   ·have hne : (er != 0) = true := bne_iff_ne.2 her
    have hne2 : (er == 0) = false := beq_eq_false_iff_ne.2 her
    have hng : ¬ Begins xs q := by unfold Begins; rw [HT.out, HE.out]; exact her
    have HNG := hid hng
    clear hng her
    go_wp2_with fail
    go_ret2
    exact ⟨_, A3, _, c3, ps, a1, o1, q, rfl, HS3.out, HNP.out, HII.out, ha1, hoq, by omega, HF3.out, HG3.out, HR3.out, fun x e => by obtain ⟨y, e1, e2⟩ := HA3.out x e; obtain ⟨z, e3, e4⟩ := HAB.out y e1; exact ⟨z, e3, e2.trans e4⟩, by omega, .inr ⟨HRR.out, HNG.out⟩⟩
def Fed (w : World) (n0 g : Nat) (vh : Value) (xs : List Int) (T : List Sg) (a o : Nat) : Prop :=
 FeedAt w g vh a xs.length false ∧ w.ownsRow n0 5 1 vh (xs.length - o) ((xs.drop o).map (.int .u8)) ∧ Fd xs T a o
def Given (w : World) (n0 g : Nat) (vh : Value) (xs : List Int) (T : List Sg) (e : Ending) (w' : World) : Prop :=
 ∃ v ps vh' a o, e = .returned (.tuple #[v, .int .i64 0]) ∧ Segs w' w.heap.size v ps ∧ NewP w.heap.size ps ∧ Fed w' n0 g vh' xs (T ++ ps.map (·.s)) a o ∧ But w w' vh.ownBlock g ∧
  (vh'.ownBlock = vh.ownBlock ∨ ∃ j, vh'.ownBlock = some j ∧ w.heap.size ≤ j) ∧ OffN vh'.ownBlock ps ∧ ps.length ≤ xs.length
theorem give_any (w : World) (n0 g : Nat) (vh : Value) (xs : List Int) (T : List Sg) (a o : Nat) (h : Fed w n0 g vh xs T a o) (hbx : ∀ x ∈ xs, 0 ≤ x ∧ x < 256) (hn0 : n0 ≤ w.heap.size)
  (A : Option Addr) (c : Nat) (ys : List Int) (hby : ∀ y ∈ ys, 0 ≤ y ∧ y < 256) (hrow : Row w w.heap.size (.slice A ys.length c) ys) (hsm : (xs ++ ys).length ≤ 100000000000) :
  Calls Tryz.prog 49 #[.pointer (some ⟨g, 0, none⟩), .slice A ys.length c] w (Given w n0 g vh (xs ++ ys) T) := by
 obtain ⟨i0, hi, hz0, hz1, hz2⟩ := info_parts Tryz.infoU8
 obtain ⟨hf, hown, hao, ho, hsure, hset, hend⟩ := h
 have hg := hf.lt
 by_cases hy : ys = []
 ·subst hy
  have x3 := hf.cell 3
  simp at x3
  have HF := hid hf
  have HO := hid hown
  have HD := hid (show Fd xs T a o from ⟨hao, ho, hsure, hset, hend⟩)
  clear hf hown hsure hset hend hrow
  go_enter Tryz.func49, Tryz.ntmps49
  go_wp2_with fail
  go_ret2
  exact ⟨_, [], vh, a, o, rfl, Segs.nil _ _, NewP.nil _, by rw [List.append_nil, List.map_nil, List.append_nil]; exact ⟨HF.out, HO.out, HD.out⟩, But.refl _ _ _, .inl rfl, OffN.nil _, Nat.zero_le _⟩
 ·have hy0 : 0 < ys.length := by cases ys with | nil => exact absurd rfl hy | cons _ _ => simp
  have hbxy : Bytes (xs ++ ys) := Bytes.append hbx hby
  have hdr : xs.drop o ++ ys = (xs ++ ys).drop o := (List.drop_append_of_le_length ho).symm
  have hlen : (xs ++ ys).length = xs.length + ys.length := List.length_append
  obtain ⟨Ah, nh, ch, rfl⟩ : ∃ Ah nh ch, vh = .slice Ah nh ch := by obtain ⟨A, c, e⟩ := own_shape hown; exact ⟨A, _, c, e⟩
  have hnh : nh = xs.length - o := by
   obtain ⟨_, _, e⟩ := own_shape hown
   injection e
  subst hnh
  have hch : xs.length - o ≤ ch ∧ ch ≤ 9223372036854775807 := by
   rcases hown.2 with ⟨e, h0⟩ | ⟨_, _, _, e, _, _, h1, h2, _⟩
   ·injection e with _ _ e3; omega
   ·injection e with _ _ e3; unfold maxLen at h2; exact ⟨by omega, by omega⟩
  obtain ⟨hch1, hch2⟩ := hch
  have hI0 : Sure (xs ++ ys) (T ++ []) a ∧ Settled (xs ++ ys) a o := ⟨by rw [List.append_nil]; exact hsure.give hby, hset.give ys hbx ho⟩
  have hst : ∀ (ps : List Sg) a o r, (Sure (xs ++ ys) (T ++ ps) a ∧ Settled (xs ++ ys) a o) → a ≤ o → o ≤ r → r < (xs ++ ys).length → nextI true ((xs ++ ys).drop o) 0 = ((r - o : Nat) : Int) → Begins (xs ++ ys) r →
    Sure (xs ++ ys) (T ++ (ps ++ gapS a r ++ [frS (xs ++ ys) r])) (r + (getFr ((xs ++ ys).drop r)).2.1) ∧ Settled (xs ++ ys) (r + (getFr ((xs ++ ys).drop r)).2.1) (r + (getFr ((xs ++ ys).drop r)).2.1) := by
   intro ps a o r h1 h2 h3 h4 h5 h6
   have h7 := (open_here h5).1
   rw [show o + (r - o) = r by omega] at h7
   refine ⟨?_, Settled.nil _ _⟩
   have := h1.1.step hbxy (by omega) (h1.2.trans h7) h6
   simpa using this
  have HI0 := hid hI0
  have HST := hid hst
  have HBXY := hid hbxy
  have HDR := hid hdr
  have HSURE := hid hsure
  clear hI0 hst hsure hset hend hbxy hdr
  have hput := grown_put w g 2 (.int .i64 ((xs.length : Int) + ys.length))
  have HB1 := hid (But.of_one hput (Value.ownBlock (.slice Ah (xs.length - o) ch)))
  have HR1 := hid (((But.of_one hput none).clean hrow (FeedAt.nob hf (by simp)) (fun j e => by cases e)).more hput.size)
  have hown1 := hown.kept hput (own_feed hf hown)
  have hf1 : FeedAt (w.setCell ⟨g, 2, none⟩ (.int .i64 ((xs.length : Int) + ys.length))) g (.slice Ah (xs.length - o) ch) a (xs ++ ys).length false := by
   rw [FeedAt, hlen, show ((xs.length + ys.length : Nat) : Int) = (xs.length : Int) + ys.length by omega]
   simpa using hf.put 2 (.int .i64 ((xs.length : Int) + ys.length))
  have hhl : ∀ j, (Value.slice Ah (xs.length - o) ch).ownBlock = some j → j < w.heap.size := fun j e => (hown.lt j e).2
  have HHL := hid hhl
  have HRH := hid (Row.of_own hown1).cut
  have HO1 := hid hown1
  have HF1 := hid hf1
  have x0 := hf.cell 0
  have x2 := hf.cell 2
  have x3 := hf.cell 3
  have f2 := hf.frozen 2
  simp at x0 x2 x3
  have hl1 : xs.length + ys.length ≤ 100000000000 := by omega
  clear hf hown hrow hown1 hf1 hput
  go_enter Tryz.func49, Tryz.ntmps49
  go_wp2_with fail
  generalize hw1 : w.setCell ⟨g, 2, none⟩ (.int .i64 ((xs.length : Int) + ys.length)) = w1 at *
  have hg1 := HF1.out.lt
  have y0 := HF1.out.cell 0
  simp at y0
  have hdl : (xs.drop o).length = xs.length - o := List.length_drop
  have HDL := hid hdl
  have b0 : (0 : Int) ≤ ((xs.length - o : Nat) : Int) := by omega
  have b1 : ((xs.length - o : Nat) : Int) ≤ ch := by omega
  clear hdl
  go_region_law (first | (refine step_append_fresh (by rfl) (.tmp 39) (.tmp 40) 22 (by rfl) 5 i0 (.int .u8 0) Tryz.underlying22 hi hz0 hz1 hz2 rfl w1.heap.size w1.heap.size Ah A (xs.length - o) c (xs.length - o) ys.length (xs.drop o) ys (by rfl) (by rfl) HDL.out rfl HRH.out HR1.out hy0 (by omega) (by omega) w1.heap.size (by rfl) ?_; intro cap w2 hown2 hb2))
  all_goals
   have hb2' : Below w1.heap.size w1 w2 := by first | exact (Below.refl _ _).drew.trans hb2 | exact hb2
   have hz1 : w.heap.size ≤ w1.heap.size := HB1.out.size
   have HR2 := Row.of_own hown2
   rw [HDR.out] at HR2
   have HF2 := hid (HF1.out.below hb2' HF1.out.lt)
   have HO2 := hid (own_below HO1.out hb2')
   have HB2 := hid (HB1.out.trans (But.of_below hb2' _ g) (fun j e => .inl e))
   have hz2 : w.heap.size ≤ w2.heap.size := Nat.le_trans hz1 hb2'.size
   have hnl : xs.length - o + ys.length = ((xs ++ ys).drop o).length := by rw [List.length_drop]; omega
   have HTELL := hid (tellO_any (xs ++ ys) hsm HBXY.out (fun ps a o => Sure (xs ++ ys) (T ++ ps) a ∧ Settled (xs ++ ys) a o) HST.out w2 g (.slice Ah (xs.length - o) ch) (by simp) a o false hao (by omega) HI0.out HF2.out (some ⟨w1.heap.size, 0, none⟩) (xs.length - o + ys.length) cap hnl HR2)
   clear hb2 hown2 hb2' HR2 hnl HB1 HR1 HRH HO1
   go_wp2_with fail
   refine HTELL.out.mono ?_
   rintro e w3 ⟨v3, Ar, nr, cr, ps, a2, o2, q, rfl, hs3, hnp, hI3, ha2, ho2, hq, hf3, hg3, hr3, hAr, hpl, hend3⟩
   have hz3 : w2.heap.size ≤ w3.heap.size := hg3.size
   have hown3 := HO2.out.kept hg3 (own_feed HF2.out HO2.out)
   have HB3 := hid (HB2.out.trans (But.of_one hg3 _) (fun j e => .inl e))
   have HHOLD := hid (hold_any w3 g Ah (xs.length - o) ch a2 (xs ++ ys).length false hf3 n0 _ hown3 (by omega) Ar nr cr ((xs ++ ys).drop q) (by rw [List.length_drop]; omega) hr3 (fun x e e2 => by
    obtain ⟨y, e3, e4⟩ := hAr x e
    injection e3 with e3
    have := HHL.out _ e2
    rw [e4, ← e3] at this
    simp only at this
    omega))
   obtain ⟨A3, c3, rfl, _, _⟩ := hs3.form
   have HS3 := hid hs3
   have HNP := hid hnp
   have HI3 := hid hI3
   have HF3 := hid hf3
   have HE3 := hid hend3
   clear hs3 hnp hI3 hf3 hg3 hr3 hAr hend3 hown3
   go_wp2_with fail
   refine HHOLD.out.mono ?_
   rintro e w4 ⟨v4, rfl, hf4, hown4, hbut4, hat4⟩
   have HF4 := hid hf4
   have HO4 := hid hown4
   have HB4 := hid hbut4
   have HA4 := hid hat4
   clear hf4 hown4 hbut4 hat4
   go_wp2_with fail
   go_ret2
   have hoff := HNP.out.offN (row := (Value.slice Ah (xs.length - o) ch).ownBlock) (fun j e => Nat.lt_of_lt_of_le (HHL.out j e) hz2)
   have hown4 := HO4.out
   rw [List.length_drop] at hown4
   have hs4 := HS3.out.but HB4.out (FeedAt.nob HF3.out (by simp)) (HS3.out.apart HF3.out (by decide)) (by
    rcases (HS3.out.1).2 with ⟨e2, _⟩ | ⟨b, cap, cur, e2, hb, _⟩
    ·exact .inl (by rw [e2]; rfl)
    ·refine .inr fun e => ?_
     rw [e2] at e
     have := HHL.out b e.symm
     omega) hoff
   refine ⟨_, ps, v4, a2, q, rfl, hs4.mono (by omega), HNP.out.less hz2, ⟨HF4.out, hown4, by omega, hq, HI3.out.1, ?_, ?_⟩, HB3.out.trans HB4.out (fun j e => .inl e), ?_, ?_, hpl⟩
   ·rcases HE3.out with ⟨h1, h2⟩ | ⟨h1, _⟩
    ·rw [h2]
     exact HI3.out.2.trans (open_gone (by omega) h1)
    ·have h7 := (open_here h1).1
     rw [show o2 + (q - o2) = q by omega] at h7
     exact HI3.out.2.trans h7
   ·rcases HE3.out with ⟨_, h2⟩ | ⟨h1, h2⟩
    ·exact .inl h2
    ·have h7 := (open_here h1).2
     rw [show o2 + (q - o2) = q by omega] at h7
     exact .inr (h7.resolve_left h2)
   ·rcases HA4.out with h | ⟨j, h1, h2⟩
    ·exact .inl h
    ·exact .inr ⟨j, h1, by omega⟩
   ·rcases HA4.out with h | ⟨j, h1, h2⟩
    ·rw [h]; exact hoff
    ·exact (reads_low HS3.out.2.2 rfl).offN (fun i e => by rw [h1] at e; injection e with e; omega)
def Closed (w : World) (n0 g : Nat) (vh : Value) (xs : List Int) (T : List Sg) (e : Ending) (w' : World) : Prop :=
 ∃ v ps vh' a, e = .returned (.tuple #[v, .int .i64 0]) ∧ Segs w' w.heap.size v ps ∧ NewP w.heap.size ps ∧ PartsS xs 0 (T ++ ps.map (·.s)) ∧ FeedAt w' g vh' a xs.length true ∧ w'.ownsRow n0 5 1 vh' 0 [] ∧ But w w' vh.ownBlock g ∧
  (vh'.ownBlock = vh.ownBlock ∨ ∃ j, vh'.ownBlock = some j ∧ w.heap.size ≤ j) ∧ OffN vh'.ownBlock ps ∧ ps.length ≤ xs.length + 1
theorem close_any (w : World) (n0 g : Nat) (vh : Value) (xs : List Int) (T : List Sg) (a o : Nat) (h : Fed w n0 g vh xs T a o) (hbx : ∀ x ∈ xs, 0 ≤ x ∧ x < 256) (hn0 : n0 ≤ w.heap.size) (hsm : xs.length ≤ 100000000000) :
  Calls Tryz.prog 51 #[.pointer (some ⟨g, 0, none⟩)] w (Closed w n0 g vh xs T) := by
 obtain ⟨hf, hown, hao, ho, hsure, hset, hend⟩ := h
 have hg := hf.lt
 obtain ⟨Ah, nh, ch, rfl⟩ : ∃ Ah nh ch, vh = .slice Ah nh ch := by obtain ⟨A, c, e⟩ := own_shape hown; exact ⟨A, _, c, e⟩
 have hnh : nh = xs.length - o := by
  obtain ⟨_, _, e⟩ := own_shape hown
  injection e
 subst hnh
 have hI0 : Ahead xs (T ++ []) a ∧ ∀ j, a ≤ j → j < o → ¬ Begins xs j := ⟨by rw [List.append_nil]; exact hsure.now, hset.no⟩
 have hst : ∀ (ps : List Sg) a o r, (Ahead xs (T ++ ps) a ∧ ∀ j, a ≤ j → j < o → ¬ Begins xs j) → a ≤ o → o ≤ r → r < xs.length → nextI false (xs.drop o) 0 = ((r - o : Nat) : Int) → Begins xs r →
   Ahead xs (T ++ (ps ++ gapS a r ++ [frS xs r])) (r + (getFr (xs.drop r)).2.1) ∧ ∀ j, r + (getFr (xs.drop r)).2.1 ≤ j → j < r + (getFr (xs.drop r)).2.1 → ¬ Begins xs j := by
  intro ps a o r h1 h2 h3 h4 h5 h6
  have h7 := (next_here h5).2
  rw [show o + (r - o) = r by omega] at h7
  refine ⟨?_, fun j q1 q2 => by omega⟩
  have := h1.1.step (by omega : a ≤ r) h4 (fun j q1 q2 => by
   rcases Nat.lt_or_ge j o with h | h
   ·exact h1.2 j q1 h
   ·exact h7 j h q2) h6
  simpa using this
 have hput := grown_put w g 3 (.bool true)
 have hf1 : FeedAt (w.setCell ⟨g, 3, none⟩ (.bool true)) g (.slice Ah (xs.length - o) ch) a xs.length true := by simpa using hf.put 3 (.bool true)
 have hown1 := hown.kept hput (own_feed hf hown)
 have hr1 := Row.of_own hown1
 have hhl : ∀ j, (Value.slice Ah (xs.length - o) ch).ownBlock = some j → j < w.heap.size := fun j e => (hown.lt j e).2
 have HHL := hid hhl
 have HB1 := hid (But.of_one hput (Value.ownBlock (.slice Ah (xs.length - o) ch)))
 have HTELL := hid (tellN_any xs hsm hbx (fun ps a o => Ahead xs (T ++ ps) a ∧ ∀ j, a ≤ j → j < o → ¬ Begins xs j) hst _ g (.slice Ah (xs.length - o) ch) (by simp) a o true hao ho hI0 hf1 Ah (xs.length - o) ch (by rw [List.length_drop]) hr1)
 have HO1 := hid hown1
 have HF1 := hid hf1
 have x3 := hf.cell 3
 have f3 := hf.frozen 3
 simp at x3
 have y0 := hf1.cell 0
 simp at y0
 have hz1 : w.heap.size ≤ (w.setCell ⟨g, 3, none⟩ (.bool true)).heap.size := hput.size
 obtain ⟨w1, hw1⟩ : ∃ w1, w.setCell ⟨g, 3, none⟩ (.bool true) = w1 := ⟨_, rfl⟩
 rw [hw1] at HB1 HTELL HO1 HF1 y0 hz1
 have hgl1 := HF1.out.lt
 clear hf hown hsure hset hend hI0 hst hput hf1 hown1 hr1 hhl
 go_enter Tryz.func51, Tryz.ntmps51
 go_wp2_with fail
 refine HTELL.out.mono ?_
 rintro e w3 ⟨v3, Ar, nr, cr, ps, a2, o2, q, rfl, hs3, hnp, hI3, ha2, ho2, hq, hf3, hg3, hr3, hAr, hpl, hend3⟩
 have hz3 : w1.heap.size ≤ w3.heap.size := hg3.size
 have hown3 := HO1.out.kept hg3 (own_feed HF1.out HO1.out)
 have HB3 := hid (HB1.out.trans (But.of_one hg3 _) (fun j e => .inl e))
 have HSK := hid (skip_any w3 g (.slice Ah (xs.length - o) ch) a2 xs.length xs.length true hf3 w1.heap.size v3 ps hs3 hz3 (by omega) hsm (by omega) (by simp))
 obtain ⟨A3, c3, rfl, _, _⟩ := hs3.form
 have x2 := hf3.cell 2
 simp at x2
 have hgl3 := hf3.lt
 have HS3 := hid hs3
 have HNP := hid hnp
 have HI3 := hid hI3
 have HF3 := hid hf3
 have HO3 := hid hown3
 have HE3 := hid hend3
 clear hs3 hnp hI3 hf3 hg3 hr3 hAr hend3 hown3
 go_wp2_with fail
 refine HSK.out.mono ?_
 rintro e w4 ⟨v4, rfl, hs4, hf4, hbut4⟩
 have hz4 : w3.heap.size ≤ w4.heap.size := hbut4.size
 have hv3 : ∀ j, (Value.slice A3 ps.length c3).ownBlock = some j → w1.heap.size ≤ j := fun j e => (HS3.out.1.lt j e).1
 have hown4 := own_but HO3.out hbut4 (own_feed HF3.out HO3.out) (by
  rcases HO3.out.2 with ⟨e2, _⟩ | ⟨b, cap, cur, e2, hb, _⟩
  ·exact .inl (by rw [e2]; rfl)
  ·refine .inr fun e => ?_
   have h1 := HHL.out b (by rw [e2]; rfl)
   rw [e2] at e
   have := hv3 b e.symm
   omega)
 have HB4 := hid (HB3.out.trans hbut4 (fun j e => .inr (Nat.le_trans hz1 (hv3 j e))))
 have HHOLD := hid (hold_any w4 g Ah (xs.length - o) ch _ xs.length true hf4 n0 _ hown4 (by omega) none 0 0 [] (by simp) (Row.nil _ _) (fun x e => by cases e))
 obtain ⟨A4, c4, ev, _, _⟩ := hs4.form
 obtain ⟨N4, hN4⟩ : ∃ N4, (ps ++ gapP a2 xs.length).length = N4 := ⟨_, rfl⟩
 rw [hN4] at ev
 subst ev
 have hN42 : N4 ≤ ps.length + 1 := by rw [← hN4, List.length_append]; have := gapP_len a2 xs.length; omega
 have HN4 := hid hN4
 have HS4 := hid hs4
 have HF4 := hid hf4
 clear hs4 hf4 hbut4 hown4 hN4 HO3 HB3
 go_wp2_with fail
 refine HHOLD.out.mono ?_
 rintro e w5 ⟨v5, rfl, hf5, hown5, hbut5, hat5⟩
 have HF5 := hid hf5
 have HO5 := hid hown5
 have HB5 := hid hbut5
 have HA5 := hid hat5
 clear hf5 hown5 hbut5 hat5
 go_wp2_with fail
 go_ret2
 have hnp : NewP w1.heap.size (ps ++ gapP a2 xs.length) := HNP.out.append (gapP_new _ _ _)
 have hoff := hnp.offN (row := (Value.slice Ah (xs.length - o) ch).ownBlock) (fun j e => Nat.lt_of_lt_of_le (HHL.out j e) hz1)
 have hs5 := HS4.out.but HB5.out (FeedAt.nob HF4.out (by simp)) (HS4.out.apart HF4.out (by decide)) (by
  rcases (HS4.out.1).2 with ⟨e2, _⟩ | ⟨b, cap, cur, e2, hb, _⟩
  ·exact .inl (by rw [e2]; rfl)
  ·refine .inr fun e => ?_
   rw [e2] at e
   have := HHL.out b e.symm
   omega) hoff
 refine ⟨_, ps ++ gapP a2 xs.length, v5, _, rfl, hs5.mono hz1, hnp.less hz1, ?_, HF5.out, HO5.out, HB4.out.trans HB5.out (fun j e => .inl e), ?_, ?_, by rw [HN4.out]; omega⟩
 ·rw [List.map_append, gapP_map, ← List.append_assoc]
  refine HI3.out.1.end fun j h1 h2 => ?_
  rcases HE3.out with ⟨h3, h4⟩ | ⟨h3, h4⟩
  ·rcases Nat.lt_or_ge j o2 with h | h
   ·exact HI3.out.2 j h1 h
   ·exact next_gone h3 j h h2
  ·have h7 := (next_here h3).1
   rw [show o2 + (q - o2) = q by omega] at h7
   exact absurd h7 h4
 ·rcases HA5.out with h | ⟨j, h1, h2⟩
  ·exact .inl h
  ·exact .inr ⟨j, h1, by omega⟩
 ·rcases HA5.out with h | ⟨j, h1, h2⟩
  ·rw [h]; exact hoff
  ·exact (reads_low HS4.out.2.2 rfl).offN (fun i e => by rw [h1] at e; injection e with e; omega)
theorem Fd.len {xs : List Int} (hb : Bytes xs) {T : List Sg} {a o : Nat} (h : Fd xs T a o) : T.length ≤ xs.length := by
 obtain ⟨l, hl⟩ := PartsS.exist hb _ a (Nat.le_refl _)
 have := ((h.2.2.1.now l hl).le hb).1
 rw [List.length_append] at this
 omega
def sgK (s : Sg) : Sj := ⟨s.frm, s.n, s.isf, s.kind, s.pay⟩
def sumN : List Sg → Nat
 | [] => 0
 | s :: l => s.n + sumN l
theorem sumN_append : ∀ (l m : List Sg), sumN (l ++ m) = sumN l + sumN m
 | [], m => by simp [sumN]
 | s :: l, m => by simp only [List.cons_append, sumN, sumN_append l m, Nat.add_assoc]
theorem sumN_step {l : List Sg} {k : Nat} {s : Sg} (h : l[k]? = some s) : sumN (l.take (k + 1)) = sumN (l.take k) + s.n := by
 rw [List.take_add_one, h, sumN_append]
 simp [sumN]
theorem Tiled.sum {xs : List Int} : ∀ (l : List Sg) (a : Nat) (sk : Bool), Tiled xs a sk l → sumN l + a = xs.length
 | [], a, _, h => by
  have h' : a = xs.length := h
  simp [sumN, h']
 | s :: l, a, sk, h => by
  obtain ⟨_, _, _, _, _, _, h7⟩ := h
  have := Tiled.sum l (a + s.n) _ h7
  simp only [sumN]
  omega
open Go.RowKit Go.ChangeShapes Go.WideShapes
set_option linter.unusedVariables false
def gT (T : List Sg) : Gp := takeL noG (T.map sgJ)
theorem gT_append (T D : List Sg) : gT (T ++ D) = takeL (gT T) (D.map sgJ) := by unfold gT; rw [List.map_append, takeL_append]
theorem gT_pts (T D : List Sg) : ∃ m, (gT (T ++ D)).pts = (gT T).pts ++ m := by rw [gT_append]; exact takeL_pts _ _
theorem takeS_cnts (g : Gp) (s : Sj) (h0 : 0 ≤ s.n) (h1 : s.n ≤ 1000000000) : (takeS g s).pts.length ≤ g.pts.length + 1024 ∧ (takeS g s).rej.length ≤ g.rej.length + 1 ∧ (g.fr ≤ (takeS g s).fr ∧ (takeS g s).fr ≤ g.fr + 1) ∧ (g.sk ≤ (takeS g s).sk ∧ (takeS g s).sk ≤ g.sk + 1000000000) := by
 have hp := frameG_pts g s.kind s.pay
 unfold takeS
 split
 ·exact ⟨by simp only; omega, by simp only; omega, by simp only; omega, by simp only; omega⟩
 ·split
  ·exact ⟨by simp only; omega, by simp only [List.length_append, List.length_cons, List.length_nil]; omega, by simp only; omega, by simp only; omega⟩
  ·exact ⟨by simp only; omega, by simp only; omega, by simp only; omega, by simp only; omega⟩
theorem takeL_cnts : ∀ (l : List Sj) (g : Gp), (∀ s ∈ l, 0 ≤ s.n ∧ s.n ≤ 1000000000) →
  (takeL g l).pts.length ≤ g.pts.length + 1024 * l.length ∧ (takeL g l).rej.length ≤ g.rej.length + l.length ∧ (g.fr ≤ (takeL g l).fr ∧ (takeL g l).fr ≤ g.fr + l.length) ∧ (g.sk ≤ (takeL g l).sk ∧ (takeL g l).sk ≤ g.sk + 1000000000 * l.length)
 | [], g, _ => ⟨by simp [takeL], by simp [takeL], by simp [takeL], by simp [takeL]⟩
 | s :: l, g, h => by
  have h1 := h s (List.mem_cons_self ..)
  obtain ⟨a1, a2, a3, a4⟩ := takeS_cnts g s h1.1 h1.2
  obtain ⟨b1, b2, b3, b4⟩ := takeL_cnts l (takeS g s) (fun x hx => h x (List.mem_cons_of_mem _ hx))
  rw [show takeL g (s :: l) = takeL (takeS g s) l from rfl, List.length_cons]
  exact ⟨by omega, by omega, by omega, by omega⟩
def TdOk (T : List Sg) : Prop := T.length ≤ 90000 ∧ ∃ xs l, (∀ x ∈ xs, 0 ≤ x ∧ x < 256) ∧ xs.length ≤ 1000000000 ∧ PartsS xs 0 (T ++ l)
section
variable {T D : List Sg} {xs : List Int}
theorem TdOk.less (h : TdOk (T ++ D)) : TdOk T := by
 obtain ⟨h1, xs, l, h2, h3, h4⟩ := h
 rw [List.length_append] at h1
 exact ⟨by omega, xs, D ++ l, h2, h3, by rw [← List.append_assoc]; exact h4⟩
theorem TdOk.mem (h : TdOk T) : ∀ s ∈ T, s.pay.length ≤ 4096 ∧ (∀ y ∈ s.pay, 0 ≤ y ∧ y < 256) ∧ s.n ≤ 1000000000 := by
 obtain ⟨h1, xs, l, h2, h3, h4⟩ := h
 intro s hs
 have k1 := parts_pay h2 h4 s (List.mem_append_left _ hs)
 have k2 := (h4.le h2).2.2 s (List.mem_append_left _ hs)
 exact ⟨k1.1, k1.2, by omega⟩
theorem TdOk.ig (h : TdOk T) : Ig (gT T) := by
 refine Ig.zero.take fun s hs => ?_
 obtain ⟨p, hp, rfl⟩ := List.mem_map.1 hs
 exact (h.mem p hp).2.1
theorem TdOk.cnts (h : TdOk T) : (gT T).pts.length ≤ 92160000 ∧ (gT T).rej.length ≤ 90000 ∧ (0 ≤ (gT T).fr ∧ (gT T).fr ≤ 90000) ∧ (0 ≤ (gT T).sk ∧ (gT T).sk ≤ 90000000000000) := by
 obtain ⟨a1, a2, a3, a4⟩ := takeL_cnts (T.map sgJ) noG (fun s hs => by
  obtain ⟨p, hp, rfl⟩ := List.mem_map.1 hs
  have := (h.mem p hp).2.2
  exact ⟨by show (0 : Int) ≤ (p.n : Int); omega, by show (p.n : Int) ≤ 1000000000; omega⟩)
 have h1 := h.1
 rw [List.length_map] at a1 a2 a3 a4
 have z1 : noG.pts.length = 0 := rfl
 have z2 : noG.rej.length = 0 := rfl
 have z3 : noG.fr = 0 := rfl
 have z4 : noG.sk = 0 := rfl
 rw [z1] at a1
 rw [z2] at a2
 rw [z3] at a3
 rw [z4] at a4
 unfold gT
 exact ⟨by omega, by omega, by omega, by omega⟩
theorem TdOk.bd (h : TdOk T) : Bd 0 (gT T) := by
 obtain ⟨a1, a2, a3, a4⟩ := h.cnts
 exact ⟨by omega, by omega, by omega, by omega⟩
theorem TdOk.sum (h : TdOk T) : sumN T ≤ 1000000000 := by
 obtain ⟨h1, xs, l, h2, h3, h4⟩ := h
 have := Tiled.sum _ _ _ (h4.tiled h2 (Nat.zero_le _))
 rw [sumN_append] at this
 omega
theorem TdOk.fd {a o : Nat} (hx : ∀ x ∈ xs, 0 ≤ x ∧ x < 256) (hl : xs.length ≤ 90000) (h : Fd xs T a o) : TdOk T := by
 obtain ⟨l, hl2⟩ := PartsS.exist hx _ a (Nat.le_refl _)
 exact ⟨Nat.le_trans (h.len hx) hl, xs, l, hx, by omega, h.2.2.1.now l hl2⟩
theorem TdOk.parts (hx : ∀ x ∈ xs, 0 ≤ x ∧ x < 256) (hl : xs.length ≤ 90000) (h : PartsS xs 0 T) : TdOk T :=
 ⟨Nat.le_trans (h.le hx).1 hl, xs, [], hx, by omega, by rw [List.append_nil]; exact h⟩
end
def KS (s t : Nat) (PA RA : Option Addr) (j : Nat) : Prop := j = s ∨ TS t PA RA j
abbrev SBox (w : World) (s f t : Nat) (a b : Int) : Prop := Held w s 71 #[.pointer (some ⟨f, 0, none⟩), .pointer (some ⟨t, 0, none⟩), .int .i64 a, .int .i64 b]
structure KAt (w : World) (n s f t : Nat) (T : List Sg) (SA : Option Addr) (Sc : Nat) (es : List Pd) (PA : Option Addr) (Pc : Nat) (ps : List Pm) (RA : Option Addr) (Rc : Nat) : Prop where
 box : SBox w s f t (sumN T) (gT T).pts.length
 low : n ≤ s
 tak : TAt w n t (gT T) SA Sc es PA Pc ps RA Rc
section
variable {w w' : World} {S : Nat → Prop} {n s f t : Nat} {T : List Sg} {SA : Option Addr} {Sc : Nat} {es : List Pd} {PA : Option Addr} {Pc : Nat} {ps : List Pm} {RA : Option Addr} {Rc : Nat}
theorem KAt.below (h : KAt w n s f t T SA Sc es PA Pc ps RA Rc) (hb : Below w.heap.size w w') : KAt w' n s f t T SA Sc es PA Pc ps RA Rc := ⟨h.box.below hb h.box.lt, h.low, h.tak.below hb⟩
theorem KAt.lt (h : KAt w n s f t T SA Sc es PA Pc ps RA Rc) {j : Nat} (hj : KS s t PA RA j) : n ≤ j ∧ j < w.heap.size := by
 rcases hj with rfl | hj
 ·exact ⟨h.low, h.box.lt⟩
 ·exact h.tak.lt hj
theorem KAt.nots (h : KAt w n s f t T SA Sc es PA Pc ps RA Rc) (hp : PartN S w w') (hn : ∀ e, TkT e → NotS w S e) (h0 : NotS w S 71) : KAt w' n s f t T SA Sc es PA Pc ps RA Rc := ⟨h.box.nots hp h0, h.low, h.tak.nots hp hn⟩
theorem KAt.notS (h : KAt w n s f t T SA Sc es PA Pc ps RA Rc) (e : TypeId) (h0 : 71 ≠ e) (h1 : 93 ≠ e) (h2 : 55 ≠ e) (h3 : 38 ≠ e) : NotS w (KS s t PA RA) e := by
 rintro j c z (rfl | hj)
 ·exact NotT.of_held h.box h0 j c z rfl
 ·exact h.tak.notS e h1 h2 h3 j c z hj
theorem TAt.sput {a b : Int} {g : Gp} (h : TAt w n t g SA Sc es PA Pc ps RA Rc) (hb : SBox w s f t a b) (i : Nat) (u : Value) : TAt (w.setCell ⟨s, i, none⟩ u) n t g SA Sc es PA Pc ps RA Rc :=
 h.nots (PartN.put (S := fun j => j = s) rfl i u) (fun e he => by
  rintro j c z rfl
  refine NotT.of_held hb ?_ j c z rfl
  rcases he with rfl | rfl | rfl | rfl | rfl | rfl | rfl <;> decide)
end
end Go.Proofs.YtnlfcmbpocdpjaaGreat
