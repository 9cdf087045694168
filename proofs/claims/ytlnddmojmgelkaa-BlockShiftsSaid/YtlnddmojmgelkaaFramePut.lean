/-
  frame.Put: a frame's bytes in new memory, or that it may not be.
-/
import Derived.Test.YtlnddmojmgelkaaFrameSmall
import Derived.Test.YtlnddmojmgelkaaAppRow
import Derived.Test.YtlnddmojmgelkaaCrcs
import Derived.Lib.SlBytesConst
import Derived.Lib.SmallJoins
import Derived.Deep.RegionHeld3
import Derived.Deep.RegionLaw
import Derived.Deep.RegionHeldLaw
namespace Go.Proofs.Ytlnddmojmgelkaa
open Go.RowKit

/-- append behind a slice that has no room. -/
theorem run_append_full {P : Program} (w : World) (t ty e : TypeId) (i : TypeInfo) (z : Value) (ht : P.underlying t = some (.slice e)) (hi : P.info? e = some i) (hz : i.zero = some z)
    (hsize : i.size = 1) (hby : i.bytes = 1) (hzs : z.cells.size = 1) (B B2 : Nat) (A A2 : Option Addr) (c c2 : Nat) (xs ys : List Int) (hr : Row w B (.slice A xs.length c) xs) (hr2 : Row w B2 (.slice A2 ys.length c2) ys)
    (h0 : 0 < xs.length) (h02 : 0 < ys.length) (hc : c < xs.length + ys.length) (hl : xs.length + ys.length ≤ 100000000000) :
    ∃ cap w', (Builtin.append_ #[t, t] ty #[.slice A xs.length c, .slice A2 ys.length c2]).run P w = .ok (.slice (some ⟨w.heap.size, 0, none⟩) (xs.length + ys.length) cap) w' ∧
      w'.ownsRow w.heap.size e 1 (.slice (some ⟨w.heap.size, 0, none⟩) (xs.length + ys.length) cap) (xs.length + ys.length) ((xs ++ ys).map (.int .u8)) ∧ Below w.heap.size w w' := by
  obtain ⟨_, _, hv, _, _, _, h4⟩ := hr
  injection hv with e1 _ e3
  subst e1
  obtain ⟨b, o, rfl, _, hcell⟩ := h4 h0
  obtain ⟨_, _, hv2, _, _, _, h42⟩ := hr2
  injection hv2 with e1 _ e4
  subst e1
  obtain ⟨b2, o2, rfl, _, hcell2⟩ := h42 h02
  have key : ∀ (zs : List Int) (bb oo : Nat), (∀ i, i < zs.length → w.cell? ⟨bb, oo + i, none⟩ = some (.int .u8 (zs.getD i 0))) → ∀ (j : Nat) (v : Value), (zs.map (Value.int .u8))[j]? = some v → w.cell? ((⟨bb, oo, none⟩ : Addr).add j) = some v := by
    intro zs bb oo hcz j v hj
    have hjl : j < zs.length := by have := (List.getElem?_eq_some_iff.1 hj).1; simpa using this
    rw [Go.WideShapes.add_plain, hcz j hjl, ← hj]
    simp [List.getD, List.getElem?_eq_getElem hjl]
  have hr := run_append_grow (P := P) w t ty e i z ht hi hz ⟨b, o, none⟩ xs.length c (xs.map (.int .u8)) (by simp [hsize]) (key xs b o hcell) ⟨b2, o2, none⟩ ys.length c2 (ys.map (.int .u8)) (by simp [hsize]) (key ys b2 o2 hcell2) hc (by omega) (by rw [hby]; exact growslice_fits (by omega) (by omega))
  have hge := grownCap_ge w (xs.length + ys.length) c e
  have hcm := grownCap_le_maxLen w (xs.length + ys.length) c e (by simp only [maxLen]; omega)
  refine ⟨_, _, hr, ⟨by simp, .inr ⟨w.heap.size, _, _, rfl, Nat.le_refl _, heap_alloc_new w.drew _, hge, hcm, ?_, ?_⟩⟩, ((Below.refl _ _).alloc (Nat.le_refl _) _).drew⟩
  · simp only [Array.size_append, List.size_toArray, size_zeroCells, hzs, List.length_map]
    omega
  · simp only [Array.toList_append, List.append_assoc, Nat.mul_one]
    rw [← List.append_assoc, ← List.map_append, show xs.length + ys.length = ((xs ++ ys).map (Value.int .u8)).length by simp]
    exact List.take_left

/-- The same as a step of a region that draws its order. -/
theorem step_append_full {P : Program} {w : World} {ops : Array Oper} {o : Oper} {a : Act} {K : Act → World → Prop} {Q : Exit → Act → World → Prop} {E : Prop} (hgd : o.guard = none) (s x : Operand) (t : TypeId)
    (ho : o.op = .call { callee := .builtin .append, args := #[s, x], argTypes := #[t, t] })
    (e : TypeId) (i : TypeInfo) (z : Value) (ht : P.underlying t = some (.slice e)) (hi : P.info? e = some i) (hz : i.zero = some z) (hsize : i.size = 1) (hby : i.bytes = 1) (hzs : z.cells.size = 1)
    (B B2 : Nat) (A A2 : Option Addr) (c c2 n m : Nat) (xs ys : List Int) (hs : a.eval s = .slice A n c) (hx : a.eval x = .slice A2 m c2) (hn : xs.length = n) (hm : ys.length = m) (hr : Row w B (.slice A n c) xs) (hr2 : Row w B2 (.slice A2 m c2) ys)
    (h0 : 0 < n) (h02 : 0 < m) (hc : c < n + m) (hl : n + m ≤ 100000000000) (H : Nat) (hH : w.heap.size = H)
    (h : ∀ cap w', w'.ownsRow w.heap.size e 1 (.slice (some ⟨H, 0, none⟩) (n + m) cap) (n + m) ((xs ++ ys).map (.int .u8)) → Below w.heap.size w w' → K (a.put o.dst (.slice (some ⟨H, 0, none⟩) (n + m) cap)) w') :
    if Region.wanted o (yielded ops a.tmps) = true then Oper.wp P o a w K Q else E := by
  have hw : Region.wanted o (yielded ops a.tmps) = true := by simp [Region.wanted, hgd]
  subst hn hm hH
  obtain ⟨cap, w', hrun, h2, h3⟩ := run_append_full (P := P) w t o.type e i z ht hi hz hsize hby hzs B B2 A A2 c c2 xs ys hr hr2 h0 h02 hc hl
  rw [if_pos hw]
  unfold Oper.wp execOp
  simp only [ho, resolve, invoke, builtin, Sem.run_bind, Sem.run_pure, Result.andThen_ok, List.map_toArray, List.map_cons, List.map_nil, hs, hx, hrun]
  exact h cap w' h2 h3

theorem freeze_first (w : World) (C : Array Value) (e : TypeId) (o : Obj) (k : Nat) : ((w.alloc (.cells C e)).alloc o).freeze ⟨w.heap.size, k, none⟩ 1 = (w.alloc (.cells C e (k, k + 1))).alloc o := by
  unfold World.freeze
  rw [if_neg (by decide)]
  have hm : ∀ (a : Array Obj) (x y : Obj) (f : Obj → Obj), ((a.push x).push y).modify a.size f = (a.push (f x)).push y := by
    intro a x y f
    apply Array.ext
    · simp
    · intro i h1 h2
      simp only [Array.getElem_modify, Array.getElem_push]
      by_cases h : a.size = i
      · subst h
        simp
      · by_cases hi : i < a.size
        · simp [h, hi, Nat.lt_succ_of_lt hi]
        · have hi2 : i = a.size + 1 := by simp at h1; omega
          subst hi2
          simp
  show ({ ((w.alloc (.cells C e)).alloc o) with heap := ((w.heap.push (.cells C e)).push o).modify w.heap.size _ } : World) = _
  rw [hm]
  rfl
/-- A constant's bytes get their mark behind another block, too. -/
theorem run_convert_const_past {P : Program} (w : World) (t e : TypeId) (C : Array Value) (o : Obj) (n c g : Nat) (hg : g = w.heap.size) (ht : P.underlying t = some (.slice e)) (he : P.underlying e = some (.int .u8)) :
    (convert t t (.slice (some ⟨g, 0, none⟩) n c)).run P ((w.alloc (.cells C e)).alloc o) = .ok (.slice (some ⟨g, 0, none⟩) n c) ((w.alloc (.cells C e (C.size, C.size + 1))).alloc o) := by
  subst hg
  have hsh : ((w.alloc (.cells C e)).alloc o).shape? w.heap.size = some (e, C.size) := by
    have : ((w.alloc (.cells C e)).alloc o).heap[w.heap.size]? = some (.cells C e) := by
      show ((w.heap.push (.cells C e)).push o)[w.heap.size]? = _
      simp [Array.getElem?_push]
    unfold World.shape?
    rw [this]
  simp [convert, run_underlying ht, run_underlying he, markStringish, hsh]
  exact freeze_first w C e o C.size
theorem own_cap {w : World} {base g n cap : Nat} {e : TypeId} {xs : List Value} (h : w.ownsRow base e 1 (.slice (some ⟨g, 0, none⟩) n cap) n xs) : n ≤ cap ∧ cap ≤ 9223372036854775807 := by
  rcases h.2 with ⟨h0, _⟩ | ⟨g', cap', cur, hv, _, _, h1, h2, _⟩
  · cases h0
  · injection hv with _ _ e3
    subst e3
    unfold maxLen at h2
    exact ⟨h1, by omega⟩
theorem body_row {w : World} {base g cap : Nat} {e : TypeId} {k : Int} {p : List Int} (h : w.ownsRow base e 1 (.slice (some ⟨g, 0, none⟩) (5 + (encI p.length).length + p.length) cap) (5 + (encI p.length).length + p.length) ((markL ++ [k] ++ encI p.length).map (.int .u8) ++ p.map (.int .u8))) :
    Row w w.heap.size (.slice (some ⟨g, 4, none⟩) (5 + (encI p.length).length + p.length - 4) (cap - 4)) (bodyL k p) := by
  obtain ⟨hc, _⟩ := own_cap h
  rw [← List.map_append] at h
  have hd := (Row.of_own h).drop (k := 4) (by simp [markL])
  have e1 : (markL ++ [k] ++ encI p.length ++ p).drop 4 = bodyL k p := by simp [markL, bodyL, encT]
  have e2 : (bodyL k p).length = 5 + (encI p.length).length + p.length - 4 := by simp [bodyL, encT]; omega
  rw [e1, e2, if_neg (by omega), Option.map_some, Go.WideShapes.add_plain] at hd
  exact hd
theorem le4_row (W : World) (t : TypeId) (s : Nat) : Row (W.alloc (.cells #[.int .u8 ((s : Int) % 256), .int .u8 ((s : Int) / 256 % 256), .int .u8 ((s : Int) / 65536 % 256), .int .u8 ((s : Int) / 16777216)] t)) (W.heap.size + 1) (.slice (some ⟨W.heap.size, 0, none⟩) 4 4) (le4 s) :=
  Row.of_cells (xs := le4 s) (by simp [le4]) (by omega) (fun i hi => by
    rw [World.cell?_alloc_new]
    simp [le4] at hi
    rcases (by omega : i = 0 ∨ i = 1 ∨ i = 2 ∨ i = 3) with rfl | rfl | rfl | rfl <;> rfl)
theorem bodyL_byte {k : Int} {p : List Int} (hk : k = 1 ∨ k = 2) (hp : p.length ≤ 4096) (hb : ∀ x ∈ p, 0 ≤ x ∧ x < 256) : ∀ x ∈ bodyL k p, 0 ≤ x ∧ x < 256 := by
  intro x hx
  simp only [bodyL, encT, List.mem_cons, List.mem_append] at hx
  rcases hx with rfl | hx | hx
  · omega
  · exact encI_bytes (by omega) x hx
  · exact hb x hx
def markCells : Array Value := #[.int .u8 199, .int .u8 84, .int .u8 71, .int .u8 1]
theorem four_cells {w : World} {g : Nat} (hg : g < w.heap.size) (hc : ∀ i, w.cell? ⟨g, i, none⟩ = markCells[i]?) : Row w w.heap.size (.slice (some ⟨g, 0, none⟩) 4 4) markL :=
  Row.of_cells (xs := markL) (by simp [markL]) hg (fun i hi => by
    rw [hc i]
    simp [markL] at hi
    rcases (by omega : i = 0 ∨ i = 1 ∨ i = 2 ∨ i = 3) with rfl | rfl | rfl | rfl <;> rfl)
theorem one_cell {w : World} {g : Nat} {y : Int} (hg : g < w.heap.size) (hc : w.cell? ⟨g, 0, none⟩ = some (.int .u8 y)) : Row w w.heap.size (.slice (some ⟨g, 0, none⟩) 1 1) [y] :=
  Row.of_cells (xs := [y]) (by simp) hg (fun i hi => by
    simp at hi
    subst hi
    exact hc)

theorem rows_a (W : World) (y : Int) (g g2 : Nat) (hg : g = W.heap.size) (hg2 : g2 = W.heap.size + 1) :
    Row ((W.alloc (.cells markCells 5 (4, 5))).alloc (.cells #[.int .u8 y] 5)).drew ((W.alloc (.cells markCells 5 (4, 5))).alloc (.cells #[.int .u8 y] 5)).drew.heap.size (.slice (some ⟨g, 0, none⟩) 4 4) markL ∧
    Row ((W.alloc (.cells markCells 5 (4, 5))).alloc (.cells #[.int .u8 y] 5)).drew ((W.alloc (.cells markCells 5 (4, 5))).alloc (.cells #[.int .u8 y] 5)).drew.heap.size (.slice (some ⟨g2, 0, none⟩) 1 1) [y] := by
  subst hg hg2
  refine ⟨four_cells (by simp <;> omega) (fun i => ?_), one_cell (by simp <;> omega) ?_⟩
  · show ((W.alloc (.cells markCells 5 (4, 5))).alloc (.cells #[.int .u8 y] 5)).cell? _ = _
    rw [World.cell?_alloc_lt _ _ _ (by simp), World.cell?_alloc_mark]
  · show ((W.alloc (.cells markCells 5 (4, 5))).alloc (.cells #[.int .u8 y] 5)).cell? _ = _
    rw [show W.heap.size + 1 = (W.alloc (.cells markCells 5 (4, 5))).heap.size by simp, World.cell?_alloc_new]
    rfl
theorem rows_b (W : World) (y : Int) (g g2 : Nat) (hg : g = W.heap.size) (hg2 : g2 = W.heap.size + 1) :
    Row ((W.alloc (.cells #[.int .u8 y] 5)).alloc (.cells markCells 5 (4, 5))).drew ((W.alloc (.cells #[.int .u8 y] 5)).alloc (.cells markCells 5 (4, 5))).drew.heap.size (.slice (some ⟨g2, 0, none⟩) 4 4) markL ∧
    Row ((W.alloc (.cells #[.int .u8 y] 5)).alloc (.cells markCells 5 (4, 5))).drew ((W.alloc (.cells #[.int .u8 y] 5)).alloc (.cells markCells 5 (4, 5))).drew.heap.size (.slice (some ⟨g, 0, none⟩) 1 1) [y] := by
  subst hg hg2
  refine ⟨four_cells (by simp <;> omega) (fun i => ?_), one_cell (by simp <;> omega) ?_⟩
  · show ((W.alloc (.cells #[.int .u8 y] 5)).alloc (.cells markCells 5 (4, 5))).cell? _ = _
    rw [show W.heap.size + 1 = (W.alloc (.cells #[.int .u8 y] 5)).heap.size by simp, World.cell?_alloc_mark]
  · show ((W.alloc (.cells #[.int .u8 y] 5)).alloc (.cells markCells 5 (4, 5))).cell? _ = _
    rw [World.cell?_alloc_lt _ _ _ (by simp), World.cell?_alloc_new]
    rfl

set_option maxRecDepth 100000 in
set_option maxHeartbeats 1000000 in
theorem fput_bad (k : Int) (A : Option Addr) (c : Nat) (p : List Int) (hbad : ¬ ((k = 1 ∨ k = 2) ∧ p.length ≤ 4096)) (hsm : p.length ≤ 9223372036854775807) (w : World) :
    Calls Try.prog 36 #[.agg #[.int .i64 k, .slice A p.length c]] w fun e w' => e = .returned (.tuple #[.slice none 0 0, .int .i64 1]) ∧ Below w.heap.size w w' := by
  by_cases hk : k = 1 ∨ k = 2
  · have hl : 4096 < p.length := by
      rcases Nat.lt_or_ge 4096 p.length with h | h
      · exact h
      · exact absurd ⟨hk, h⟩ hbad
    have hli : (4096 : Int) < (p.length : Int) := by omega
    have HK := Lib.hid (fun W => known_yes hk W)
    clear hbad hk
    go_enter Try.func36, Try.ntmps36
    go_wp2_with fail
    refine (HK.out _).mono ?_
    rintro e w1 ⟨rfl, rfl⟩
    go_wp2_with fail
    go_ret2
    exact ⟨rfl, (Below.refl _ _).alloc (Nat.le_refl _) _⟩
  · have HK := Lib.hid (fun W => known_no hk W)
    clear hbad hk
    go_enter Try.func36, Try.ntmps36
    go_wp2_with fail
    refine (HK.out _).mono ?_
    rintro e w1 ⟨rfl, rfl⟩
    go_wp2_with fail
    go_ret2
    exact ⟨rfl, (Below.refl _ _).alloc (Nat.le_refl _) _⟩

set_option maxRecDepth 100000 in
set_option maxHeartbeats 2000000 in
theorem fput_any (k : Int) (hk : k = 1 ∨ k = 2) (A : Option Addr) (c : Nat) (p : List Int) (hp : p.length ≤ 4096) (hb : ∀ x ∈ p, 0 ≤ x ∧ x < 256) (w : World) (hrow : Row w w.heap.size (.slice A p.length c) p) :
    Calls Try.prog 36 #[.agg #[.int .i64 k, .slice A p.length c]] w fun e w' => ∃ cap g, e = .returned (.tuple #[.slice (some ⟨g, 0, none⟩) (encFr k p).length cap, .int .i64 0]) ∧
      w'.ownsRow w.heap.size 5 1 (.slice (some ⟨g, 0, none⟩) (encFr k p).length cap) (encFr k p).length ((encFr k p).map (.int .u8)) ∧ Below w.heap.size w w' := by
  have HK := Lib.hid (fun W => known_yes hk W)
  have HROW := Lib.hid hrow; clear hrow
  have HBP := Lib.hid hb; clear hb
  obtain ⟨i0, hi, hz0, hz1, hz2⟩ := info_parts Try.infoU8
  have hk8 : IntKind.u8.wrap k = k := by rw [IntKind.wrap_u8]; omega
  have kc := fun (w : World) (C : Array Value) (n c g : Nat) (h : g = w.heap.size) => Joins.run_convert_bytes_const_at (P := Try.prog) w 46 5 C n c g h Try.underlying46 Try.underlying5
  have kcd : ∀ (w : World) (C : Array Value) (n c g : Nat), g = w.heap.size → (convert 46 46 (.slice (some ⟨g, 0, none⟩) n c)).run Try.prog (w.alloc (.cells C 5)).drew = .ok (.slice (some ⟨g, 0, none⟩) n c) (w.alloc (.cells C 5 (C.size, C.size + 1))).drew :=
    fun w C n c g h => kc w.drew C n c g h
  have kp := fun (w : World) (C : Array Value) (o : Obj) (n c g : Nat) (h : g = w.heap.size) => run_convert_const_past (P := Try.prog) w 46 5 C o n c g h Try.underlying46 Try.underlying5
  have kpd : ∀ (w : World) (C : Array Value) (o : Obj) (n c g : Nat), g = w.heap.size → (convert 46 46 (.slice (some ⟨g, 0, none⟩) n c)).run Try.prog ((w.alloc (.cells C 5)).alloc o).drew = .ok (.slice (some ⟨g, 0, none⟩) n c) ((w.alloc (.cells C 5 (C.size, C.size + 1))).alloc o).drew :=
    fun w C o n c g h => kp w.drew C o n c g h
  have hput : ∀ (W : World) (A : Option Addr) (c : Nat), Row W W.heap.size (.slice A 5 c) (markL ++ [k]) → Calls Try.prog 32 #[.slice A 5 c, .int .u64 p.length] W fun e W' => ∃ v, e = .returned v ∧ W'.ownsRow W.heap.size 5 1 v (5 + (encI p.length).length) ((markL ++ [k] ++ encI p.length).map (.int .u8)) ∧ Below W.heap.size W W' :=
    fun W A c h => put_any A c (markL ++ [k]) p.length (by omega) (by simp [markL]) W h
  have HPUT := Lib.hid hput
  have hu64 : IntKind.u64.wrap (p.length : Int) = (p.length : Int) := by rw [IntKind.wrap_u64]; omega
  clear hput
  have hbody := bodyL_byte hk hp HBP.out
  have hsl := sumX_lt hbody
  have hs1 := fun W v h => sum_any v [bodyL k p] W h (by intro l hl; simp at hl; subst hl; exact hbody)
  rw [show [bodyL k p].flatten = bodyL k p by simp] at hs1
  have HS1 := Lib.hid hs1
  have HF4 := Lib.hid (fun W => four_any (sumX (bodyL k p)) hsl W)
  simp only [le4V] at HF4
  have HSL := Lib.hid hsl
  clear hbody hs1 hsl
  go_enter Try.func36, Try.ntmps36
  go_wp2_with fail
  refine (HK.out _).mono ?_
  rintro e w1 ⟨rfl, rfl⟩
  go_wp2_with fail
  go_region_held_law (fun W => W.cell? ⟨w.heap.size, 0, none⟩ = some (.int .i64 k) ∧ W.cell? ⟨w.heap.size, 1, none⟩ = some (.slice A p.length c))
    (first | go_keep | exact ⟨(hb4.cell (p := ⟨w.heap.size, 0, none⟩) (by have := hb3.size; simp at this; simp only; omega)).trans ((hb3.cell (p := ⟨w.heap.size, 0, none⟩) (by simp <;> omega)).trans (by go_simp)), (hb4.cell (p := ⟨w.heap.size, 1, none⟩) (by have := hb3.size; simp at this; simp only; omega)).trans ((hb3.cell (p := ⟨w.heap.size, 1, none⟩) (by simp <;> omega)).trans (by go_simp))⟩ | exact ⟨(hb3.cell (p := ⟨w.heap.size, 0, none⟩) (by simp <;> omega)).trans (by go_simp), (hb3.cell (p := ⟨w.heap.size, 1, none⟩) (by simp <;> omega)).trans (by go_simp)⟩)
    (first
     | (refine step_append_full (by rfl) (.tmp 17) (.tmp 21) 46 (by rfl) 5 i0 (.int .u8 0) Try.underlying46 hi hz0 hz1 hz2 rfl _ _ (some ⟨w.heap.size + 1, 0, none⟩) (some ⟨w.heap.size + 1 + 1, 0, none⟩) 4 1 4 1 markL [k] (by rfl) (by rfl) rfl rfl (rows_a (w.alloc _) k (w.heap.size + 1) (w.heap.size + 1 + 1) (by simp) (by simp)).1 (rows_a (w.alloc _) k (w.heap.size + 1) (w.heap.size + 1 + 1) (by simp) (by simp)).2 (by omega) (by omega) (by omega) (by omega) (w.heap.size + 1 + 1 + 1) (by simp) ?_; intro cap3 w3 hown3 hb3)
     | (refine step_append_full (by rfl) (.tmp 17) (.tmp 21) 46 (by rfl) 5 i0 (.int .u8 0) Try.underlying46 hi hz0 hz1 hz2 rfl _ _ (some ⟨w.heap.size + 1 + 1, 0, none⟩) (some ⟨w.heap.size + 1, 0, none⟩) 4 1 4 1 markL [k] (by rfl) (by rfl) rfl rfl (rows_b (w.alloc _) k (w.heap.size + 1) (w.heap.size + 1 + 1) (by simp) (by simp)).1 (rows_b (w.alloc _) k (w.heap.size + 1) (w.heap.size + 1 + 1) (by simp) (by simp)).2 (by omega) (by omega) (by omega) (by omega) (w.heap.size + 1 + 1 + 1) (by simp) ?_; intro cap3 w3 hown3 hb3)
     | (go_at_call 32; (with_reducible refine (HPUT.out _ _ _ (Row.of_own hown3)).mono ?_); rintro e w4 ⟨v4, rfl, hown4, hb4⟩))
  all_goals
    have hz3 : w.heap.size ≤ w3.heap.size := by have := hb3.size; simp at this; omega
    have bw3 : Below w.heap.size w w3 := ((((Below.refl _ _).alloc (Nat.le_refl _) _).alloc (by simp) _).alloc (by simp <;> omega) _).drew.trans (hb3.mono (by simp <;> omega))
    have bw4 : Below w.heap.size w w4 := bw3.trans (hb4.mono hz3)
    have hown : w4.ownsRow w.heap.size 5 1 v4 (5 + (encI p.length).length) ((markL ++ [k] ++ encI p.length).map (.int .u8)) := Joins.ownsRow_le hown4 hz3
    have hz31 : w.heap.size < w3.heap.size := by have := hb3.size; simp at this; omega
    have hc1 : w4.cell? ⟨w.heap.size, 1, none⟩ = some (.slice A p.length c) := (hb4.cell (p := ⟨w.heap.size, 1, none⟩) hz31).trans ((hb3.cell (p := ⟨w.heap.size, 1, none⟩) (by simp <;> omega)).trans (by go_simp))
    have HOWN := Lib.hid hown
    have HBW4 := Lib.hid bw4
    have HZ4 := Lib.hid (show w.heap.size < w4.heap.size from Nat.lt_of_lt_of_le hz31 hb4.size)
    clear hz3 hz31 bw3 bw4 hown hown4 hown3 hb4 hb3
    have hlen := encI_ten (n := p.length) (by omega)
    obtain ⟨l1, l2⟩ := hlen
    obtain ⟨g4, cap4, hv4, _, _⟩ := HOWN.out.form (by omega)
    subst hv4
    go_wp2_with (at_builtin; (refine wpList_append_row _ rfl _ _ 46 rfl w.heap.size 5 i0 (.int .u8 0) Try.underlying46 hi hz0 hz1 hz2 rfl _ (5 + (encI p.length).length) _ (by rfl) HOWN.out w.heap.size _ p rfl (HROW.out.below HBW4.out) (by omega) (Nat.le_of_lt HZ4.out) ?_; intro v5 w5 hown5 hg5 hn5; obtain ⟨g5, cap5, hv5, hgb5, hgs5⟩ := hown5.form (by omega); subst hv5; obtain ⟨hcp5, hcm5⟩ := own_cap hown5; have hcp6 : (4 : Int) < (cap5 : Int) := (by omega); have HOWN5 := Lib.hid hown5; have HG5 := Lib.hid hg5; have hcp7 : 4 < cap5 := (by omega); clear hown5 hg5 hn5))
    have bw5 : Below w.heap.size w w5 := HBW4.out.grown HG5.out (Nat.le_of_lt HZ4.out) (fun j hj => (HOWN.out.lt j hj).1)
    have HBW5 := Lib.hid bw5
    have HZ5 := Lib.hid (show w.heap.size ≤ w5.heap.size from bw5.size)
    clear bw5
    refine (HS1.out _ _ (Parts.one (by simp) (by simp [World.cell?_alloc_new]) (((body_row HOWN5.out).below ((Below.refl _ _).alloc (Nat.le_refl _) _)).more (by simp)))).mono ?_
    rintro e w6 ⟨rfl, rfl⟩
    go_wp2_with fail
    refine (HF4.out _).mono ?_
    rintro e w7 ⟨rfl, hb7⟩
    have hz7 := hb7.size
    rw [World.size_alloc] at hz7
    have HOWN7 := Lib.hid (own_below (HOWN5.out.alloc _) hb7)
    have HBW7 := Lib.hid ((HBW5.out.alloc HZ5.out _).trans (hb7.mono (by simp; have := HZ5.out; omega)))
    have hz75 : w.heap.size ≤ w7.heap.size := HBW7.out.size
    clear hb7
    go_wp2_with (at_builtin; refine wpList_append_row _ rfl _ _ 46 rfl w.heap.size 5 i0 (.int .u8 0) Try.underlying46 hi hz0 hz1 hz2 rfl _ (5 + (encI p.length).length + p.length) _ (by rfl) (HOWN7.out.alloc _) (w7.heap.size + 1) _ (le4 (sumX (bodyL k p))) rfl (le4_row w7 _ _) (by simp [le4]; omega) (by simp; omega) ?_; intro v8 w8 hown8 hg8 hn8; obtain ⟨g8, cap8, hv8, hgb8, hgs8⟩ := hown8.form (by omega); subst hv8; have HOWN8 := Lib.hid hown8; have HG8 := Lib.hid hg8; clear hown8 hg8 hn8)
    have hel : (encFr k p).length = 5 + (encI p.length).length + p.length + (le4 (sumX (bodyL k p))).length := by rw [encFr_length, le4_length]; omega
    have hec : encFr k p = markL ++ [k] ++ encI p.length ++ p ++ le4 (sumX (bodyL k p)) := by simp [encFr, bodyL, encT]
    have HEL := Lib.hid hel
    have HEC := Lib.hid hec
    clear hel hec
    go_ret2
    refine ⟨cap8, g8, by rw [HEL.out]; rfl, ?_, ?_⟩
    · have h8 := HOWN8.out
      rw [← HEL.out, ← List.map_append, ← List.map_append, ← HEC.out] at h8
      exact h8
    · exact (HBW7.out.alloc hz75 _).grown HG8.out (by simp; omega) (fun j hj => (HOWN7.out.lt j hj).1)
#print axioms fput_any
end Go.Proofs.Ytlnddmojmgelkaa
