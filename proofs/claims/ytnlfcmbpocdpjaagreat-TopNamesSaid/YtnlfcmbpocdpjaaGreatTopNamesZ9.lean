/-
  What the theorem of TopNames rests on, part 9 of 13.
-/
import Derived.Carry
import Derived.Deep.RegionHeld3
import Derived.Test.YtnlfcmbpocdpjaaGreatTopNamesZ8
set_option maxRecDepth 100000
set_option maxHeartbeats 16000000
namespace Go.Proofs.YtnlfcmbpocdpjaaGreat
open Lib (hid)
open Go.RowKit
abbrev fnSig (t : Nat) : Value := .func (.func 65) #[.pointer (some ⟨t, 0, none⟩)] #[]
abbrev fnPts (t : Nat) : Value := .func (.func 66) #[.pointer (some ⟨t, 0, none⟩)] #[]
def KMap (w : World) (r t : Nat) : Prop := ∃ b0 b1 cl, w.heap[r]? = some (.map #[{ key := .int .i64 1, val := fnSig t, born := b0 }, { key := .int .i64 2, val := fnPts t, born := b1 }] cl)
theorem KMap.below {w w' : World} {r t B : Nat} (h : KMap w r t) (hb : Below B w w') (hr : r < B) : KMap w' r t := by
 obtain ⟨b0, b1, cl, h⟩ := h
 exact ⟨b0, b1, cl, (hb.block r hr).trans h⟩
theorem KMap.lt {w : World} {r t : Nat} (h : KMap w r t) : r < w.heap.size := by
 obtain ⟨_, _, _, h⟩ := h
 exact (Array.getElem?_eq_some_iff.1 h).1
theorem KMap.same {w w' : World} {r t : Nat} (h : KMap w r t) (hb : w'.heap[r]? = w.heap[r]?) : KMap w' r t := by
 obtain ⟨b0, b1, cl, h⟩ := h
 exact ⟨b0, b1, cl, hb.trans h⟩
theorem int_check (w : World) (a : Int) (b : Bool) : (Instr.checkKey b 10000 3 (.int .i64 a)).run Tryz.prog w = .ok () w := by
 rw [show (10000 : Nat) = 9999 + 1 from rfl]
 unfold Instr.checkKey
 rw [Sem.run_bind, run_underlying Tryz.underlying3]
 simp [Result.andThen]
theorem kinds_one {w : World} {r t : Nat} (h : KMap w r t) :
  (Instr.lookup 94 (.map (some r)) (.int .i64 1) true).run Tryz.prog w = .ok (.tuple #[fnSig t, .bool true]) w := by
 obtain ⟨b0, b1, cl, h⟩ := h
 have hg : (getObj r).run Tryz.prog w = .ok (.map #[{ key := .int .i64 1, val := fnSig t, born := b0 }, { key := .int .i64 2, val := fnPts t, born := b1 }] cl) w := by simp [getObj, Sem.run, h]
 unfold Instr.lookup Instr.findKey
 simp [Sem.run_bind, run_underlying Tryz.underlying94, run_underlying Tryz.underlying3, Result.andThen_ok, hg, Sem.run_pure, int_check, Instr.findNow, Instr.sameNow]
theorem kinds_two {w : World} {r t : Nat} (h : KMap w r t) :
  (Instr.lookup 94 (.map (some r)) (.int .i64 2) true).run Tryz.prog w = .ok (.tuple #[fnPts t, .bool true]) w := by
 obtain ⟨b0, b1, cl, h⟩ := h
 have hg : (getObj r).run Tryz.prog w = .ok (.map #[{ key := .int .i64 1, val := fnSig t, born := b0 }, { key := .int .i64 2, val := fnPts t, born := b1 }] cl) w := by simp [getObj, Sem.run, h]
 unfold Instr.lookup Instr.findKey
 simp [Sem.run_bind, run_underlying Tryz.underlying94, run_underlying Tryz.underlying3, Result.andThen_ok, hg, Sem.run_pure, int_check, Instr.findNow, Instr.sameNow]
theorem kinds_none {w : World} {r t : Nat} (h : KMap w r t) {k : Int} (h1 : k ≠ 1) (h2 : k ≠ 2) :
  (Instr.lookup 94 (.map (some r)) (.int .i64 k) true).run Tryz.prog w = .ok (.tuple #[.nilFunc, .bool false]) w := by
 obtain ⟨b0, b1, cl, h⟩ := h
 have hg : (getObj r).run Tryz.prog w = .ok (.map #[{ key := .int .i64 1, val := fnSig t, born := b0 }, { key := .int .i64 2, val := fnPts t, born := b1 }] cl) w := by simp [getObj, Sem.run, h]
 have e1 : (k == 1) = false := beq_eq_false_iff_ne.2 h1
 have e2 : (k == 2) = false := beq_eq_false_iff_ne.2 h2
 unfold Instr.lookup Instr.findKey
 simp [Sem.run_bind, run_underlying Tryz.underlying94, run_underlying Tryz.underlying3, Result.andThen_ok, hg, Sem.run_pure, int_check, Instr.findNow, Instr.sameNow, e1, e2]
theorem kput_first {w : World} {r t : Nat} (h : w.heap[r]? = some (.map #[] 0)) :
  (Instr.mapUpdate 94 (.map (some r)) (.int .i64 1) (fnSig t)).run Tryz.prog w = .ok () (w.putObj r (.map #[{ key := .int .i64 1, val := fnSig t, born := 0 }] 1)) := by
 have hg : (getObj r).run Tryz.prog w = .ok (.map #[] 0) w := by simp [getObj, Sem.run, h]
 have hs : ∀ o, (setObj r o).run Tryz.prog w = .ok () (w.putObj r o) := fun o => by simp [setObj, Sem.run, h, World.putObj]
 unfold Instr.mapUpdate Instr.findKey
 simp [Sem.run_bind, run_underlying Tryz.underlying94, run_underlying Tryz.underlying3, Result.andThen_ok, hg, int_check, Instr.findNow, hs]
theorem kput_second {w : World} {r t : Nat} (h : w.heap[r]? = some (.map #[{ key := .int .i64 1, val := fnSig t, born := 0 }] 1)) :
  (Instr.mapUpdate 94 (.map (some r)) (.int .i64 2) (fnPts t)).run Tryz.prog w = .ok () (w.putObj r (.map #[{ key := .int .i64 1, val := fnSig t, born := 0 }, { key := .int .i64 2, val := fnPts t, born := 1 }] 2)) := by
 have hg : (getObj r).run Tryz.prog w = .ok (.map #[{ key := .int .i64 1, val := fnSig t, born := 0 }] 1) w := by simp [getObj, Sem.run, h]
 have hs : ∀ o, (setObj r o).run Tryz.prog w = .ok () (w.putObj r o) := fun o => by simp [setObj, Sem.run, h, World.putObj]
 unfold Instr.mapUpdate Instr.findKey
 simp [Sem.run_bind, run_underlying Tryz.underlying94, run_underlying Tryz.underlying3, Result.andThen_ok, hg, Sem.run_pure, int_check, Instr.findNow, Instr.sameNow, hs]
theorem putM_self {w : World} {r : Nat} (h : r < w.heap.size) (o : Obj) : (w.putObj r o).heap[r]? = some o := by
 show (w.heap.setIfInBounds r o)[r]? = _
 rw [Array.getElem?_setIfInBounds_self_of_lt h]
theorem kinds_any (w : World) (t : Nat) : Calls Tryz.prog 36 #[.pointer (some ⟨t, 0, none⟩)] w fun e w' => e = .returned (.map (some w.heap.size)) ∧ KMap w' w.heap.size t ∧ Below w.heap.size w w' := by
 have hmm := @run_makeMap Tryz.prog
 obtain ⟨r, hr⟩ : ∃ r, w.heap.size = r := ⟨_, rfl⟩
 obtain ⟨w1, hw1⟩ : ∃ w1, w.alloc (.map #[] 0) = w1 := ⟨_, rfl⟩
 have h1 : w1.heap[r]? = some (.map #[] 0) := by rw [← hw1, ← hr]; exact heap_alloc_new w _
 have b1 : Below r w w1 := by rw [← hw1, ← hr]; exact (Below.refl _ _).alloc (Nat.le_refl _) _
 have l1 := (Array.getElem?_eq_some_iff.1 h1).1
 have p1 := kput_first h1 (t := t)
 obtain ⟨w2, hw2⟩ : ∃ w2, w1.putObj r (.map #[{ key := .int .i64 1, val := fnSig t, born := 0 }] 1) = w2 := ⟨_, rfl⟩
 have h2 : w2.heap[r]? = some (.map #[{ key := .int .i64 1, val := fnSig t, born := 0 }] 1) := by rw [← hw2]; exact putM_self l1 _
 have b2 : Below r w w2 := by rw [← hw2]; exact below_putObj b1 (Nat.le_refl _) _
 have l2 := (Array.getElem?_eq_some_iff.1 h2).1
 have p2 := kput_second h2
 obtain ⟨w3, hw3⟩ : ∃ w3, w2.putObj r (.map #[{ key := .int .i64 1, val := fnSig t, born := 0 }, { key := .int .i64 2, val := fnPts t, born := 1 }] 2) = w3 := ⟨_, rfl⟩
 have h3 : KMap w3 r t := ⟨0, 1, 2, by rw [← hw3]; exact putM_self l2 _⟩
 have b3 : Below r w w3 := by rw [← hw3]; exact below_putObj b2 (Nat.le_refl _) _
 have H3 := hid h3
 have HB := hid b3
 rw [hw2] at p1
 rw [hw3] at p2
 rw [hr]
 clear h1 h2 h3 b1 b2 b3 hw2 hw3 l1 l2
 go_enter Tryz.func36, Tryz.ntmps36
 go_wp2_with fail
 go_ret
 exact ⟨rfl, H3.out, HB.out⟩
open Go.RowKit Go.ChangeShapes Go.WideShapes
set_option linter.unusedVariables false
theorem gsigned_any (w : World) (A1 : Option Addr) (n1 c1 : Nat) (A2 : Option Addr) (n2 c2 : Nat) (sk fr : Int) (A3 : Option Addr) (n3 c3 : Nat) (b : Bool) (hb : decide (0 < fr) = b) :
  Calls Tryz.prog 33 #[.agg #[.slice A1 n1 c1, .slice A2 n2 c2, .int .i64 sk, .int .i64 fr, .slice A3 n3 c3]] w fun e w' => e = .returned (.bool b) ∧ Below w.heap.size w w' := by
 obtain ⟨u, hu⟩ : ∃ u, w.alloc (.cells #[.slice A1 n1 c1, .slice A2 n2 c2, .int .i64 sk, .int .i64 fr, .slice A3 n3 c3] 28) = u := ⟨_, rfl⟩
 have HB := hid (show Below w.heap.size w u from by rw [← hu]; exact (Below.refl _ _).alloc (Nat.le_refl _) _)
 have hh : Held u w.heap.size 28 #[.slice A1 n1 c1, .slice A2 n2 c2, .int .i64 sk, .int .i64 fr, .slice A3 n3 c3] := by rw [← hu]; exact heap_alloc_new w _
 have x3 := hh.cell 3
 simp at x3
 have HX := hid hb
 clear hh hb
 go_enter Tryz.func33, Tryz.ntmps33
 go_wp2_with fail
 go_ret
 exact ⟨by rw [← HX.out]; rfl, HB.out⟩
theorem refuse_any (w : World) (v : Value) :
  Calls Tryz.prog 37 #[v] w fun e w' => e = .returned (.int .i64 4) ∧ w' = w := by
 go_enter Tryz.func37, Tryz.ntmps37
 go_wp2_with fail
 go_ret
 exact ⟨rfl, rfl⟩
section
variable {w : World} {n t : Nat} {g : Gp} {SA : Option Addr} {Sc : Nat} {es : List Pd} {PA : Option Addr} {Pc : Nat} {ps : List Pm} {RA : Option Addr} {Rc : Nat}
theorem rlast_any (h : TAt w n t g SA Sc es PA Pc ps RA Rc) :
  Calls Tryz.prog 110 #[.pointer (some ⟨t, 0, none⟩)] w fun e w' => e = .returned (.int .u64 (lastT g.pts)) ∧ Below w.heap.size w w' := by
 obtain ⟨-, x1, -, -, -⟩ := h.cells
 have hlt := h.held.lt
 obtain ⟨-, hc1, hc2⟩ := h.pts.row.1.len
 by_cases h0 : ps.length = 0
 ·have hl : lastT g.pts = 0 := by
   rw [← h.ptsp, List.eq_nil_of_length_eq_zero h0]
   rfl
  rw [hl]
  rw [h0] at x1
  clear h hl
  go_enter Tryz.func110, Tryz.ntmps110
  go_wp2_with fail
  go_ret
  exact ⟨rfl, Below.refl _ _⟩
 ·obtain ⟨m, hm⟩ : ∃ m, ps.length - 1 = m := ⟨_, rfl⟩
  obtain ⟨d, hd⟩ : ∃ d, ps[m]? = some d := ⟨_, List.getElem?_eq_getElem (by omega)⟩
  have hl : lastT g.pts = d.tm := by
   unfold lastT
   rw [← h.ptsp, List.length_map, hm]
   simp only [List.getD, List.getElem?_map, hd, Option.map_some, Option.getD_some]
  rw [hl]
  obtain ⟨b, o, rfl, hbl, v0, -, -, -, -⟩ := h.pts.row.at hd
  have hbw : b < w.heap.size := hbl
  have e1 : (ps.length : Int) - 1 = (m : Int) := by omega
  have e2 : ¬ (ps.length : Int) = 0 := by omega
  have e3 : (m : Int) < (ps.length : Int) := by omega
  have e4 : ¬ (ps.length : Int) ≤ (m : Int) := by omega
  have e5 : (0 : Int) ≤ (m : Int) := by omega
  have e6 : ¬ (m : Int) < 0 := by omega
  have e7 : IntKind.i64.wrap (m : Int) = (m : Int) := IntWalk.i64_in _ (by omega)
  have e8 : m < ps.length := by omega
  clear h hl hm hd h0
  go_enter Tryz.func110, Tryz.ntmps110
  go_wp2_with fail
  go_region
  all_goals (
  go_wp2_with fail
  go_ret
  exact ⟨rfl, (Below.refl _ _).drew⟩)
abbrev TLeft (w : World) (n t : Nat) (PA RA : Option Addr) (g : Gp) (w' : World) : Prop := TkR (TS t PA RA) w n t g w'
theorem TAt.left {w' : World} (h : TAt w n t g SA Sc es PA Pc ps RA Rc) (hb : Below w.heap.size w w') : TLeft w n t PA RA g w' := ⟨SA, Sc, es, PA, Pc, ps, RA, Rc, h.below hb, PartN.of_below hb, fun j hj => .inl hj⟩
theorem PartN.tail {S : Nat → Prop} {w w1 w2 : World} (h : PartN S w w1) (hb : Below w1.heap.size w1 w2) : PartN S w w2 := h.trans (PartN.of_below hb)
def cntG (g : Gp) (a e : Int) : Gp := if e ≠ 0 then ⟨g.sig, g.isg, g.pts, g.sk, g.fr, g.rej ++ [(a, e)]⟩ else ⟨g.sig, g.isg, g.pts, g.sk, g.fr + 1, g.rej⟩
theorem flatJ_snoc (l : List (Int × Int)) (a e : Int) : flatJ l ++ [.int .i64 a, .int .i64 e] = flatJ (l ++ [(a, e)]) := by rw [flatJ_append]; rfl
theorem rcount_any18 (h : TAt w n t g SA Sc es PA Pc ps RA Rc) (a e : Int) (hR : g.rej.length ≤ 1000000000) (hF : -4611686018427387904 ≤ g.fr ∧ g.fr ≤ 4611686018427387904) :
  Calls Tryz.prog 38 #[.pointer (some ⟨t, 0, none⟩), .int .i64 a, .int .i64 e] w fun r w' => r = .returned (.tuple #[]) ∧ TLeft w n t PA RA (cntG g a e) w' := by
 obtain ⟨i1, hi1, hy0, hy1, hy2⟩ := info_parts Tryz.infoReject
 obtain ⟨x0, x1, x2, x3, x4⟩ := h.cells
 have hlt := h.held.lt
 have hn := h.size
 unfold cntG
 by_cases he : e = 0
 ·have hb : (e != 0) = false := by simp [he]
  rw [if_neg (fun x => x he)]
  have f3 := h.held.frozen 3
  have HT := hid h
  have hw : IntKind.i64.wrap (g.fr + 1) = g.fr + 1 := IntWalk.i64_in _ (by omega)
  clear h
  go_enter Tryz.func38, Tryz.ntmps38
  go_wp2_with fail
  go_end0
  exact ⟨rfl, SA, Sc, es, PA, Pc, ps, RA, Rc, HT.out.putFr _, PartN.put (.inl rfl) 3 _, fun j hj => .inl hj⟩
 ·have hb : (e != 0) = true := by simp [he]
  rw [if_pos he]
  obtain ⟨u, hu⟩ : ∃ u, w.alloc (.cells #[.int .i64 a, .int .i64 e] 38) = u := ⟨_, rfl⟩
  have bu : Below w.heap.size w u := by rw [← hu]; exact (Below.refl _ _).alloc (Nat.le_refl _) _
  have su : u.heap.size = w.heap.size + 1 := by rw [← hu, World.size_alloc]
  have hu1 := h.below bu
  have HU := hid hu1
  have HO := hid hu1.rej
  have HE : Hid (ERow u u.heap.size (.slice (some ⟨w.heap.size, 0, none⟩) 1 1) 1 [.int .i64 a, .int .i64 e]) := hid (by rw [← hu]; exact ERow.held (t := 38) (heap_alloc_new w _) (by rw [hu]; omega) (show (1 : Nat) ≤ maxLen by unfold maxLen; omega))
  have HBU := hid bu
  have hnu : n ≤ u.heap.size := hu1.size
  obtain ⟨M, hM⟩ : ∃ M, g.rej.length = M := ⟨_, rfl⟩
  have HM := hid hM
  have HP := hid (fun A7 c7 w7 => TAt.putRej (A7 := A7) (c7 := c7) (w1 := w7) (a := a) (e := e) hu1 (show g.rej.length + 1 = M + 1 by omega))
  rw [hM] at x4 hR HO HP
  clear h bu hu1 hM
  go_enter Tryz.func38, Tryz.ntmps38
  go_wp2_with (at_builtin; refine wpList_append_erow _ rfl _ _ 26 38 rfl n i1 (.agg #[.int .i64 0, .int .i64 0]) 2 16 Tryz.underlying26 hi1 hy0 hy1 hy2 rfl (by decide) (.slice RA M Rc) M (flatJ g.rej) (by rfl) HO.out _ _ 1 [.int .i64 a, .int .i64 e] (by rfl) HE.out rfl (by simp [Value.oneCell']) (by unfold maxLen; omega) (by omega) hnu (M + 1) rfl (flatJ (g.rej ++ [(a, e)])) (flatJ_snoc _ _ _) ?_; intro A7 c7 w7 hown7 hg7 hat7; obtain ⟨k1, k2, k3, k4⟩ := HP.out A7 c7 w7 hown7 hg7 hat7; have f4 := k1.frozen 4; have q4 := k1.cell 4; have hl4 := k1.lt; simp at q4; clear hown7 hg7 hat7 k1)
  refine bodyPost_ret (v := .tuple #[]) (results_none rfl _ _ _) rfl ?_
  refine ⟨rfl, SA, Sc, es, PA, Pc, ps, A7, c7, k2.out, (PartN.of_below HBU.out).trans k3.out, fun j hj => ?_⟩
  rcases k4.out j hj with k | k
  ·exact .inl k
  ·exact .inr (by omega)
end
def SameC : Prop := ∀ (A1 : Option Addr) (c1 : Nat) (ds1 : List Pd) (A2 : Option Addr) (c2 : Nat) (ds2 : List Pd) (w : World), PredRow w w.heap.size (.slice A1 ds1.length c1) ds1 → PredRow w w.heap.size (.slice A2 ds2.length c2) ds2 →
 Calls Tryz.prog 109 #[.slice A1 ds1.length c1, .slice A2 ds2.length c2] w fun e w' => e = .returned (.bool (decide (ds1.map (·.p) = ds2.map (·.p)))) ∧ Below w.heap.size w w'
theorem equal_any (A1 : Option Addr) (c1 : Nat) (l1 : List Int) (A2 : Option Addr) (c2 : Nat) (l2 : List Int) (w : World) (hrow1 : IRow w w.heap.size (.slice A1 l1.length c1) l1) (hrow2 : IRow w w.heap.size (.slice A2 l2.length c2) l2) :
  Calls Tryz.prog 172 #[.slice A1 l1.length c1, .slice A2 l2.length c2] w fun e w' => e = .returned (.bool (decide (l1 = l2))) ∧ Below w.heap.size w w' := by
 by_cases hl : l1.length = l2.length
 ·have hyes := fun h => decide_eq_true (args_ext (l := l1) (m := l2) hl h)
  have hno := fun (i : Nat) (h : l1.getD i 0 ≠ l2.getD i 0) => decide_eq_false (p := l1 = l2) (fun e => h (by rw [e]))
  generalize decide (l1 = l2) = R at hyes hno ⊢
  have HY := hid hyes
  have HN := hid hno
  have HI1 := hid (fun W (h : Below w.heap.size w W) => hrow1.below h)
  have HI2 := hid (fun W (h : Below w.heap.size w W) => hrow2.below h)
  have hlt : l1.length ≤ 9223372036854775807 := by
   obtain ⟨_, _, _, q1, q2, _⟩ := hrow1
   rw [List.length_map] at q1
   unfold maxLen at q2
   omega
  clear hyes hno hrow1 hrow2
  have HL := hid hl
  rw [← hl] at HI2 ⊢
  clear hl
  go_enter Tryz.func172, Tryz.ntmps172
  go_wp2_with fail
  go_loopg [13] l1.length (fun gm i wr2 => ∃ m : Nat, m ≤ l1.length ∧ i = .int .i64 m ∧ Hid (l1.length - m = gm) ∧ Hid (∀ j, j < m → l1.getD j 0 = l2.getD j 0) ∧ Below w.heap.size w wr2)
  case atStart => exact ⟨0, Nat.zero_le _, rfl, hid rfl, hid (fun j h => absurd h (Nat.not_lt_zero _)), Below.refl _ _⟩
  case round =>
   obtain ⟨m, hm, rfl, HGM, HI, hbw2⟩ := hrel
   by_cases hml : m < l1.length
   ·obtain ⟨q1, r1, rfl, hq1, t1⟩ := (HI1.out _ hbw2).at hml
    obtain ⟨q2, r2, rfl, hq2, t2⟩ := (HI2.out _ hbw2).at (by rw [← HL.out]; exact hml)
    by_cases he : l1.getD m 0 = l2.getD m 0
    ·have HI3 := hid (step_lt (P := fun j => l1.getD j 0 = l2.getD j 0) HI.out he)
     rw [he] at t1
     generalize l2.getD m 0 = t at t1 t2
     have HB2 := hid hbw2
     clear he hbw2
     go_wp2_with fail
     go_quiet (fail)
     go_wp2_with fail
     go_roundg (l1.length - (m + 1))
     case measure => have := HGM.out; omega
     case rel => exact ⟨m + 1, by omega, by go_num, hid rfl, HI3, HB2.out.trans (drewN_low _ _ _)⟩
    ·have HR := hid (HN.out m he)
     generalize l1.getD m 0 = s1 at t1 he
     generalize l2.getD m 0 = s2 at t2 he
     have hse : (s1 != s2) = true := bne_iff_ne.2 he
     have HB2 := hid hbw2
     clear he hbw2
     go_wp2_with fail
     go_quiet (fail)
     go_wp2_with fail
     go_ret
     exact ⟨by rw [HR.out]; rfl, HB2.out.trans (drewN_low _ _ _)⟩
   ·obtain rfl : m = l1.length := by omega
    have HR := hid (HY.out HI.out)
    have HB2 := hid hbw2
    clear hbw2
    go_wp2_with fail
    go_ret
    exact ⟨by rw [HR.out]; rfl, HB2.out⟩
 ·have hlb : ((l1.length : Int) != (l2.length : Int)) = true := bne_iff_ne.2 (by omega)
  have hf : decide (l1 = l2) = false := decide_eq_false (fun e => hl (by rw [e]))
  rw [hf]
  clear hf hrow1 hrow2
  go_enter Tryz.func172, Tryz.ntmps172
  go_wp2_with fail
  go_ret
  exact ⟨rfl, Below.refl _ _⟩
theorem run_eql_key (w : World) (a b : ByteArray) : (binOp .eql 167 (.agg #[.string a]) (.agg #[.string b])).run Tryz.prog w = .ok (.bool (a.toList == b.toList)) w := by
 have h := key_eq w a b
 unfold Op.equal at h
 rw [run_eql_struct, show (10000 : Nat) = Op.maxDepth from rfl, h]
 rfl
theorem pr_eq_dec (p q : Pr) : decide (p = q) = (decide (p.name = q.name) && decide (p.args = q.args)) := by
 obtain ⟨a, b⟩ := p
 obtain ⟨c, d⟩ := q
 by_cases h1 : a = c <;> by_cases h2 : b = d <;> simp [h1, h2]
theorem spred_any (d1 d2 : Pd) (w : World) (f1 : ∀ x ∈ d1.p.name, 0 ≤ x ∧ x < 256) (f2 : ∀ x ∈ d2.p.name, 0 ≤ x ∧ x < 256) (hrow1 : IRow w w.heap.size (.slice d1.A d1.p.args.length d1.c) d1.p.args) (hrow2 : IRow w w.heap.size (.slice d2.A d2.p.args.length d2.c) d2.p.args) :
  Calls Tryz.prog 146 #[d1.val, d2.val] w fun e w' => e = .returned (.bool (decide (d1.p = d2.p))) ∧ Below w.heap.size w w' := by
 obtain ⟨⟨nm1, l1⟩, A1, c1⟩ := d1
 obtain ⟨⟨nm2, l2⟩, A2, c2⟩ := d2
 simp only at f1 f2 hrow1 hrow2
 rw [pr_eq_dec]
 dsimp only [Pd.val]
 have hde := str_eq_dec f1 f2
 have HIE := hid (fun W (h : Below w.heap.size w W) => equal_any A1 c1 l1 A2 c2 l2 W ((hrow1.below h).more h.size) ((hrow2.below h).more h.size))
 clear f1 f2 hrow1 hrow2
 generalize decide (l1 = l2) = E at HIE ⊢
 generalize l1.length = n1 at HIE ⊢
 generalize l2.length = n2 at HIE ⊢
 have HK1 := hid (fun W => key_any (strOfNums nm1) A1 n1 c1 W)
 have HK2 := hid (fun W => key_any (strOfNums nm2) A2 n2 c2 W)
 have hke := fun W => run_eql_key W (strOfNums nm1) (strOfNums nm2)
 rw [hde] at hke
 generalize strOfNums nm1 = s1 at HK1 hke hde ⊢
 generalize strOfNums nm2 = s2 at HK2 hke hde ⊢
 obtain ⟨w1, hw1⟩ : ∃ w1, (w.alloc (.cells #[.string s1, .slice A1 n1 c1] 58)).alloc (.cells #[.string s2, .slice A2 n2 c2] 58) = w1 := ⟨_, rfl⟩
 have s1' : w1.heap.size = w.heap.size + 1 + 1 := by rw [← hw1]; simp
 have b1 : Below w.heap.size w w1 := by rw [← hw1]; exact ((Below.refl _ _).alloc (Nat.le_refl _) _).alloc (by simp) _
 have h1 : Held w1 w.heap.size 58 #[.string s1, .slice A1 n1 c1] := by
  rw [← hw1]
  exact Held.below (heap_alloc_new w _) ((Below.refl _ _).alloc (Nat.le_refl _) _) (by simp)
 have h2 : Held w1 (w.heap.size + 1) 58 #[.string s2, .slice A2 n2 c2] := by
  rw [← hw1, show w.heap.size + 1 = (w.alloc (.cells #[.string s1, .slice A1 n1 c1] 58)).heap.size by simp]
  exact heap_alloc_new _ _
 have hall : ∀ W, Below w1.heap.size w1 W → Below w1.heap.size w1 W ∧ W.cell? ⟨w.heap.size, 0, none⟩ = some (.string s1) ∧ W.cell? ⟨w.heap.size, 1, none⟩ = some (.slice A1 n1 c1) ∧ W.cell? ⟨w.heap.size + 1, 0, none⟩ = some (.string s2) ∧ W.cell? ⟨w.heap.size + 1, 1, none⟩ = some (.slice A2 n2 c2) := fun W h => by
  have g1 := h1.below h (by omega)
  have g2 := h2.below h (by omega)
  obtain ⟨e0, e1⟩ := cC2 g1
  obtain ⟨e2, e3⟩ := cC2 g2
  exact ⟨h, by simpa using e0, by simpa using e1, by simpa using e2, by simpa using e3⟩
 have HALL := hid hall
 have HB1 := hid b1
 clear hall h1 h2 b1
 have hkp : ∀ W W', Below w1.heap.size w1 W → Below W.heap.size W W' → Below w1.heap.size w1 W' := fun W W' h h' => h.trans (h'.mono h.size)
 have HKP := hid hkp
 clear hkp
 cases hd : decide (nm1 = nm2) with
 | false =>
  rw [hd] at hke hde
  clear hd
  rw [Bool.false_and]
  clear hke
  go_enter Tryz.func146, Tryz.ntmps146
  go_wp2_with fail
  clear hw1
  have hS0 := HALL.out _ (Below.refl _ _).drew
  refine wp_region_held_drew (S := fun W => Below w1.heap.size w1 W ∧ W.cell? ⟨w.heap.size, 0, none⟩ = some (.string s1) ∧ W.cell? ⟨w.heap.size, 1, none⟩ = some (.slice A1 n1 c1) ∧ W.cell? ⟨w.heap.size + 1, 0, none⟩ = some (.string s2) ∧ W.cell? ⟨w.heap.size + 1, 1, none⟩ = some (.slice A2 n2 c2)) (by kernel_rfl) hS0 (fun _ => ?_)
  refine wpAnyH_take (i := 0) (v := .agg #[.string s1, .slice A1 n1 c1]) rfl (by kernel_rfl) (by kernel_rfl) (by kernel_rfl) (fun _ _ _ h => h) (Or.inl ⟨by rfl, fun W hW => by obtain ⟨_, q0, q1, q2, q3⟩ := hW; go_simp⟩) hS0 ?_
  try simp only [pU]
  refine wpAnyH_take (i := 2) (v := .agg #[.string s2, .slice A2 n2 c2]) rfl (by kernel_rfl) (by kernel_rfl) (by kernel_rfl) (fun _ _ _ h => h) (Or.inl ⟨by rfl, fun W hW => by obtain ⟨_, q0, q1, q2, q3⟩ := hW; go_simp⟩) hS0 ?_
  try simp only [pU]
  refine wpAnyH_ready (rs := [1]) (by kernel_rfl) (by simp) ?_
  refine AllReadyH.cons rfl (fun K hK => ?_) AllReadyH.nil
  go_simp
  refine (HK1.out _).mono ?_
  rintro e w7 ⟨rfl, hb7⟩
  have b7 : Below w1.heap.size w1 w7 := HKP.out _ _ (Below.refl _ _).drew hb7
  refine hK.out _ _ (HALL.out _ b7) (fun _ => ?_)
  clear hK K
  try simp only [pU]
  refine wpAnyH_ready (rs := [3]) (by kernel_rfl) (by simp) ?_
  refine AllReadyH.cons rfl (fun K hK => ?_) AllReadyH.nil
  go_simp
  refine (HK2.out _).mono ?_
  rintro e w8 ⟨rfl, hb8⟩
  have b8 : Below w1.heap.size w1 w8 := HKP.out _ _ b7 hb8
  have hS8 := HALL.out _ b8
  refine hK.out _ _ hS8 (fun _ => ?_)
  clear hK K hS0
  try simp only [pU]
  refine wpAnyH_take (i := 4) (v := .bool false) rfl (by kernel_rfl) (by kernel_rfl) (by kernel_rfl) (fun _ _ _ h => h) (Or.inl ⟨by rfl, fun W _ => by go_simp⟩) hS8 ?_
  try simp only [pU]
  refine wpAnyH_take (i := 5) (v := .bool false) rfl (by kernel_rfl) (by kernel_rfl) (by kernel_rfl) (fun _ _ _ h => h) (Or.inl ⟨by rfl, fun W _ => by go_simp⟩) hS8 ?_
  try simp only [pU]
  refine wpAnyH_take (i := 6) (v := undef) rfl (by kernel_rfl) (by kernel_rfl) (by kernel_rfl) (fun _ _ _ h => h) (Or.inr ⟨by rfl, rfl⟩) hS8 ?_
  try simp only [pU]
  refine wpAnyH_take (i := 7) (v := undef) rfl (by kernel_rfl) (by kernel_rfl) (by kernel_rfl) (fun _ _ _ h => h) (Or.inr ⟨by rfl, rfl⟩) hS8 ?_
  try simp only [pU]
  refine wpAnyH_take (i := 8) (v := undef) rfl (by kernel_rfl) (by kernel_rfl) (by kernel_rfl) (fun _ _ _ h => h) (Or.inr ⟨by rfl, rfl⟩) hS8 ?_
  try simp only [pU]
  refine wpAnyH_take (i := 9) (v := undef) rfl (by kernel_rfl) (by kernel_rfl) (by kernel_rfl) (fun _ _ _ h => h) (Or.inr ⟨by rfl, rfl⟩) hS8 ?_
  try simp only [pU]
  refine wpAnyH_take (i := 10) (v := undef) rfl (by kernel_rfl) (by kernel_rfl) (by kernel_rfl) (fun _ _ _ h => h) (Or.inr ⟨by rfl, rfl⟩) hS8 ?_
  try simp only [pU]
  refine wpAnyH_take (i := 11) (v := .bool false) rfl (by kernel_rfl) (by kernel_rfl) (by kernel_rfl) (fun _ _ _ h => h) (Or.inl ⟨by rfl, fun W _ => by go_simp⟩) hS8 ?_
  try simp only [pU]
  refine wpAnyH_take (i := 12) (v := .bool false) rfl (by kernel_rfl) (by kernel_rfl) (by kernel_rfl) (fun _ _ _ h => h) (Or.inl ⟨by rfl, fun W _ => by go_simp⟩) hS8 ?_
  try simp only [pU]
  refine wpAnyH_done (by kernel_rfl) ?_ _
  go_wp2_with fail
  go_ret
  exact ⟨rfl, HB1.out.trans (b8.mono (by omega))⟩
 | true =>
  rw [hd] at hke
  clear hd
  rw [Bool.true_and]
  go_enter Tryz.func146, Tryz.ntmps146
  go_wp2_with fail
  clear hw1
  go_region_held3 (fun W => Below w1.heap.size w1 W ∧ W.cell? ⟨w.heap.size, 0, none⟩ = some (.string s1) ∧ W.cell? ⟨w.heap.size, 1, none⟩ = some (.slice A1 n1 c1) ∧ W.cell? ⟨w.heap.size + 1, 0, none⟩ = some (.string s2) ∧ W.cell? ⟨w.heap.size + 1, 1, none⟩ = some (.slice A2 n2 c2))
   (first | exact HALL.out _ (Below.refl _ _) | exact HALL.out _ (Below.refl _ _).drew | exact HALL.out _ b7 | exact HALL.out _ b8 | exact HALL.out _ b9)
   (first
    | (go_at_call 93; (with_reducible refine (HK1.out _).mono ?_); rintro e w7 ⟨rfl, hb7⟩; have b7 : Below w1.heap.size w1 w7 := HKP.out _ _ (Below.refl _ _).drew hb7)
    | (go_at_call 93; (with_reducible refine (HK2.out _).mono ?_); rintro e w8 ⟨rfl, hb8⟩; have b8 : Below w1.heap.size w1 w8 := HKP.out _ _ b7 hb8)
    | (go_at_call 172; (with_reducible refine (HIE.out _ (HB1.out.trans (b8.mono (by omega)))).mono ?_); rintro e w9 ⟨rfl, hb9⟩; have b9 : Below w1.heap.size w1 w9 := HKP.out _ _ b8 hb9))
  go_wp2_with fail
  go_ret
  exact ⟨rfl, HB1.out.trans (b9.mono (by omega))⟩
theorem eqfunc_any (A1 : Option Addr) (c1 : Nat) (ds1 : List Pd) (A2 : Option Addr) (c2 : Nat) (ds2 : List Pd) (w : World) (hrow1 : PredRow w w.heap.size (.slice A1 ds1.length c1) ds1) (hrow2 : PredRow w w.heap.size (.slice A2 ds2.length c2) ds2) :
  Calls Tryz.prog 145 #[.slice A1 ds1.length c1, .slice A2 ds2.length c2, .func (.func 146) #[] #[]] w fun e w' => e = .returned (.bool (decide (ds1.map (·.p) = ds2.map (·.p)))) ∧ Below w.heap.size w w' := by
 obtain ⟨_, hc1, hc2⟩ : ∃ _ : True, ds1.length ≤ c1 ∧ c1 ≤ 9223372036854775807 := by
  obtain ⟨A', c', hv, q1, q2⟩ := hrow1.form
  injection hv with _ _ e3
  exact ⟨trivial, by omega, by omega⟩
 obtain ⟨_, hc3, hc4⟩ : ∃ _ : True, ds2.length ≤ c2 ∧ c2 ≤ 9223372036854775807 := by
  obtain ⟨A', c', hv, q1, q2⟩ := hrow2.form
  injection hv with _ _ e3
  exact ⟨trivial, by omega, by omega⟩
 by_cases hl : ds1.length = ds2.length
 ·have hyes := fun h => decide_eq_true (prs_ext (l := ds1.map (·.p)) (m := ds2.map (·.p)) (by simpa using hl) h)
  have hno := fun (i : Nat) (h : (ds1.map (·.p)).getD i default ≠ (ds2.map (·.p)).getD i default) => decide_eq_false (p := ds1.map (·.p) = ds2.map (·.p)) (fun e => h (by rw [e]))
  generalize decide (ds1.map (·.p) = ds2.map (·.p)) = R at hyes hno ⊢
  have HY := hid hyes
  have HN := hid hno
  have HR1 := hid hrow1
  have HR2 := hid hrow2
  clear hyes hno hrow1 hrow2
  rw [← hl] at hc3
  have HL := hid hl
  rw [← hl] at HR2 ⊢
  clear hl
  obtain ⟨N, hN⟩ : ∃ N, ds1.length = N := ⟨_, rfl⟩
  have HN1 := hid hN
  rw [hN] at HR1 HR2 hc1 hc3 HL ⊢
  clear hN
  go_enter Tryz.func145, Tryz.ntmps145
  go_wp2_with fail
  go_loopg [17] N (fun gk i wr => ∃ k : Nat, k ≤ N ∧ i = .int .i64 k ∧ Hid (N - k = gk) ∧ Hid (∀ j, j < k → (ds1.map (·.p)).getD j default = (ds2.map (·.p)).getD j default) ∧ Hid (Below w.heap.size w wr))
  case atStart => exact ⟨0, Nat.zero_le _, rfl, hid rfl, hid (fun j h => absurd h (Nat.not_lt_zero _)), hid (Below.refl _ _)⟩
  case round =>
   obtain ⟨k, hk, rfl, HGK, HJ, HBW⟩ := hrel
   by_cases hlt : k < N
   ·obtain ⟨d1, hd1⟩ : ∃ d, ds1[k]? = some d := ⟨_, List.getElem?_eq_getElem (by rw [HN1.out]; exact hlt)⟩
    obtain ⟨d2, hd2⟩ : ∃ d, ds2[k]? = some d := ⟨_, List.getElem?_eq_getElem (by rw [← HL.out]; exact hlt)⟩
    obtain ⟨b1, o1, rfl, hb1, x0, x1, hir1, hfit1, ha1, ha2⟩ := (HR1.out.below HBW.out).at hd1
    obtain ⟨b2, o2, rfl, hb2, y0, y1, hir2, hfit2, ha3, ha4⟩ := (HR2.out.below HBW.out).at hd2
    have e1 := getD_pr (at_pr hd1)
    have e2 := getD_pr (at_pr hd2)
    have hno := HN.out k
    rw [e1, e2] at hno
    have HNO := hid hno
    have HST := hid (fun (h : d1.p = d2.p) => step_lt (P := fun j => (ds1.map (·.p)).getD j default = (ds2.map (·.p)).getD j default) HJ.out (by rw [e1, e2]; exact h))
    have HSP := hid (fun W (h : Below w.heap.size wr W) => spred_any d1 d2 W hfit1.2.1 hfit2.2.1 ((hir1.below h).more (Nat.le_trans HBW.out.size h.size)) ((hir2.below h).more (Nat.le_trans HBW.out.size h.size)))
    obtain ⟨w1, hw1⟩ : ∃ w1, wr.alloc (.cells #[.string (strOfNums d1.p.name), .slice d1.A d1.p.args.length d1.c] 58) = w1 := ⟨_, rfl⟩
    obtain ⟨w2, hw2⟩ : ∃ w2, w1.alloc (.cells #[.string (strOfNums d2.p.name), .slice d2.A d2.p.args.length d2.c] 58) = w2 := ⟨_, rfl⟩
    have s1 : w1.heap.size = wr.heap.size + 1 := by rw [← hw1]; simp
    have s2 : w2.heap.size = wr.heap.size + 1 + 1 := by rw [← hw2]; simp [s1]
    have z0 := HBW.out.size
    have g1 : Below wr.heap.size wr w1 := by rw [← hw1]; exact (Below.refl _ _).alloc (Nat.le_refl _) _
    have g2 : Below w1.heap.size w1 w2 := by rw [← hw2]; exact (Below.refl _ _).alloc (Nat.le_refl _) _
    have h1 : Held w1 wr.heap.size 58 #[.string (strOfNums d1.p.name), .slice d1.A d1.p.args.length d1.c] := by rw [← hw1]; exact heap_alloc_new wr _
    have h2 : Held w2 (wr.heap.size + 1) 58 #[.string (strOfNums d2.p.name), .slice d2.A d2.p.args.length d2.c] := by rw [← hw2, ← s1]; exact heap_alloc_new w1 _
    have h1' := h1.below g2 (by omega)
    obtain ⟨p0, p1⟩ := cC2 h1'
    obtain ⟨p2, p3⟩ := cC2 h2
    simp at p0 p1 p2 p3
    have y0' := (g1.cell (p := ⟨b2, o2 + k * 2, none⟩) (by simpa using Nat.lt_of_lt_of_le hb2 z0)).trans y0
    have y1' := (g1.cell (p := ⟨b2, o2 + k * 2 + 1, none⟩) (by simpa using Nat.lt_of_lt_of_le hb2 z0)).trans y1
    have g12 := (g1.trans (g2.mono (by omega))).mono z0
    have HSQ := hid (HSP.out w2 g12)
    have HB2 := hid (HBW.out.trans g12)
    have hbz1 : b1 < w1.heap.size := by omega
    have hbz2 : b2 < w1.heap.size := by omega
    clear HSP hir1 hir2 hfit1 hfit2 e1 e2 hno hd1 hd2 h1 h2 h1' g1 g2 g12
    by_cases hp : d1.p = d2.p
    ·have HJ2 := hid (HST.out hp)
     rw [decide_eq_true hp] at HSQ
     clear hp
     go_wp2_with fail
     refine HSQ.out.mono ?_
     rintro e w3 ⟨rfl, hb3⟩
     have HB3 := hid (HB2.out.trans (hb3.mono (by omega)))
     clear hb3 p0 p1 p2 p3 x0 x1 y0 y1 y0' y1'
     go_wp2_with fail
     go_roundg (N - (k + 1))
     case measure => have := HGK.out; omega
     case rel => exact ⟨k + 1, by omega, by go_num, hid rfl, HJ2, HB3⟩
    ·have HR := hid (HNO.out hp)
     rw [decide_eq_false hp] at HSQ
     clear hp
     go_wp2_with fail
     refine HSQ.out.mono ?_
     rintro e w3 ⟨rfl, hb3⟩
     have HB3 := hid (HB2.out.trans (hb3.mono (by omega)))
     clear hb3 p0 p1 p2 p3 x0 x1 y0 y1 y0' y1'
     go_wp2_with fail
     go_ret
     exact ⟨by rw [HR.out]; rfl, HB3.out⟩
   ·obtain rfl : k = N := by omega
    have HR := hid (HY.out (fun i hi => HJ.out i (by rw [List.length_map, HN1.out] at hi; exact hi)))
    go_wp2_with fail
    go_ret
    exact ⟨by rw [HR.out]; rfl, HBW.out⟩
 ·have hlb : ((ds1.length : Int) != (ds2.length : Int)) = true := bne_iff_ne.2 (by omega)
  have hf : decide (ds1.map (·.p) = ds2.map (·.p)) = false := decide_eq_false (fun e => hl (by have := congrArg List.length e; simpa using this))
  rw [hf]
  clear hf hrow1 hrow2
  go_enter Tryz.func145, Tryz.ntmps145
  go_wp2_with fail
  go_ret
  exact ⟨rfl, Below.refl _ _⟩
theorem ssame_any : SameC := by
 intro A1 c1 ds1 A2 c2 ds2 w hrow1 hrow2
 have HE := hid (eqfunc_any A1 c1 ds1 A2 c2 ds2 w hrow1 hrow2)
 clear hrow1 hrow2
 generalize decide (ds1.map (·.p) = ds2.map (·.p)) = R at HE ⊢
 go_enter Tryz.func109, Tryz.ntmps109
 go_wp2_with fail
 refine HE.out.mono ?_
 rintro e w1 ⟨rfl, hb⟩
 go_wp2_with fail
 go_ret
 exact ⟨rfl, hb⟩
end Go.Proofs.YtnlfcmbpocdpjaaGreat
