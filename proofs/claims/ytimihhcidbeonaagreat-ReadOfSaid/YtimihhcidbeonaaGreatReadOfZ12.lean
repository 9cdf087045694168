/-
  What the theorem of ReadOf rests on, part 12 of 18.
-/
import Derived.Laws.StructEq
import Derived.Deep.RegionHeld3
import Derived.BigQuiet
import Derived.Test.YtimihhcidbeonaaGreatReadOfZ11
set_option maxRecDepth 100000
set_option maxHeartbeats 16000000
namespace Go.Proofs.YtimihhcidbeonaaGreat
open Lib (hid)
open Go.RowKit
theorem rsigsame_any (A1 : Option Addr) (c1 : Nat) (ds1 : List Pd) (A2 : Option Addr) (c2 : Nat) (ds2 : List Pd) (w : World) (hrow1 : PredRow w w.heap.size (.slice A1 ds1.length c1) ds1) (hrow2 : PredRow w w.heap.size (.slice A2 ds2.length c2) ds2) :
  Calls Tryz.prog 34 #[.slice A1 ds1.length c1, .slice A2 ds2.length c2] w fun e w' => e = .returned (.bool (decide (ds1.map (·.p) = ds2.map (·.p)))) ∧ Below w.heap.size w w' := by
 obtain ⟨_, hc1, hc2⟩ : ∃ _ : True, ds1.length ≤ c1 ∧ c1 ≤ 9223372036854775807 := by
  obtain ⟨A', c', hv, q1, q2⟩ := hrow1.form
  injection hv with _ _ e3
  exact ⟨trivial, by omega, by omega⟩
 obtain ⟨_, hc3, hc4⟩ : ∃ _ : True, ds2.length ≤ c2 ∧ c2 ≤ 9223372036854775807 := by
  obtain ⟨A', c', hv, q1, q2⟩ := hrow2.form
  injection hv with _ _ e3
  exact ⟨trivial, by omega, by omega⟩
 by_cases hl : ds1.length = ds2.length
 ·have hyes := fun h => decide_eq_true (prs_ext (l := ds1.map (·.p)) (m := ds2.map (·.p)) (by simpa using hl) h)
  have hno := fun (i : Nat) (h : (ds1.map (·.p)).getD i default ≠ (ds2.map (·.p)).getD i default) => decide_eq_false (p := ds1.map (·.p) = ds2.map (·.p)) (fun e => h (by rw [e]))
  generalize decide (ds1.map (·.p) = ds2.map (·.p)) = R at hyes hno ⊢
  have HY := hid hyes
  have HN := hid hno
  have HR1 := hid hrow1
  have HR2 := hid hrow2
  clear hyes hno hrow1 hrow2
  rw [← hl] at hc3
  have HL := hid hl
  rw [← hl] at HR2 ⊢
  clear hl
  obtain ⟨N, hN⟩ : ∃ N, ds1.length = N := ⟨_, rfl⟩
  have HN1 := hid hN
  rw [hN] at HR1 HR2 hc1 hc3 HL ⊢
  clear hN
  go_enter Tryz.func34, Tryz.ntmps34
  go_wp2_with fail
  go_loopg [5] N (fun gk i wr => ∃ k : Nat, k ≤ N ∧ i = .int .i64 k ∧ Hid (N - k = gk) ∧ Hid (∀ j, j < k → (ds1.map (·.p)).getD j default = (ds2.map (·.p)).getD j default) ∧ Below w.heap.size w wr)
  case atStart => exact ⟨0, Nat.zero_le _, rfl, hid rfl, hid (fun j h => absurd h (Nat.not_lt_zero _)), Below.refl _ _⟩
  case round =>
   obtain ⟨k, hk, rfl, HGK, HJ, hbw⟩ := hrel
   by_cases hlt : k < N
   ·obtain ⟨d1, hd1⟩ : ∃ d, ds1[k]? = some d := ⟨_, List.getElem?_eq_getElem (by rw [HN1.out]; exact hlt)⟩
    obtain ⟨d2, hd2⟩ : ∃ d, ds2[k]? = some d := ⟨_, List.getElem?_eq_getElem (by rw [← HL.out]; exact hlt)⟩
    obtain ⟨b1, o1, rfl, hb1, x0, x1, hir1, hfit1, ha1, ha2⟩ := (HR1.out.below hbw).at hd1
    obtain ⟨b2, o2, rfl, hb2, y0, y1, hir2, hfit2, ha3, ha4⟩ := (HR2.out.below hbw).at hd2
    have e1 := getD_pr (at_pr hd1)
    have e2 := getD_pr (at_pr hd2)
    have hno := HN.out k
    rw [e1, e2] at hno
    have hst := fun (h : d1.p = d2.p) => step_lt (P := fun j => (ds1.map (·.p)).getD j default = (ds2.map (·.p)).getD j default) HJ.out (by rw [e1, e2]; exact h)
    have hf1 := hfit1.2.1
    have hf2 := hfit2.2.1
    clear e1 e2 hd1 hd2 hfit1 hfit2
    obtain ⟨⟨nm1, as1⟩, B1, e1⟩ := d1
    obtain ⟨⟨nm2, as2⟩, B2, e2⟩ := d2
    simp only at x0 x1 y0 y1 hir1 hir2 ha1 ha2 ha3 ha4 hno hst hf1 hf2
    by_cases hnm : nm1 = nm2
    ·subst hnm
     by_cases hal : as1.length = as2.length
     ·have hne : ((as1.length : Int) != (as2.length : Int)) = false := by rw [hal]; simp
      have HNO := hid (fun m (h : as1.getD m 0 ≠ as2.getD m 0) => hno (fun e => h (by injection e with _ e; rw [e])))
      have HST := hid (fun h => hst (by rw [args_ext hal h]))
      have HI1 := hid (fun W (h : Below w.heap.size wr W) => hir1.below h)
      have HI2 := hid (fun W (h : Below w.heap.size wr W) => hir2.below h)
      have hxx := fun W (h : Below w.heap.size wr W) => (h.cell (p := ⟨b1, o1 + k * 2 + 1, none⟩) hb1).trans x1
      have hyy := fun W (h : Below w.heap.size wr W) => (h.cell (p := ⟨b2, o2 + k * 2 + 1, none⟩) hb2).trans y1
      have HXX := hid hxx
      have HYY := hid hyy
      have HBW := hid hbw
      clear hno hst hf1 hf2 hir1 hir2 hxx hyy hbw
      rw [← hal] at ha3
      have HAL := hid hal
      clear hal
      have hlen2 : as2.length = as1.length := HAL.out.symm
      rw [hlen2] at y1 hne HI2 HYY
      clear hlen2
      go_wp2_with fail
      go_quiet (fail)
      go_wp2_with fail
      go_loopg [6] as1.length (fun gm i wr2 => ∃ m : Nat, m ≤ as1.length ∧ i = .int .i64 m ∧ Hid (as1.length - m = gm) ∧ Hid (∀ j, j < m → as1.getD j 0 = as2.getD j 0) ∧ Below w.heap.size wr wr2)
      case atStart => exact ⟨0, Nat.zero_le _, rfl, hid rfl, hid (fun j h => absurd h (Nat.not_lt_zero _)), drewN_low _ _ _⟩
      case round =>
       obtain ⟨m, hm, rfl, HGM, HI, hbw2⟩ := hrel
       have x1' := HXX.out _ hbw2
       have y1' := HYY.out _ hbw2
       by_cases hml : m < as1.length
       ·obtain ⟨q1, r1, rfl, hq1, t1⟩ := (HI1.out _ hbw2).at hml
        obtain ⟨q2, r2, rfl, hq2, t2⟩ := (HI2.out _ hbw2).at (by rw [← HAL.out]; exact hml)
        by_cases he : as1.getD m 0 = as2.getD m 0
        ·have HI3 := hid (step_lt (P := fun j => as1.getD j 0 = as2.getD j 0) HI.out he)
         rw [he] at t1
         generalize as2.getD m 0 = t at t1 t2
         have HB2 := hid hbw2
         clear he hbw2 x1 y1
         go_wp2_with fail
         go_quiet (fail)
         go_wp2_with fail
         go_roundg (as1.length - (m + 1))
         case measure => have := HGM.out; omega
         case rel => exact ⟨m + 1, by omega, by go_num, hid rfl, HI3, HB2.out.trans (drewN_low _ _ _)⟩
        ·have HR := hid (HNO.out m he)
         generalize as1.getD m 0 = s1 at t1 he
         generalize as2.getD m 0 = s2 at t2 he
         have hse : (s1 != s2) = true := bne_iff_ne.2 he
         have HB2 := hid hbw2
         clear he hbw2 x1 y1
         go_wp2_with fail
         go_quiet (fail)
         go_wp2_with fail
         go_ret
         exact ⟨by rw [HR.out]; rfl, (HBW.out.trans HB2.out).trans (drewN_low _ _ _)⟩
       ·obtain rfl : m = as1.length := by omega
        have HJ2 := hid (HST.out HI.out)
        have HB2 := hid hbw2
        clear hbw2 x1 y1
        go_wp2_with fail
        go_roundg (N - (k + 1))
        case measure => have := HGK.out; omega
        case rel => exact ⟨k + 1, by omega, by go_num, hid rfl, HJ2, HBW.out.trans HB2.out⟩
     ·have hR := hno (fun h => hal (by injection h with _ h; rw [h]))
      have hne : ((as1.length : Int) != (as2.length : Int)) = true := bne_iff_ne.2 (by omega)
      have HR := hid hR
      clear hno hst hf1 hf2 hR hir1 hir2
      have HBW := hid hbw
      clear hbw
      go_wp2_with fail
      go_quiet (fail)
      go_wp2_with fail
      go_ret
      exact ⟨by rw [HR.out]; rfl, HBW.out.trans (drewN_low _ _ _)⟩
    ·have hR := hno (fun h => hnm (by injection h))
     have hne := str_ne hf1 hf2 hnm
     have HR := hid hR
     clear hno hst hf1 hf2 hR hir1 hir2 hnm
     have HBW := hid hbw
     clear hbw
     go_wp2_with fail
     go_quiet (fail)
     go_wp2_with fail
     go_ret
     exact ⟨by rw [HR.out]; rfl, HBW.out.trans (drewN_low _ _ _)⟩
   ·obtain rfl : k = N := by omega
    have HR := hid (HY.out (fun i hi => HJ.out i (by rw [List.length_map, HN1.out] at hi; exact hi)))
    go_wp2_with fail
    go_ret
    exact ⟨by rw [HR.out]; rfl, hbw⟩
 ·have hlb : ((ds1.length : Int) != (ds2.length : Int)) = true := bne_iff_ne.2 (by omega)
  have hf : decide (ds1.map (·.p) = ds2.map (·.p)) = false := decide_eq_false (fun e => hl (by have := congrArg List.length e; simpa using this))
  rw [hf]
  clear hf
  go_enter Tryz.func34, Tryz.ntmps34
  go_wp2_with fail
  go_ret
  exact ⟨rfl, Below.refl _ _⟩
theorem lst_ext {α : Type} [Inhabited α] {l m : List α} (hl : l.length = m.length) (h : ∀ i, i < l.length → l.getD i default = m.getD i default) : l = m := by
 refine List.ext_getElem hl fun i h1 h2 => ?_
 have := h i h1
 simpa [List.getD, List.getElem?_eq_getElem h1, List.getElem?_eq_getElem h2] using this
theorem part_num (w : World) (t : TypeId) (k k' : IntKind) (cs : Array Value) (i : Nat) (x : Int) (ht : Tryz.prog.underlying t = some (.int k')) (hi : cs[i]? = some (.int k x)) : (part t cs i).run Tryz.prog w = .ok (.int k x) w := by
 unfold part isAgg
 simp [run_underlying ht, hi, Result.andThen]
theorem arg_eq (w : World) (a b : Int) (s : ByteArray) (a' b' : Int) (s' : ByteArray) : (Op.equal 97 (.agg #[.int .i64 a, .int .i64 b, .string s]) (.agg #[.int .i64 a', .int .i64 b', .string s'])).run Tryz.prog w = .ok (a == a' && (b == b' && s.toList == s'.toList)) w := by
 unfold Op.equal
 rw [show Op.maxDepth = 9998 + 1 + 1 from rfl, run_equalIn_struct (P := Tryz.prog) w _ 97 _ _ (by kernel_rfl) (by kernel_rfl)]
 simp [Program.fieldsOf, Tryz.underlying97, Op.eqFields]
 rw [part_num w 3 .i64 .i64 _ 0 a Tryz.underlying3 rfl, Result.andThen_ok, part_num w 3 .i64 .i64 _ 0 a' Tryz.underlying3 rfl, Result.andThen_ok, show (9999 : Nat) = 9998 + 1 from rfl, run_equalIn_int (P := Tryz.prog) w 9998 3 .i64 .i64 a a' Tryz.underlying3, Result.andThen_ok]
 cases h : a == a' with
 | false => simp
 | true =>
  simp
  rw [part_num w 2 .i64 .i64 _ 1 b Tryz.underlying2 rfl, Result.andThen_ok, part_num w 2 .i64 .i64 _ 1 b' Tryz.underlying2 rfl, Result.andThen_ok, show (9999 : Nat) = 9998 + 1 from rfl, run_equalIn_int (P := Tryz.prog) w 9998 2 .i64 .i64 b b' Tryz.underlying2, Result.andThen_ok]
  cases h : b == b' with
  | false => simp
  | true =>
   simp
   rw [part_str w 9 _ 2 s Tryz.underlying9 rfl, Result.andThen_ok, part_str w 9 _ 2 s' Tryz.underlying9 rfl, Result.andThen_ok, show (9999 : Nat) = 9998 + 1 from rfl, run_equalIn_string (P := Tryz.prog) w 9998 9 s s' Tryz.underlying9, Result.andThen_ok]
   cases s.toList == s'.toList <;> simp
theorem ag_eq_dec {x y : Ag} (hx : x.Fits) (hy : y.Fits) : (x.t == y.t && (x.n == y.n && (strOfNums x.s).toList == (strOfNums y.s).toList)) = decide (x = y) := by
 obtain ⟨a, b, s⟩ := x
 obtain ⟨a', b', s'⟩ := y
 rw [str_eq_dec hx.2.1 hy.2.1]
 by_cases h1 : a = a' <;> by_cases h2 : b = b' <;> by_cases h3 : s = s' <;> simp [h1, h2, h3]
theorem run_neq_arg (w : World) {x y : Ag} (hx : x.Fits) (hy : y.Fits) :
  (binOp .neq 97 (.agg #[.int .i64 x.t, .int .i64 x.n, .string (strOfNums x.s)]) (.agg #[.int .i64 y.t, .int .i64 y.n, .string (strOfNums y.s)])).run Tryz.prog w = .ok (.bool (!decide (x = y))) w := by
 have h := arg_eq w x.t x.n (strOfNums x.s) y.t y.n (strOfNums y.s)
 rw [ag_eq_dec hx hy] at h
 simp only [binOp, Sem.run_bind, h, Result.andThen_ok, Sem.run_pure]
theorem ev_eq_dec (a b : Em) : decide (a.e = b.e) = (decide (a.p = b.p) && decide (a.args = b.args)) := by
 obtain ⟨p, l, _, _⟩ := a
 obtain ⟨q, m, _, _⟩ := b
 by_cases h1 : p = q <;> by_cases h2 : l = m <;> simp [Em.e, h1, h2]
theorem pn_eq_dec (a b : Pm) : decide (a.p = b.p) = (decide (a.tm = b.tm) && decide (a.evs.map (·.e) = b.evs.map (·.e))) := by
 obtain ⟨p, l, _, _⟩ := a
 obtain ⟨q, m, _, _⟩ := b
 by_cases h1 : p = q <;> by_cases h2 : l.map (·.e) = m.map (·.e) <;> simp [Pm.p, h1, h2]
theorem revsame_any (d1 d2 : Em) (w : World) (g1 : d1.Ok w w.heap.size) (g2 : d2.Ok w w.heap.size) :
  Calls Tryz.prog 56 #[d1.val, d2.val] w fun e w' => e = .returned (.bool (decide (d1.e = d2.e))) ∧ Below w.heap.size w w' := by
 obtain ⟨-, hc1, hc2⟩ := g1.1.1.len
 obtain ⟨-, hc3, hc4⟩ := g2.1.1.len
 have f1 := g1.2
 have f2 := g2.2
 rw [ev_eq_dec]
 obtain ⟨p1, l1, A1, c1⟩ := d1
 obtain ⟨p2, l2, A2, c2⟩ := d2
 unfold Em.Fits at f1 f2
 dsimp only at hc1 hc2 hc3 hc4 f1 f2 ⊢
 dsimp only [Em.val]
 have HI1 := hid (fun W (h : Below w.heap.size w W) => g1.1.below h)
 have HI2 := hid (fun W (h : Below w.heap.size w W) => g2.1.below h)
 dsimp only at HI1 HI2
 clear g1 g2
 obtain ⟨w1, hw1⟩ : ∃ w1, (w.alloc (.cells #[.int .i64 p1, .slice A1 l1.length c1] 100)).alloc (.cells #[.int .i64 p2, .slice A2 l2.length c2] 100) = w1 := ⟨_, rfl⟩
 have s1 : w1.heap.size = w.heap.size + 1 + 1 := by rw [← hw1]; simp
 have b1 : Below w.heap.size w w1 := by rw [← hw1]; exact ((Below.refl _ _).alloc (Nat.le_refl _) _).alloc (by simp) _
 have h1 : Held w1 w.heap.size 100 #[.int .i64 p1, .slice A1 l1.length c1] := by
  rw [← hw1]
  exact Held.below (heap_alloc_new w _) ((Below.refl _ _).alloc (Nat.le_refl _) _) (by simp)
 have h2 : Held w1 (w.heap.size + 1) 100 #[.int .i64 p2, .slice A2 l2.length c2] := by
  rw [← hw1, show w.heap.size + 1 = (w.alloc (.cells #[.int .i64 p1, .slice A1 l1.length c1] 100)).heap.size by simp]
  exact heap_alloc_new _ _
 obtain ⟨e0, e1⟩ := cC2 h1
 obtain ⟨e2, e3⟩ := cC2 h2
 simp at e0 e1 e2 e3
 have HB1 := hid b1
 by_cases hd : p1 = p2
 case neg =>
  have hb1 : (p1 != p2) = true := bne_iff_ne.2 hd
  rw [decide_eq_false hd, Bool.false_and]
  clear hd h1 h2 b1
  go_enter Tryz.func56, Tryz.ntmps56
  go_wp2_with fail
  go_ret
  exact ⟨rfl, HB1.out⟩
 case pos =>
  subst hd
  rw [decide_eq_true rfl, Bool.true_and]
  have hbb : (p1 != p1) = false := by simp
  by_cases hl : l1.length = l2.length
  ·have hyes := fun h => decide_eq_true (lst_ext (l := l1) (m := l2) hl h)
   have hno := fun (i : Nat) (h : l1.getD i default ≠ l2.getD i default) => decide_eq_false (p := l1 = l2) (fun e => h (by rw [e]))
   generalize decide (l1 = l2) = R at hyes hno ⊢
   have HY := hid hyes
   have HN := hid hno
   have HL := hid hl
   rw [← hl] at HI2 hc3 e3 hw1 h2 ⊢
   have hll : ((l1.length : Int) != (l1.length : Int)) = false := by simp
   have HE1 := hid (fun W (h : Below w1.heap.size w1 W) => (h1.below h (by omega)).cell 1)
   have HE3 := hid (fun W (h : Below w1.heap.size w1 W) => (h2.below h (by omega)).cell 1)
   simp at HE1 HE3
   have HS1 := hid s1
   clear hl hyes hno h1 h2 b1
   go_enter Tryz.func56, Tryz.ntmps56
   go_wp2_with fail
   clear e0 e1 e2 e3 hw1
   go_loopg [5] l1.length (fun gm i wr2 => ∃ m : Nat, m ≤ l1.length ∧ i = .int .i64 m ∧ Hid (l1.length - m = gm) ∧ Hid (∀ j, j < m → l1.getD j default = l2.getD j default) ∧ Hid (Below w1.heap.size w1 wr2))
   case atStart => exact ⟨0, Nat.zero_le _, rfl, hid rfl, hid (fun j h => absurd h (Nat.not_lt_zero _)), hid (Below.refl _ _)⟩
   case round =>
    obtain ⟨m, hm, rfl, HGM, HI, HB2⟩ := hrel
    have x1 := HE1.out _ HB2.out
    have x3 := HE3.out _ HB2.out
    by_cases hml : m < l1.length
    ·have hbw2 := HB1.out.trans (HB2.out.mono (by omega))
     obtain ⟨x, hx⟩ : ∃ x, l1[m]? = some x := ⟨_, List.getElem?_eq_getElem hml⟩
     obtain ⟨y, hy⟩ : ∃ y, l2[m]? = some y := ⟨_, List.getElem?_eq_getElem (by rw [← HL.out]; exact hml)⟩
     obtain ⟨q1, r1, rfl, hq1, s0, s1, s2, fx⟩ := (HI1.out _ hbw2).at hx
     obtain ⟨q2, r2, rfl, hq2, t0, t1, t2, fy⟩ := (HI2.out _ hbw2).at hy
     have e1 := getD_of hx
     have e2 := getD_of hy
     have hne := fun W => run_neq_arg W fx fy
     by_cases he : x = y
     ·have HI3 := hid (step_lt (P := fun j => l1.getD j default = l2.getD j default) HI.out (by rw [e1, e2, he]))
      rw [decide_eq_true he] at hne
      clear he hbw2 fx fy e1 e2 hx hy
      go_wp2_with fail
      go_quiet (fail)
      go_wp2_with fail
      go_roundg (l1.length - (m + 1))
      case measure => have := HGM.out; omega
      case rel => exact ⟨m + 1, by omega, by go_num, hid rfl, HI3, hid (HB2.out.trans (drewN_low _ _ _))⟩
     ·have HR := hid (HN.out m (by rw [e1, e2]; exact he))
      rw [decide_eq_false he] at hne
      clear he fx fy e1 e2 hx hy
      have HB3 := hid hbw2
      clear hbw2
      go_wp2_with fail
      go_quiet (fail)
      go_wp2_with fail
      go_ret
      exact ⟨by rw [HR.out]; rfl, HB3.out.trans (drewN_low _ _ _)⟩
    ·obtain rfl : m = l1.length := by omega
     have HR := hid (HY.out HI.out)
     have HB3 := hid (HB1.out.trans (HB2.out.mono (by omega)))
     go_wp2_with fail
     go_ret
     exact ⟨by rw [HR.out]; rfl, HB3.out⟩
  ·have hlb : ((l1.length : Int) != (l2.length : Int)) = true := bne_iff_ne.2 (by omega)
   have hf : decide (l1 = l2) = false := decide_eq_false (fun e => hl (by rw [e]))
   rw [hf]
   clear hf hl h1 h2 b1
   go_enter Tryz.func56, Tryz.ntmps56
   go_wp2_with fail
   go_ret
   exact ⟨rfl, HB1.out⟩
theorem rtsame_any (A1 : Option Addr) (c1 : Nat) (ds1 : List Pm) (A2 : Option Addr) (c2 : Nat) (ds2 : List Pm) (w : World) (hrow1 : TrRow w w.heap.size (.slice A1 ds1.length c1) ds1) (hrow2 : TrRow w w.heap.size (.slice A2 ds2.length c2) ds2) :
  Calls Tryz.prog 15 #[.slice A1 ds1.length c1, .slice A2 ds2.length c2] w fun e w' => e = .returned (.bool (decide (ds1.map (·.p) = ds2.map (·.p)))) ∧ Below w.heap.size w w' := by
 obtain ⟨-, hc1, hc2⟩ := hrow1.1.len
 obtain ⟨-, hc3, hc4⟩ := hrow2.1.len
 by_cases hl : ds1.length = ds2.length
 ·have hyes := fun h => decide_eq_true (lst_ext (l := ds1.map (·.p)) (m := ds2.map (·.p)) (by simpa using hl) h)
  have hno := fun (i : Nat) (h : (ds1.map (·.p)).getD i default ≠ (ds2.map (·.p)).getD i default) => decide_eq_false (p := ds1.map (·.p) = ds2.map (·.p)) (fun e => h (by rw [e]))
  generalize decide (ds1.map (·.p) = ds2.map (·.p)) = R at hyes hno ⊢
  have HY := hid hyes
  have HN := hid hno
  have HR1 := hid hrow1
  have HR2 := hid hrow2
  clear hyes hno hrow1 hrow2
  rw [← hl] at hc3
  have HL := hid hl
  rw [← hl] at HR2 ⊢
  clear hl
  obtain ⟨N, hN⟩ : ∃ N, ds1.length = N := ⟨_, rfl⟩
  have HN1 := hid hN
  rw [hN] at HR1 HR2 hc1 hc3 HL ⊢
  clear hN
  go_enter Tryz.func15, Tryz.ntmps15
  go_wp2_with fail
  go_loopg [5] N (fun gk i wr => ∃ k : Nat, k ≤ N ∧ i = .int .i64 k ∧ Hid (N - k = gk) ∧ Hid (∀ j, j < k → (ds1.map (·.p)).getD j default = (ds2.map (·.p)).getD j default) ∧ Hid (Below w.heap.size w wr))
  case atStart => exact ⟨0, Nat.zero_le _, rfl, hid rfl, hid (fun j h => absurd h (Nat.not_lt_zero _)), hid (Below.refl _ _)⟩
  case round =>
   obtain ⟨k, hk, rfl, HGK, HJ, HBW⟩ := hrel
   by_cases hlt : k < N
   ·obtain ⟨d1, hd1⟩ : ∃ d, ds1[k]? = some d := ⟨_, List.getElem?_eq_getElem (by rw [HN1.out]; exact hlt)⟩
    obtain ⟨d2, hd2⟩ : ∃ d, ds2[k]? = some d := ⟨_, List.getElem?_eq_getElem (by rw [← HL.out]; exact hlt)⟩
    obtain ⟨b1, o1, rfl, hb1, x0, x1, hok1, ha1, ha2⟩ := (HR1.out.below HBW.out).at hd1
    obtain ⟨b2, o2, rfl, hb2, y0, y1, hok2, ha3, ha4⟩ := (HR2.out.below HBW.out).at hd2
    have e1 := getD_of (at_pn hd1)
    have e2 := getD_of (at_pn hd2)
    have hno := HN.out k
    rw [e1, e2] at hno
    have hst := fun (h : d1.p = d2.p) => step_lt (P := fun j => (ds1.map (·.p)).getD j default = (ds2.map (·.p)).getD j default) HJ.out (by rw [e1, e2]; exact h)
    have f1 := hok1.2
    have f2 := hok2.2
    have hiv1 := hok1.1
    have hiv2 := hok2.1
    clear e1 e2 hd1 hd2 hok1 hok2
    have hpd := pn_eq_dec d1 d2
    obtain ⟨p1, l1, B1, e1⟩ := d1
    obtain ⟨p2, l2, B2, e2⟩ := d2
    unfold Pm.Fits at f1 f2
    dsimp only at x0 x1 y0 y1 hiv1 hiv2 ha1 ha2 ha3 ha4 hno hst f1 f2 hpd
    by_cases htm : p1 = p2
    ·subst htm
     have htb : (p1 != p1) = false := by simp
     by_cases hal : l1.length = l2.length
     ·have HNO := hid (fun m (h : (l1.map (·.e)).getD m default ≠ (l2.map (·.e)).getD m default) => hno (fun e => h (by injection e with _ e; rw [e])))
      have HST := hid (fun h => hst (by simpa [Pm.p] using lst_ext (l := l1.map (·.e)) (m := l2.map (·.e)) (by simpa using hal) h))
      have HI1 := hid (fun W (h : Below w.heap.size wr W) => hiv1.below h)
      have HI2 := hid (fun W (h : Below w.heap.size wr W) => hiv2.below h)
      have HXX := hid (fun W (h : Below w.heap.size wr W) => (h.cell (p := ⟨b1, o1 + k * 2 + 1, none⟩) hb1).trans x1)
      have HYY := hid (fun W (h : Below w.heap.size wr W) => (h.cell (p := ⟨b2, o2 + k * 2 + 1, none⟩) hb2).trans y1)
      have HAL := hid hal
      clear hno hst hiv1 hiv2 hpd
      rw [← hal] at ha3
      have hlen2 : l2.length = l1.length := hal.symm
      have hll : ((l1.length : Int) != (l1.length : Int)) = false := by simp
      rw [hlen2] at y1 HI2 HYY
      clear hal hlen2
      go_wp2_with fail
      go_quiet (fail)
      go_wp2_with fail
      clear x0 x1 y0 y1
      obtain ⟨wx, hwx⟩ : ∃ wx, wx = wr := ⟨_, rfl⟩
      subst hwx
      go_loopg [6] l1.length (fun gm i wr2 => ∃ m : Nat, m ≤ l1.length ∧ i = .int .i64 m ∧ Hid (l1.length - m = gm) ∧ Hid (∀ j, j < m → (l1.map (·.e)).getD j default = (l2.map (·.e)).getD j default) ∧ Hid (Below w.heap.size wx wr2))
      case atStart => exact ⟨0, Nat.zero_le _, rfl, hid rfl, hid (fun j h => absurd h (Nat.not_lt_zero _)), hid (drewN_low _ _ _)⟩
      case round =>
       obtain ⟨m, hm, rfl, HGM, HI, HB2⟩ := hrel
       have x1' := HXX.out _ HB2.out
       by_cases hml : m < l1.length
       ·obtain ⟨v1, hv1⟩ : ∃ x, l1[m]? = some x := ⟨_, List.getElem?_eq_getElem hml⟩
        obtain ⟨v2, hv2⟩ : ∃ x, l2[m]? = some x := ⟨_, List.getElem?_eq_getElem (by rw [← HAL.out]; exact hml)⟩
        obtain ⟨q1, r1, rfl, hq1, s0, s1, hk1, hl1, hl2⟩ := (HI1.out _ HB2.out).at hv1
        obtain ⟨q2, r2, rfl, hq2, t0, t1, hk2, hl3, hl4⟩ := (HI2.out _ HB2.out).at hv2
        have g1 := hk1.2
        have g2 := hk2.2
        unfold Em.Fits at g1 g2
        have z2 := (HBW.out.trans HB2.out).size
        have hall : ∀ W, Below w.heap.size wr W → W.cell? ⟨b1, o1 + k * 2 + 1, none⟩ = some (.slice (some ⟨q1, r1, none⟩) l1.length e1) ∧ W.cell? ⟨b2, o2 + k * 2 + 1, none⟩ = some (.slice (some ⟨q2, r2, none⟩) l1.length e2) ∧
          W.cell? ⟨q1, r1 + m * 2, none⟩ = some (.int .i64 v1.p) ∧ W.cell? ⟨q1, r1 + m * 2 + 1, none⟩ = some (.slice v1.A v1.args.length v1.c) ∧ W.cell? ⟨q2, r2 + m * 2, none⟩ = some (.int .i64 v2.p) ∧ W.cell? ⟨q2, r2 + m * 2 + 1, none⟩ = some (.slice v2.A v2.args.length v2.c) := fun W h =>
         ⟨HXX.out _ (HB2.out.trans h), HYY.out _ (HB2.out.trans h), (h.cell (p := ⟨q1, r1 + m * 2, none⟩) hq1).trans s0, (h.cell (p := ⟨q1, r1 + m * 2 + 1, none⟩) hq1).trans s1, (h.cell (p := ⟨q2, r2 + m * 2, none⟩) hq2).trans t0, (h.cell (p := ⟨q2, r2 + m * 2 + 1, none⟩) hq2).trans t1⟩
        have HALL := hid hall
        have HEV := hid (fun W (h : Below w.heap.size wr W) => revsame_any v1 v2 W ((hk1.below h).more (Nat.le_trans z2 h.size)) ((hk2.below h).more (Nat.le_trans z2 h.size)))
        have E1 := getD_of (at_ev hv1)
        have E2 := getD_of (at_ev hv2)
        have HE := hid (And.intro E1 E2)
        clear hall hk1 hk2 hv1 hv2 E1 E2
        by_cases hp : v1.e = v2.e
        ·have HJ2 := hid (step_lt (P := fun j => (l1.map (·.e)).getD j default = (l2.map (·.e)).getD j default) HI.out (by rw [HE.out.1, HE.out.2]; exact hp))
         rw [decide_eq_true hp] at HEV
         clear hp
         go_wp2_with fail
         go_region_held3 (fun W => W.cell? ⟨b1, o1 + k * 2 + 1, none⟩ = some (.slice (some ⟨q1, r1, none⟩) l1.length e1) ∧ W.cell? ⟨b2, o2 + k * 2 + 1, none⟩ = some (.slice (some ⟨q2, r2, none⟩) l1.length e2) ∧
          W.cell? ⟨q1, r1 + m * 2, none⟩ = some (.int .i64 v1.p) ∧ W.cell? ⟨q1, r1 + m * 2 + 1, none⟩ = some (.slice v1.A v1.args.length v1.c) ∧ W.cell? ⟨q2, r2 + m * 2, none⟩ = some (.int .i64 v2.p) ∧ W.cell? ⟨q2, r2 + m * 2 + 1, none⟩ = some (.slice v2.A v2.args.length v2.c))
          (first | exact HALL.out _ (Below.refl _ _) | exact HALL.out _ (Below.refl _ _).drew | exact HALL.out _ b7)
          (first | (go_at_call 56; (with_reducible refine (HEV.out _ (Below.refl _ _).drew).mono ?_); rintro e w7 ⟨rfl, hb7⟩; have b7 : Below w.heap.size wr w7 := (Below.refl _ _).drew.trans (hb7.mono z2)))
         have HB7 := hid (HB2.out.trans b7)
         clear b7 hb7 s0 s1 t0 t1 x1'
         go_wp2_with fail
         go_roundg (l1.length - (m + 1))
         case measure => have := HGM.out; omega
         case rel => exact ⟨m + 1, by omega, by go_num, hid rfl, HJ2, HB7⟩
        ·have HR := hid (HNO.out m (by rw [HE.out.1, HE.out.2]; exact hp))
         rw [decide_eq_false hp] at HEV
         clear hp
         go_wp2_with fail
         go_region_held3 (fun W => W.cell? ⟨b1, o1 + k * 2 + 1, none⟩ = some (.slice (some ⟨q1, r1, none⟩) l1.length e1) ∧ W.cell? ⟨b2, o2 + k * 2 + 1, none⟩ = some (.slice (some ⟨q2, r2, none⟩) l1.length e2) ∧
          W.cell? ⟨q1, r1 + m * 2, none⟩ = some (.int .i64 v1.p) ∧ W.cell? ⟨q1, r1 + m * 2 + 1, none⟩ = some (.slice v1.A v1.args.length v1.c) ∧ W.cell? ⟨q2, r2 + m * 2, none⟩ = some (.int .i64 v2.p) ∧ W.cell? ⟨q2, r2 + m * 2 + 1, none⟩ = some (.slice v2.A v2.args.length v2.c))
          (first | exact HALL.out _ (Below.refl _ _) | exact HALL.out _ (Below.refl _ _).drew | exact HALL.out _ b7)
          (first | (go_at_call 56; (with_reducible refine (HEV.out _ (Below.refl _ _).drew).mono ?_); rintro e w7 ⟨rfl, hb7⟩; have b7 : Below w.heap.size wr w7 := (Below.refl _ _).drew.trans (hb7.mono z2)))
         have HB7 := hid ((HBW.out.trans HB2.out).trans b7)
         clear b7 hb7 s0 s1 t0 t1 x1'
         go_wp2_with fail
         go_ret
         exact ⟨by rw [HR.out]; rfl, HB7.out⟩
       ·obtain rfl : m = l1.length := by omega
        have HJ2 := hid (HST.out (fun i hi => HI.out i (by rw [List.length_map] at hi; exact hi)))
        go_wp2_with fail
        go_roundg (N - (k + 1))
        case measure => have := HGK.out; omega
        case rel => exact ⟨k + 1, by omega, by go_num, hid rfl, HJ2, hid (HBW.out.trans HB2.out)⟩
     ·have hR := hno (fun h => hal (by injection h with _ h; have := congrArg List.length h; simpa using this))
      have hne : ((l1.length : Int) != (l2.length : Int)) = true := bne_iff_ne.2 (by omega)
      have HR := hid hR
      clear hno hst hR hiv1 hiv2 hpd
      go_wp2_with fail
      go_quiet (fail)
      go_wp2_with fail
      go_ret
      exact ⟨by rw [HR.out]; rfl, HBW.out.trans (drewN_low _ _ _)⟩
    ·have hR := hno (fun h => htm (by injection h))
     have hne : (p1 != p2) = true := bne_iff_ne.2 htm
     have HR := hid hR
     clear hno hst hR hiv1 hiv2 htm hpd
     go_wp2_with fail
     go_quiet (fail)
     go_wp2_with fail
     go_ret
     exact ⟨by rw [HR.out]; rfl, HBW.out.trans (drewN_low _ _ _)⟩
   ·obtain rfl : k = N := by omega
    have HR := hid (HY.out (fun i hi => HJ.out i (by rw [List.length_map, HN1.out] at hi; exact hi)))
    go_wp2_with fail
    go_ret
    exact ⟨by rw [HR.out]; rfl, HBW.out⟩
 ·have hlb : ((ds1.length : Int) != (ds2.length : Int)) = true := bne_iff_ne.2 (by omega)
  have hf : decide (ds1.map (·.p) = ds2.map (·.p)) = false := decide_eq_false (fun e => hl (by have := congrArg List.length e; simpa using this))
  rw [hf]
  clear hf hrow1 hrow2
  go_enter Tryz.func15, Tryz.ntmps15
  go_wp2_with fail
  go_ret
  exact ⟨rfl, Below.refl _ _⟩
open Go.RowKit Go.ChangeShapes Go.WideShapes
set_option linter.unusedVariables false
def flatJ : List (Int × Int) → List Value
 | [] => []
 | a :: l => .int .i64 a.1 :: .int .i64 a.2 :: flatJ l
abbrev GV (g : Gp) (SA : Option Addr) (Sc : Nat) (es : List Pd) (PA : Option Addr) (Pc : Nat) (ps : List Pm) (RA : Option Addr) (Rc : Nat) : Value :=
 .agg #[.slice SA es.length Sc, .slice PA ps.length Pc, .int .i64 g.sk, .int .i64 g.fr, .slice RA g.rej.length Rc, .bool g.isg]
structure GAt (W : World) (B : Nat) (g : Gp) (SA : Option Addr) (Sc : Nat) (es : List Pd) (PA : Option Addr) (Pc : Nat) (ps : List Pm) (RA : Option Addr) (Rc : Nat) : Prop where
 sig : PredRow W B (.slice SA es.length Sc) es
 sigp : es.map (·.p) = g.sig
 pts : TrRow W B (.slice PA ps.length Pc) ps
 ptsp : ps.map (·.p) = g.pts
 rej : ERow W B (.slice RA g.rej.length Rc) g.rej.length (flatJ g.rej)
section
variable {W W' : World} {B B' : Nat} {g : Gp} {SA : Option Addr} {Sc : Nat} {es : List Pd} {PA : Option Addr} {Pc : Nat} {ps : List Pm} {RA : Option Addr} {Rc : Nat}
theorem GAt.below (h : GAt W B g SA Sc es PA Pc ps RA Rc) (hb : Below B W W') : GAt W' B g SA Sc es PA Pc ps RA Rc := ⟨h.sig.below hb, h.sigp, h.pts.below hb, h.ptsp, h.rej.below hb⟩
theorem GAt.more (h : GAt W B g SA Sc es PA Pc ps RA Rc) (hB : B ≤ B') : GAt W B' g SA Sc es PA Pc ps RA Rc := ⟨h.sig.more hB, h.sigp, h.pts.more hB, h.ptsp, h.rej.more hB⟩
end
def GIn (S : Nat → Prop) (W : World) (g : Gp) (SA : Option Addr) (Sc : Nat) (es : List Pd) (PA : Option Addr) (Pc : Nat) (ps : List Pm) (RA : Option Addr) (Rc : Nat) : Prop := ∀ W', PartN S W W' → GAt W' W'.heap.size g SA Sc es PA Pc ps RA Rc
section
variable {S : Nat → Prop} {W W' : World} {g : Gp} {SA : Option Addr} {Sc : Nat} {es : List Pd} {PA : Option Addr} {Pc : Nat} {ps : List Pm} {RA : Option Addr} {Rc : Nat}
theorem GIn.here (h : GIn S W g SA Sc es PA Pc ps RA Rc) : GAt W W.heap.size g SA Sc es PA Pc ps RA Rc := h W (PartN.refl _ _)
theorem GIn.next (h : GIn S W g SA Sc es PA Pc ps RA Rc) (hp : PartN S W W') : GIn S W' g SA Sc es PA Pc ps RA Rc := fun W2 h2 => h W2 (hp.trans h2)
end
def GGot (S : Nat → Prop) (w : World) (r : Gp × Int) (e : Ending) (W' : World) : Prop :=
 ∃ SA Sc es PA Pc ps RA Rc, e = .returned (.tuple #[GV r.1 SA Sc es PA Pc ps RA Rc, .int .i64 r.2]) ∧ GIn S W' r.1 SA Sc es PA Pc ps RA Rc ∧ Below w.heap.size w W'
theorem ggot_kept {w W : World} {N : Nat} {S : Nat → Prop} {g : Gp} {SA : Option Addr} {Sc : Nat} {es : List Pd} {PA : Option Addr} {Pc : Nat} {ps : List Pm} {RA : Option Addr} {Rc : Nat} {r : Gp × Int} {k : Int} {e : Ending}
  (hg : GIn S w g SA Sc es PA Pc ps RA Rc) (h01 : ∀ j, N ≤ j → ¬ S j) (hN : w.heap.size = N) (hr : r = (g, k)) (he : e = .returned (.tuple #[GV g SA Sc es PA Pc ps RA Rc, .int .i64 k])) (hb : Below N w W) : GGot S w r e W := by
 subst hr hN
 exact ⟨SA, Sc, es, PA, Pc, ps, RA, Rc, he, hg.next (PartN.of_below hb), hb⟩
theorem getU_len {sig : List Pr} {xs : List Int} (h : (getU sig xs).2 = 0) : 0 < (getU sig xs).1.length ∧ (getU sig xs).1.length ≤ 1024 := by
 unfold getU at h ⊢
 by_cases h1 : checkP sig ≠ 0
 ·rw [if_pos h1] at h; exact absurd h h1
 ·rw [if_neg h1] at h ⊢
  by_cases h2 : endU sig xs (readU sig xs) ≠ 0
  ·rw [if_pos h2] at h; exact absurd h h2
  ·rw [if_neg h2] at h ⊢
   have h3 : endU sig xs (readU sig xs) = 0 := by simpa using h2
   unfold endU at h3
   by_cases e1 : (readU sig xs).2.2.2 ≠ 0
   ·rw [if_pos e1] at h3; exact absurd h3 e1
   ·rw [if_neg e1] at h3
    by_cases e2 : (readU sig xs).2.2.1 < xs.length
    ·rw [if_pos e2] at h3; omega
    ·rw [if_neg e2] at h3
     unfold wayU at h3
     by_cases e3 : 4096 < xs.length
     ·rw [if_pos e3] at h3; omega
     ·rw [if_neg e3] at h3
      by_cases e4 : putB sig ((readU sig xs).1.map bareP) = (xs, 0)
      ·have hq := checkB_zero (putB_ok (sig := sig) (l := (readU sig xs).1.map bareP) (by rw [e4])).1
       rw [List.length_map] at hq
       exact ⟨hq.1, hq.2.2⟩
      ·rw [if_neg e4] at h3; omega
theorem ggot_pts {w W : World} {N : Nat} {S : Nat → Prop} {g : Gp} {SA : Option Addr} {Sc : Nat} {es : List Pd} {PA : Option Addr} {Pc : Nat} {ps : List Pm} {RA : Option Addr} {Rc : Nat} {r : Gp × Int} {e : Ending} {L : List Pn} {A7 : Option Addr} {c7 n7 : Nat} {ps3 : List Pm} {a b c d f j v : Value} {cs ds : Array Value}
  (hg : GIn S w g SA Sc es PA Pc ps RA Rc) (h01 : ∀ j, N ≤ j → ¬ S j) (hN : w.heap.size = N) (hr : r = (⟨g.sig, g.isg, g.pts ++ L, g.sk, g.fr, g.rej⟩, 0)) (hps : ps3.map (·.p) = L) (ho : W.ownsRow (N + 1 + 1 + 1) 51 2 (.slice A7 n7 c7) n7 (flatN ps ++ flatN ps3)) (hn : n7 = ps.length + ps3.length)
  (hE : ∀ d ∈ ps3, OwnE W (N + 1 + 1 + 1) (.slice d.A d.evs.length d.c) d.evs ∧ d.Fits) (hb : Below N w W) (h0 : Held W N 66 ds) (h2 : Held W (N + 1 + 1) 66 cs)
  (he : e = .returned (.tuple #[.agg #[.slice SA es.length Sc, .slice A7 n7 c7, .int .i64 g.sk, .int .i64 g.fr, .slice RA g.rej.length Rc, .bool g.isg], .int .i64 0])) :
  GGot S w r e (((((((W.setCell ⟨N, 1, none⟩ v).setCell ⟨N + 1 + 1, 0, none⟩ a).setCell ⟨N + 1 + 1, 1, none⟩ b).setCell ⟨N + 1 + 1, 2, none⟩ c).setCell ⟨N + 1 + 1, 3, none⟩ d).setCell ⟨N + 1 + 1, 4, none⟩ f).setCell ⟨N + 1 + 1, 5, none⟩ j) := by
 subst hr hN hps hn
 have hlt := h2.lt
 have hb1 := hb.trans (below_put v (B := w.heap.size) (m := w.heap.size) (i := 1) (Nat.le_refl _))
 have h21 := h2.other_put (b := w.heap.size) (i := 1) (by omega) v
 have hb2 := hb1.grown (grown_put6 _ (w.heap.size + 1 + 1) a b c d f j) (by have := h21.lt; omega) (fun i e => by injection e with e; omega)
 have ho2 := own_put1 (own_put1 (own_put1 (own_put1 (own_put1 (own_put1 (own_put1 ho (m := w.heap.size) (i := 1) (u := v) (by omega)) (m := w.heap.size + 1 + 1) (i := 0) (u := a) (by omega)) (m := w.heap.size + 1 + 1) (i := 1) (u := b) (by omega)) (m := w.heap.size + 1 + 1) (i := 2) (u := c) (by omega)) (m := w.heap.size + 1 + 1) (i := 3) (u := d) (by omega)) (m := w.heap.size + 1 + 1) (i := 4) (u := f) (by omega)) (m := w.heap.size + 1 + 1) (i := 5) (u := j) (by omega)
 have hE2 : ∀ x ∈ ps3, OwnE (((((((W.setCell ⟨w.heap.size, 1, none⟩ v).setCell ⟨w.heap.size + 1 + 1, 0, none⟩ a).setCell ⟨w.heap.size + 1 + 1, 1, none⟩ b).setCell ⟨w.heap.size + 1 + 1, 2, none⟩ c).setCell ⟨w.heap.size + 1 + 1, 3, none⟩ d).setCell ⟨w.heap.size + 1 + 1, 4, none⟩ f).setCell ⟨w.heap.size + 1 + 1, 5, none⟩ j) (w.heap.size + 1 + 1 + 1) (.slice x.A x.evs.length x.c) x.evs ∧ x.Fits := fun x hx =>
  ⟨(((((((hE x hx).1.put (b := w.heap.size) (i := 1) (u := v) (by omega)).put (b := w.heap.size + 1 + 1) (i := 0) (u := a) (by omega)).put (b := w.heap.size + 1 + 1) (i := 1) (u := b) (by omega)).put (b := w.heap.size + 1 + 1) (i := 2) (u := c) (by omega)).put (b := w.heap.size + 1 + 1) (i := 3) (u := d) (by omega)).put (b := w.heap.size + 1 + 1) (i := 4) (u := f) (by omega)).put (b := w.heap.size + 1 + 1) (i := 5) (u := j) (by omega), (hE x hx).2⟩
 refine ⟨SA, Sc, es, A7, c7, ps ++ ps3, RA, Rc, by rw [he]; simp only [GV, List.length_append], fun W' hp => ?_, hb2⟩
 have hg2 := hg W' ((PartN.of_below hb2).trans hp)
 refine ⟨hg2.sig, hg2.sigp, ⟨?_, fun x hx => ?_⟩, by rw [List.map_append, hg2.ptsp], hg2.rej⟩
 ·rw [List.length_append, flatN_append]
  exact ERow.of_own (own_part ho2 hp (fun j hj => h01 j (by omega)))
 ·rcases List.mem_append.1 hx with hx | hx
  ·exact hg2.pts.2 x hx
  ·exact ⟨((hE2 x hx).1.part hp (fun j hj => h01 j (by omega))).row, (hE2 x hx).2⟩
theorem late_at {l m : List Pm} {L M : List Pn} (hl : l.map (·.p) = L) (hm : m.map (·.p) = M) {k : Nat} (hk : l.length - 1 = k) {d e : Pm} (hd : l[k]? = some d) (he : m[0]? = some e) : lateG L M = decide (e.tm < d.tm) := by
 have hkl := (List.getElem?_eq_some_iff.1 hd).1
 subst hl hm hk
 unfold lateG
 rw [List.length_map, decide_eq_true (show 0 < l.length by omega), Bool.true_and]
 simp only [List.getD, List.getElem?_map, hd, he, Option.map_some, Option.getD_some]
theorem pts_one {w w4 w6 : World} {N : Nat} {A3 : Option Addr} {c3 : Nat} {ps3 : List Pm} {cs ds : Array Value} {o : Obj}
  (hA : Held (w4.alloc o) N 66 cs ∧ Held (w4.alloc o) (N + 1 + 1) 66 ds ∧ Below N w (w4.alloc o) ∧ OwnT (w4.alloc o) (N + 1 + 1 + 1) (.slice A3 ps3.length c3) ps3)
  (ho : (w4.alloc o).ownsRow (N + 1 + 1 + 1) 51 2 (.slice (some ⟨w4.heap.size, 0, none⟩) 0 0) 0 []) (hob : ∀ i, (Value.slice A3 ps3.length c3).ownBlock = some i → i < w4.heap.size) (hg : (w4.alloc o).grownBy w6 (Value.slice (some ⟨w4.heap.size, 0, none⟩) 0 0).ownBlock) (hN : N + 1 + 1 + 1 ≤ w4.heap.size) :
  Held w6 N 66 cs ∧ Held w6 (N + 1 + 1) 66 ds ∧ Below N w w6 ∧ w6.ownsRow (N + 1 + 1 + 1) 51 2 (.slice A3 ps3.length c3) ps3.length (flatN ps3) ∧ ∀ d ∈ ps3, OwnE w6 (N + 1 + 1 + 1) (.slice d.A d.evs.length d.c) d.evs ∧ d.Fits := by
 obtain ⟨h0, h2, hb, ht⟩ := hA
 have e1 : 97 ≠ 51 := by decide
 have e2 : 100 ≠ 51 := by decide
 have hne : ∀ j, j < w4.heap.size → some j ≠ (Value.slice (some ⟨w4.heap.size, 0, none⟩) 0 0).ownBlock := fun j hj e => by simp [Value.ownBlock] at e; omega
 refine ⟨h0.grown hg (hne _ (by omega)), h2.grown hg (hne _ (by omega)), hb.grown hg (by rw [World.size_alloc]; omega) (fun j e => by simp [Value.ownBlock] at e; omega), World.ownsRow.kept ht.1 hg (.inr (fun e => ?_)), fun d hd => ⟨(ht.2 d hd).1.grown ho e1 e2 hg, (ht.2 d hd).2⟩⟩
 have := hob w4.heap.size (e.trans (by simp [Value.ownBlock]))
 omega
theorem pts_two {w w6 w7 : World} {N n6 : Nat} {A3 A6 : Option Addr} {c3 c6 : Nat} {ps3 : List Pm} {us : List Value} {cs ds : Array Value}
  (h6 : Held w6 N 66 cs ∧ Held w6 (N + 1 + 1) 66 ds ∧ Below N w w6 ∧ w6.ownsRow (N + 1 + 1 + 1) 51 2 (.slice A3 ps3.length c3) ps3.length (flatN ps3) ∧ ∀ d ∈ ps3, OwnE w6 (N + 1 + 1 + 1) (.slice d.A d.evs.length d.c) d.evs ∧ d.Fits)
  (ho : w6.ownsRow (N + 1 + 1 + 1) 51 2 (.slice A6 n6 c6) n6 us) (hg : w6.grownBy w7 (Value.slice A6 n6 c6).ownBlock) (hN : N + 1 + 1 + 1 ≤ w6.heap.size) :
  Held w7 N 66 cs ∧ Held w7 (N + 1 + 1) 66 ds ∧ Below N w w7 ∧ ∀ d ∈ ps3, OwnE w7 (N + 1 + 1 + 1) (.slice d.A d.evs.length d.c) d.evs ∧ d.Fits := by
 obtain ⟨h0, h2, hb, ht, hE⟩ := h6
 have e1 : 97 ≠ 51 := by decide
 have e2 : 100 ≠ 51 := by decide
 have hlt := World.ownsRow.lt ho
 exact ⟨h0.grown hg (fun e => by have := (hlt _ e.symm).1; omega), h2.grown hg (fun e => by have := (hlt _ e.symm).1; omega), hb.grown hg (by omega) (fun j e => by have := (hlt j e).1; omega), fun d hd => ⟨(hE d hd).1.grown ho e1 e2 hg, (hE d hd).2⟩⟩
theorem OwnP.row {w : World} {n : Nat} {A : Option Addr} {c : Nat} {es : List Pd} (h : OwnP w n (.slice A es.length c) es) : PredRow w w.heap.size (.slice A es.length c) es := h.fresh.1
theorem ggot_sig {w W : World} {N : Nat} {S : Nat → Prop} {g : Gp} {SA : Option Addr} {Sc : Nat} {es : List Pd} {PA : Option Addr} {Pc : Nat} {ps : List Pm} {RA : Option Addr} {Rc : Nat} {r : Gp × Int} {e : Ending} {L : List Pr} {A3 : Option Addr} {c3 : Nat} {es3 : List Pd} {a b c d f j : Value} {cs : Array Value}
  (hg : GIn S w g SA Sc es PA Pc ps RA Rc) (h01 : ∀ j, N ≤ j → ¬ S j) (hN : w.heap.size = N) (hr : r = (⟨L, true, g.pts, g.sk, g.fr, g.rej⟩, 0)) (hes : es3.map (·.p) = L) (ho : OwnP W (N + 1 + 1 + 1) (.slice A3 es3.length c3) es3) (hb : Below N w W) (h2 : Held W (N + 1 + 1) 66 cs)
  (he : e = .returned (.tuple #[.agg #[.slice A3 es3.length c3, .slice PA ps.length Pc, .int .i64 g.sk, .int .i64 g.fr, .slice RA g.rej.length Rc, .bool true], .int .i64 0])) :
  GGot S w r e ((((((W.setCell ⟨N + 1 + 1, 0, none⟩ a).setCell ⟨N + 1 + 1, 1, none⟩ b).setCell ⟨N + 1 + 1, 2, none⟩ c).setCell ⟨N + 1 + 1, 3, none⟩ d).setCell ⟨N + 1 + 1, 4, none⟩ f).setCell ⟨N + 1 + 1, 5, none⟩ j) := by
 subst hr hN hes
 have hlt := h2.lt
 have hb2 := hb.grown (grown_put6 W (w.heap.size + 1 + 1) a b c d f j) (by omega) (fun i e => by injection e with e; omega)
 have ho2 := (((((ho.put (m := w.heap.size + 1 + 1) (i := 0) (u := a) (by omega)).put (m := w.heap.size + 1 + 1) (i := 1) (u := b) (by omega)).put (m := w.heap.size + 1 + 1) (i := 2) (u := c) (by omega)).put (m := w.heap.size + 1 + 1) (i := 3) (u := d) (by omega)).put (m := w.heap.size + 1 + 1) (i := 4) (u := f) (by omega)).put (m := w.heap.size + 1 + 1) (i := 5) (u := j) (by omega)
 refine ⟨A3, c3, es3, PA, Pc, ps, RA, Rc, he, fun W' hp => ?_, hb2⟩
 have hg2 := hg W' ((PartN.of_below hb2).trans hp)
 exact ⟨(ho2.part hp (fun j hj => h01 j (by omega))).row, rfl, hg2.pts, hg2.ptsp, hg2.rej⟩
section
variable {w : World} {R : Nat} {a b c d e f x : Value} {T : Array Value}
theorem res_gframe (h : T[4]?.getD undef = .pointer (some ⟨R, 0, none⟩)) (h5 : T[5]?.getD undef = x) (hz : Held w R 66 #[a, b, c, d, e, f]) :
  (results Tryz.f84 T).run Tryz.prog w = .ok (.tuple #[.agg #[a, b, c, d, e, f], x]) w := by
 obtain ⟨z0, z1, z2, z3, z4, z5⟩ := cC6 hz
 simp at z0 z1 z2 z3 z4 z5
 simp [results, Tryz.results84, go_sem, h, h5, z0, z1, z2, z3, z4, z5]
end
section
variable (g : Gp) (SA : Option Addr) (Sc : Nat) (es : List Pd) (PA : Option Addr) (Pc : Nat) (ps : List Pm) (RA : Option Addr) (Rc : Nat) (k : Int) (FA : Option Addr) (fc : Nat) (p : List Int) (w : World) (S : Nat → Prop)
theorem rgframe_any (hgx : GIn S w g SA Sc es PA Pc ps RA Rc) (h01 : ∀ j, w.heap.size ≤ j → ¬ S j) (hp : Row w w.heap.size (.slice FA p.length fc) p) (hb : ∀ x ∈ p, 0 ≤ x ∧ x < 256) (hl : p.length ≤ 1000000) (hn : ps.length ≤ 1000000000) :
  Calls Tryz.prog 84 #[GV g SA Sc es PA Pc ps RA Rc, .agg #[.int .i64 k, .slice FA p.length fc]] w (GGot S w (frameG g k p)) := by
 have hg := hgx.here
 have HGX := hid hgx
 clear hgx
 obtain ⟨N, hN⟩ : ∃ N, w.heap.size = N := ⟨_, rfl⟩
 obtain ⟨u0, hu0⟩ : ∃ u, w.alloc (.cells #[.slice SA es.length Sc, .slice PA ps.length Pc, .int .i64 g.sk, .int .i64 g.fr, .slice RA g.rej.length Rc, .bool g.isg] 66) = u := ⟨_, rfl⟩
 have s0 : u0.heap.size = N + 1 := by rw [← hu0, World.size_alloc, hN]
 have b0 : Below N w u0 := by rw [← hu0]; exact (Below.refl _ _).alloc (by omega) _
 have h0 : Held u0 N 66 #[.slice SA es.length Sc, .slice PA ps.length Pc, .int .i64 g.sk, .int .i64 g.fr, .slice RA g.rej.length Rc, .bool g.isg] := by rw [← hu0, ← hN]; exact heap_alloc_new w _
 obtain ⟨u1, hu1⟩ : ∃ u, u0.alloc (.cells #[.int .i64 k, .slice FA p.length fc] 78) = u := ⟨_, rfl⟩
 have s1 : u1.heap.size = N + 1 + 1 := by rw [← hu1, World.size_alloc, s0]
 have b1 : Below (N + 1) u0 u1 := by rw [← hu1]; exact (Below.refl _ _).alloc (by omega) _
 have h1 : Held u1 (N + 1) 78 #[.int .i64 k, .slice FA p.length fc] := by rw [← hu1, ← s0]; exact heap_alloc_new u0 _
 obtain ⟨u2, hu2⟩ : ∃ u, u1.alloc (.cells #[.slice none 0 0, .slice none 0 0, .int .i64 0, .int .i64 0, .slice none 0 0, .bool false] 66) = u := ⟨_, rfl⟩
 have s2 : u2.heap.size = N + 1 + 1 + 1 := by rw [← hu2, World.size_alloc, s1]
 have b2 : Below (N + 1 + 1) u1 u2 := by rw [← hu2]; exact (Below.refl _ _).alloc (by omega) _
 have h2 : Held u2 (N + 1 + 1) 66 #[.slice none 0 0, .slice none 0 0, .int .i64 0, .int .i64 0, .slice none 0 0, .bool false] := by rw [← hu2, ← s1]; exact heap_alloc_new u1 _
 have k0 := (h0.below b1 (by omega)).below b2 (by omega)
 have k1 := h1.below b2 (by omega)
 have hbb : Below N w u2 := (b0.trans (b1.mono (by omega))).trans (b2.mono (by omega))
 have HK := hid (And.intro k0 (And.intro k1 (And.intro h2 hbb)))
 rw [hN] at hg hp h01
 have hg2 := hg.below hbb
 have hp2 := hp.below hbb
 have hcv := hp2.convert (P := Tryz.prog) 23 5 9 Tryz.underlying23 Tryz.underlying5 Tryz.underlying9
 obtain ⟨x0, x1, x2, x3, x4, x5⟩ := cC6 k0
 obtain ⟨⟨f0, f1, f2, f3, f4, f5⟩, z0, z1, z2, z3, z4, z5⟩ := cG6 h2
 obtain ⟨y0, y1⟩ := cC2 k1
 simp at x0 x1 x2 x3 x4 x5 z0 z1 z2 z3 z4 z5 y0 y1
 have HG := hid hg
 have HG2 := hid hg2
 have HN := hid hN
 obtain ⟨-, hsc1, hsc2⟩ := hg.pts.1.len
 clear b0 h0 b1 h1 b2 h2 k0 k1
 by_cases hk1 : k = 1
 ·subst hk1
  have hget := rsget_any p hb hl u2
  have HGT := hid hget
  have hfr1 : frameG g 1 p = if (getSig p).2 ≠ 0 then (g, (getSig p).2) else if g.isg = true ∧ (getSig p).1 ≠ g.sig then (g, 7) else (⟨(getSig p).1, true, g.pts, g.sk, g.fr, g.rej⟩, 0) := by unfold frameG; rw [if_pos rfl]
  rw [hfr1]
  generalize getSig p = Q at HGT ⊢
  clear hg hp hb hl hbb hg2 hp2 hget hfr1
  by_cases hE : Q.2 = 0
  ·rw [if_neg (fun h => h hE)]
   have HE := hid hE
   obtain ⟨RR, hRR⟩ : ∃ RR : Gp × Int, (if g.isg = true ∧ Q.1 ≠ g.sig then (g, (7 : Int)) else (⟨Q.1, true, g.pts, g.sk, g.fr, g.rej⟩, 0)) = RR := ⟨_, rfl⟩
   rw [hRR]
   by_cases hs : g.isg = true
   ·by_cases hq : Q.1 = g.sig
    ·have HFR := hid (show RR = ((⟨Q.1, true, g.pts, g.sk, g.fr, g.rej⟩ : Gp), (0 : Int)) from by rw [← hRR, if_neg (fun h => h.2 hq)])
     have HSE := hid hq
     have HS := hid hs
     clear hE hq hRR hs
     go_enter Tryz.func84, Tryz.ntmps84
     go_wp2_with fail
     refine HGT.out.mono ?_
     rintro e w3 ⟨⟨A3, c3, es3, rfl, hown3, hes3⟩, hb3⟩
     rw [HE.out]
     have HSM := hid (rsigsame_any A3 c3 es3 SA Sc es w3 hown3.row (((HG2.out.below (hb3.mono (by omega))).sig).more (by have := hb3.size; omega)))
     rw [hes3, HG.out.sigp, decide_eq_true HSE.out] at HSM
     have HES := hid hes3
     have HOW := hid hown3
     have q0_3 := HK.out.1.below hb3 HK.out.1.lt
     have q1_3 := HK.out.2.1.below hb3 HK.out.2.1.lt
     have q2_3 := HK.out.2.2.1.below hb3 HK.out.2.2.1.lt
     have qb_3 := HK.out.2.2.2.trans (hb3.mono (by omega))
     clear x0 x1 x2 x3 x4 x5 z0 z1 z2 z3 z4 z5 f0 f1 f2 f3 f4 f5 y0 y1
     obtain ⟨x0, x1, x2, x3, x4, x5⟩ := cC6 q0_3
     obtain ⟨⟨f0, f1, f2, f3, f4, f5⟩, z0, z1, z2, z3, z4, z5⟩ := cG6 q2_3
     obtain ⟨y0, y1⟩ := cC2 q1_3
     simp at x0 x1 x2 x3 x4 x5 z0 z1 z2 z3 z4 z5 y0 y1
     have HQ := hid (And.intro q0_3 (And.intro q2_3 qb_3))
     clear q0_3 q1_3 q2_3 qb_3
     have HB3 := hid hb3
     clear hown3 hes3 hb3
     rw [HS.out] at x5
     go_wp2_with fail
     refine HSM.out.mono ?_
     rintro e w4 ⟨rfl, hb4⟩
     have hb34 := HB3.out.trans (hb4.mono HB3.out.size)
     have HOP := hid ((HOW.out.below hb4).base (m := N + 1 + 1 + 1) (by omega))
     have q0_4 := HK.out.1.below hb34 HK.out.1.lt
     have q1_4 := HK.out.2.1.below hb34 HK.out.2.1.lt
     have q2_4 := HK.out.2.2.1.below hb34 HK.out.2.2.1.lt
     have qb_4 := HK.out.2.2.2.trans (hb34.mono (by omega))
     clear x0 x1 x2 x3 x4 x5 z0 z1 z2 z3 z4 z5 f0 f1 f2 f3 f4 f5 y0 y1
     obtain ⟨x0, x1, x2, x3, x4, x5⟩ := cC6 q0_4
     obtain ⟨⟨f0, f1, f2, f3, f4, f5⟩, z0, z1, z2, z3, z4, z5⟩ := cG6 q2_4
     obtain ⟨y0, y1⟩ := cC2 q1_4
     simp at x0 x1 x2 x3 x4 x5 z0 z1 z2 z3 z4 z5 y0 y1
     have HQ := hid (And.intro q0_4 (And.intro q2_4 qb_4))
     clear q0_4 q1_4 q2_4 qb_4
     clear hb4 hb34
     have r0 := (HQ.out.1.put 0 (.slice A3 es3.length c3)).put 5 (.bool true)
     have r2 := (HQ.out.2.1.other_put (b := N) (i := 0) (by omega) (.slice A3 es3.length c3)).other_put (b := N) (i := 5) (by omega) (.bool true)
     have g0 := HQ.out.1.frozen 0
     have g5 := (HQ.out.1.put 0 (.slice A3 es3.length c3)).frozen 5
     have v5 := (HQ.out.1.put 0 (.slice A3 es3.length c3)).cell 5
     simp at r0 v5
     obtain ⟨a0, a1, a2, a3, a4, a5⟩ := cC6 r0
     obtain ⟨⟨l0, l1, l2, l3, l4, l5⟩, d0, d1, d2, d3, d4, d5⟩ := cG6 r2
     simp at a0 a1 a2 a3 a4 a5 d0 d1 d2 d3 d4 d5
     have HR2 := hid r2
     have HOP2 := hid ((HOP.out.put (m := N) (i := 0) (u := (.slice A3 es3.length c3)) (by omega)).put (m := N) (i := 5) (u := .bool true) (by omega))
     have HBX := hid (((HQ.out.2.2.trans (below_put (.slice A3 es3.length c3) (B := N) (m := N) (i := 0) (Nat.le_refl _))).trans (below_put (.bool true) (B := N) (m := N) (i := 5) (Nat.le_refl _))))
     clear r0 r2
     go_wp2_with fail
     refine bodyPost_ret (v := .tuple #[.agg #[.slice A3 es3.length c3, .slice PA ps.length Pc, .int .i64 g.sk, .int .i64 g.fr, .slice RA g.rej.length Rc, .bool true], .int .i64 0]) ?_ rfl ?_
     ·exact res_gframe (R := N + 1 + 1) (by simp only [pV]) (by simp only [pV]) (held_put6 HR2.out _ _ _ _ _ _)
     ·exact ggot_sig HGX.out h01 HN.out HFR.out HES.out HOP2.out HBX.out HR2.out rfl
    ·have hr : RR = (g, 7) := by rw [← hRR, if_pos ⟨hs, hq⟩]
     rw [hr]
     have HSE := hid hq
     have HS := hid hs
     clear hE hq hRR hr hs
     go_enter Tryz.func84, Tryz.ntmps84
     go_wp2_with fail
     refine HGT.out.mono ?_
     rintro e w3 ⟨⟨A3, c3, es3, rfl, hown3, hes3⟩, hb3⟩
     rw [HE.out]
     have HSM := hid (rsigsame_any A3 c3 es3 SA Sc es w3 hown3.row (((HG2.out.below (hb3.mono (by omega))).sig).more (by have := hb3.size; omega)))
     rw [hes3, HG.out.sigp, decide_eq_false HSE.out] at HSM
     have q0_3 := HK.out.1.below hb3 HK.out.1.lt
     have q1_3 := HK.out.2.1.below hb3 HK.out.2.1.lt
     have q2_3 := HK.out.2.2.1.below hb3 HK.out.2.2.1.lt
     have qb_3 := HK.out.2.2.2.trans (hb3.mono (by omega))
     clear x0 x1 x2 x3 x4 x5 z0 z1 z2 z3 z4 z5 f0 f1 f2 f3 f4 f5 y0 y1
     obtain ⟨x0, x1, x2, x3, x4, x5⟩ := cC6 q0_3
     obtain ⟨⟨f0, f1, f2, f3, f4, f5⟩, z0, z1, z2, z3, z4, z5⟩ := cG6 q2_3
     obtain ⟨y0, y1⟩ := cC2 q1_3
     simp at x0 x1 x2 x3 x4 x5 z0 z1 z2 z3 z4 z5 y0 y1
     have HQ := hid (And.intro q0_3 (And.intro q2_3 qb_3))
     clear q0_3 q1_3 q2_3 qb_3
     have HB3 := hid hb3
     clear hown3 hes3 hb3
     rw [HS.out] at x5
     go_wp2_with fail
     refine HSM.out.mono ?_
     rintro e w4 ⟨rfl, hb4⟩
     have hb34 := HB3.out.trans (hb4.mono HB3.out.size)
     have q0_4 := HK.out.1.below hb34 HK.out.1.lt
     have q1_4 := HK.out.2.1.below hb34 HK.out.2.1.lt
     have q2_4 := HK.out.2.2.1.below hb34 HK.out.2.2.1.lt
     have qb_4 := HK.out.2.2.2.trans (hb34.mono (by omega))
     clear x0 x1 x2 x3 x4 x5 z0 z1 z2 z3 z4 z5 f0 f1 f2 f3 f4 f5 y0 y1
     obtain ⟨x0, x1, x2, x3, x4, x5⟩ := cC6 q0_4
     obtain ⟨⟨f0, f1, f2, f3, f4, f5⟩, z0, z1, z2, z3, z4, z5⟩ := cG6 q2_4
     obtain ⟨y0, y1⟩ := cC2 q1_4
     simp at x0 x1 x2 x3 x4 x5 z0 z1 z2 z3 z4 z5 y0 y1
     have HQ := hid (And.intro q0_4 (And.intro q2_4 qb_4))
     clear q0_4 q1_4 q2_4 qb_4
     clear hb4 hb34
     go_wp2_with fail
     refine bodyPost_ret (v := .tuple #[GV g SA Sc es PA Pc ps RA Rc, .int .i64 7]) ?_ rfl ?_
     ·exact res_gframe (R := N + 1 + 1) (by simp only [pV]) (by simp only [pV]) (held_put6 HQ.out.2.1 _ _ _ _ _ _)
     ·exact ggot_kept HGX.out h01 HN.out rfl rfl (HQ.out.2.2.grown (grown_put6 w4 (N + 1 + 1) _ _ _ _ _ _) (by have := HQ.out.2.1.lt; omega) (fun j e => by injection e with e; omega))
   ·have hs2 : g.isg = false := by simpa using hs
    have HFR := hid (show RR = ((⟨Q.1, true, g.pts, g.sk, g.fr, g.rej⟩ : Gp), (0 : Int)) from by rw [← hRR, if_neg (fun h => hs h.1)])
    have HS2 := hid hs2
    clear hE hRR hs hs2
    go_enter Tryz.func84, Tryz.ntmps84
    go_wp2_with fail
    refine HGT.out.mono ?_
    rintro e w3 ⟨⟨A3, c3, es3, rfl, hown3, hes3⟩, hb3⟩
    rw [HE.out]
    have HES := hid hes3
    have HOP := hid (hown3.base (m := N + 1 + 1 + 1) (by omega))
    have q0_3 := HK.out.1.below hb3 HK.out.1.lt
    have q1_3 := HK.out.2.1.below hb3 HK.out.2.1.lt
    have q2_3 := HK.out.2.2.1.below hb3 HK.out.2.2.1.lt
    have qb_3 := HK.out.2.2.2.trans (hb3.mono (by omega))
    clear x0 x1 x2 x3 x4 x5 z0 z1 z2 z3 z4 z5 f0 f1 f2 f3 f4 f5 y0 y1
    obtain ⟨x0, x1, x2, x3, x4, x5⟩ := cC6 q0_3
    obtain ⟨⟨f0, f1, f2, f3, f4, f5⟩, z0, z1, z2, z3, z4, z5⟩ := cG6 q2_3
    obtain ⟨y0, y1⟩ := cC2 q1_3
    simp at x0 x1 x2 x3 x4 x5 z0 z1 z2 z3 z4 z5 y0 y1
    have HQ := hid (And.intro q0_3 (And.intro q2_3 qb_3))
    clear q0_3 q1_3 q2_3 qb_3
    clear hown3 hes3 hb3
    rw [HS2.out] at x5
    have r0 := (HQ.out.1.put 0 (.slice A3 es3.length c3)).put 5 (.bool true)
    have r2 := (HQ.out.2.1.other_put (b := N) (i := 0) (by omega) (.slice A3 es3.length c3)).other_put (b := N) (i := 5) (by omega) (.bool true)
    have g0 := HQ.out.1.frozen 0
    have g5 := (HQ.out.1.put 0 (.slice A3 es3.length c3)).frozen 5
    have v5 := (HQ.out.1.put 0 (.slice A3 es3.length c3)).cell 5
    simp at r0 v5
    obtain ⟨a0, a1, a2, a3, a4, a5⟩ := cC6 r0
    obtain ⟨⟨l0, l1, l2, l3, l4, l5⟩, d0, d1, d2, d3, d4, d5⟩ := cG6 r2
    simp at a0 a1 a2 a3 a4 a5 d0 d1 d2 d3 d4 d5
    have HR2 := hid r2
    have HOP2 := hid ((HOP.out.put (m := N) (i := 0) (u := (.slice A3 es3.length c3)) (by omega)).put (m := N) (i := 5) (u := .bool true) (by omega))
    have HBX := hid (((HQ.out.2.2.trans (below_put (.slice A3 es3.length c3) (B := N) (m := N) (i := 0) (Nat.le_refl _))).trans (below_put (.bool true) (B := N) (m := N) (i := 5) (Nat.le_refl _))))
    clear r0 r2
    go_wp2_with fail
    refine bodyPost_ret (v := .tuple #[.agg #[.slice A3 es3.length c3, .slice PA ps.length Pc, .int .i64 g.sk, .int .i64 g.fr, .slice RA g.rej.length Rc, .bool true], .int .i64 0]) ?_ rfl ?_
    ·exact res_gframe (R := N + 1 + 1) (by simp only [pV]) (by simp only [pV]) (held_put6 HR2.out _ _ _ _ _ _)
    ·exact ggot_sig HGX.out h01 HN.out HFR.out HES.out HOP2.out HBX.out HR2.out rfl
  ·have hr : (if Q.2 ≠ 0 then (g, Q.2) else if g.isg = true ∧ Q.1 ≠ g.sig then (g, 7) else (⟨Q.1, true, g.pts, g.sk, g.fr, g.rej⟩, 0)) = (g, Q.2) := if_pos hE
   rw [hr]
   have hne : (Q.2 != 0) = true := bne_iff_ne.2 hE
   clear hE hr
   go_enter Tryz.func84, Tryz.ntmps84
   go_wp2_with fail
   refine HGT.out.mono ?_
   rintro e w3 ⟨⟨A3, c3, es3, rfl, hown3, hes3⟩, hb3⟩
   have q0_3 := HK.out.1.below hb3 HK.out.1.lt
   have q1_3 := HK.out.2.1.below hb3 HK.out.2.1.lt
   have q2_3 := HK.out.2.2.1.below hb3 HK.out.2.2.1.lt
   have qb_3 := HK.out.2.2.2.trans (hb3.mono (by omega))
   clear x0 x1 x2 x3 x4 x5 z0 z1 z2 z3 z4 z5 f0 f1 f2 f3 f4 f5 y0 y1
   obtain ⟨x0, x1, x2, x3, x4, x5⟩ := cC6 q0_3
   obtain ⟨⟨f0, f1, f2, f3, f4, f5⟩, z0, z1, z2, z3, z4, z5⟩ := cG6 q2_3
   obtain ⟨y0, y1⟩ := cC2 q1_3
   simp at x0 x1 x2 x3 x4 x5 z0 z1 z2 z3 z4 z5 y0 y1
   have HQ := hid (And.intro q0_3 (And.intro q2_3 qb_3))
   clear q0_3 q1_3 q2_3 qb_3
   clear hown3 hes3 hb3
   go_wp2_with fail
   refine bodyPost_ret (v := .tuple #[GV g SA Sc es PA Pc ps RA Rc, .int .i64 Q.2]) ?_ rfl ?_
   ·exact res_gframe (R := N + 1 + 1) (by simp only [pV]) (by simp only [pV]) (held_put6 HQ.out.2.1 _ _ _ _ _ _)
   ·exact ggot_kept HGX.out h01 HN.out rfl rfl (HQ.out.2.2.grown (grown_put6 w3 (N + 1 + 1) _ _ _ _ _ _) (by have := HQ.out.2.1.lt; omega) (fun j e => by injection e with e; omega))
 ·have hk1b : (k == 1) = false := beq_eq_false_iff_ne.2 hk1
  by_cases hk2 : k = 2
  ·subst hk2
   have hget := rget15_any SA Sc es p hb hl u2 (hg2.sig.more (by omega))
   rw [hg.sigp] at hget
   have hfr1 : frameG g 2 p = if g.isg = false then (g, 10) else if (getU g.sig p).2 ≠ 0 then (g, (getU g.sig p).2) else if lateG g.pts (getU g.sig p).1 = true then (g, 8) else (⟨g.sig, g.isg, g.pts ++ (getU g.sig p).1, g.sk, g.fr, g.rej⟩, 0) := by unfold frameG; rw [if_neg (by decide), if_neg (fun h => h rfl)]
   have hlen := @getU_len g.sig p
   rw [hfr1]
   generalize getU g.sig p = Q at hget hlen ⊢
   have HGT := hid hget
   have HLEN := hid hlen
   clear hg hp hb hl hbb hg2 hp2 hget hfr1 hlen
   by_cases hs : g.isg = false
   ·rw [if_pos hs]
    rw [hs] at x5
    have HS := hid hs
    clear hs hcv
    go_enter Tryz.func84, Tryz.ntmps84
    go_wp2_with fail
    refine bodyPost_ret (v := .tuple #[.agg #[.slice SA es.length Sc, .slice PA ps.length Pc, .int .i64 g.sk, .int .i64 g.fr, .slice RA g.rej.length Rc, .bool false], .int .i64 10]) ?_ rfl ?_
    ·exact res_gframe (R := N + 1 + 1) (by simp only [pV]) (by simp only [pV]) (held_put6 HK.out.2.2.1 _ _ _ _ _ _)
    ·exact ggot_kept HGX.out h01 HN.out rfl (by simp only [GV, HS.out]) (HK.out.2.2.2.grown (grown_put6 u2 (N + 1 + 1) _ _ _ _ _ _) (by have := HK.out.2.2.1.lt; omega) (fun j e => by injection e with e; omega))
   ·rw [if_neg hs]
    have hs2 : g.isg = true := by simpa using hs
    rw [hs2] at x5
    have HS := hid hs2
    clear hs hs2
    by_cases hE : Q.2 = 0
    ·rw [if_neg (fun h => h hE)]
     obtain ⟨RR, hRR⟩ : ∃ RR : Gp × Int, (if lateG g.pts Q.1 = true then (g, (8 : Int)) else (⟨g.sig, g.isg, g.pts ++ Q.1, g.sk, g.fr, g.rej⟩, 0)) = RR := ⟨_, rfl⟩
     rw [hRR]
     have HRR := hid hRR
     have HE := hid hE
     obtain ⟨iP, hiP, hpz, hps, hpb⟩ := info_parts Tryz.infoPoint
     clear hE hRR
     go_enter Tryz.func84, Tryz.ntmps84
     go_wp2_with fail
     refine HGT.out.mono ?_
     rintro e w3 ⟨A3, c3, ps3, rfl, ht3, hown3, hps3, hb3⟩
     rw [HE.out]
     have hl3 := HLEN.out HE.out
     rw [← hps3, List.length_map] at hl3
     have HOW := hid (show OwnT w3 (N + 1 + 1 + 1) (.slice A3 ps3.length c3) ps3 from ⟨own_base (hown3 hl3.1).1 (by omega), fun d hd => ⟨((hown3 hl3.1).2 d hd).1.base (by omega), ((hown3 hl3.1).2 d hd).2⟩⟩)
     have HPS := hid hps3
     have z3 := hb3.size
     have q0_3 := HK.out.1.below hb3 HK.out.1.lt
     have q1_3 := HK.out.2.1.below hb3 HK.out.2.1.lt
     have q2_3 := HK.out.2.2.1.below hb3 HK.out.2.2.1.lt
     have qb_3 := HK.out.2.2.2.trans (hb3.mono (by omega))
     clear x0 x1 x2 x3 x4 x5 z0 z1 z2 z3 z4 z5 f0 f1 f2 f3 f4 f5 y0 y1
     obtain ⟨x0, x1, x2, x3, x4, x5⟩ := cC6 q0_3
     obtain ⟨⟨f0, f1, f2, f3, f4, f5⟩, z0, z1, z2, z3, z4, z5⟩ := cG6 q2_3
     obtain ⟨y0, y1⟩ := cC2 q1_3
     simp at x0 x1 x2 x3 x4 x5 z0 z1 z2 z3 z4 z5 y0 y1
     have HQ := hid (And.intro q0_3 (And.intro q2_3 qb_3))
     clear q0_3 q1_3 q2_3 qb_3
     have HPT3 := hid ((HG2.out.below (hb3.mono (by omega))).pts)
     obtain ⟨-, ha3, hc3⟩ := ht3.1.len
     have HT3 := hid ht3
     rw [HS.out] at x5
     clear hown3 hps3 hb3 ht3
     by_cases hn0 : ps.length = 0
     ·have hps0 : ps = [] := List.eq_nil_of_length_eq_zero hn0
      have hlate : lateG g.pts Q.1 = false := by unfold lateG; rw [← HG.out.ptsp, hps0]; rfl
      have HFR := hid (show RR = ((⟨g.sig, g.isg, g.pts ++ Q.1, g.sk, g.fr, g.rej⟩ : Gp), (0 : Int)) from by rw [← HRR.out, hlate]; rfl)
      rw [hn0] at x1
      have HN0 := hid hn0
      clear hps0 hlate hn0
      go_wp2_with fail
      refine wp_region_held_drew (S := fun _ => True) (by kernel_rfl) trivial (fun _ => ?_)
      refine wpAnyH_take (i := 0) (v := .int .i64 0) rfl (by kernel_rfl) (by kernel_rfl) (by kernel_rfl) (fun _ _ _ h => h) (Or.inl ⟨by rfl, fun w _ => by go_simp⟩) trivial ?_
      try simp only [pU]
      refine wpAnyH_take (i := 1) (v := .bool false) rfl (by kernel_rfl) (by kernel_rfl) (by kernel_rfl) (fun _ _ _ h => h) (Or.inl ⟨by rfl, fun w _ => by go_simp⟩) trivial ?_
      try simp only [pU]
      refine wpAnyH_take (i := 2) (v := .bool false) rfl (by kernel_rfl) (by kernel_rfl) (by kernel_rfl) (fun _ _ _ h => h) (Or.inl ⟨by rfl, fun w _ => by go_simp⟩) trivial ?_
      try simp only [pU]
      refine wpAnyH_take (i := 3) (v := undef) rfl (by kernel_rfl) (by kernel_rfl) (by kernel_rfl) (fun _ _ _ h => h) (Or.inr ⟨by rfl, rfl⟩) trivial ?_
      try simp only [pU]
      refine wpAnyH_take (i := 4) (v := undef) rfl (by kernel_rfl) (by kernel_rfl) (by kernel_rfl) (fun _ _ _ h => h) (Or.inr ⟨by rfl, rfl⟩) trivial ?_
      try simp only [pU]
      refine wpAnyH_take (i := 5) (v := undef) rfl (by kernel_rfl) (by kernel_rfl) (by kernel_rfl) (fun _ _ _ h => h) (Or.inr ⟨by rfl, rfl⟩) trivial ?_
      try simp only [pU]
      refine wpAnyH_take (i := 6) (v := undef) rfl (by kernel_rfl) (by kernel_rfl) (by kernel_rfl) (fun _ _ _ h => h) (Or.inr ⟨by rfl, rfl⟩) trivial ?_
      try simp only [pU]
      refine wpAnyH_take (i := 7) (v := undef) rfl (by kernel_rfl) (by kernel_rfl) (by kernel_rfl) (fun _ _ _ h => h) (Or.inr ⟨by rfl, rfl⟩) trivial ?_
      try simp only [pU]
      refine wpAnyH_take (i := 8) (v := undef) rfl (by kernel_rfl) (by kernel_rfl) (by kernel_rfl) (fun _ _ _ h => h) (Or.inr ⟨by rfl, rfl⟩) trivial ?_
      try simp only [pU]
      refine wpAnyH_take (i := 9) (v := undef) rfl (by kernel_rfl) (by kernel_rfl) (by kernel_rfl) (fun _ _ _ h => h) (Or.inr ⟨by rfl, rfl⟩) trivial ?_
      try simp only [pU]
      refine wpAnyH_take (i := 10) (v := undef) rfl (by kernel_rfl) (by kernel_rfl) (by kernel_rfl) (fun _ _ _ h => h) (Or.inr ⟨by rfl, rfl⟩) trivial ?_
      try simp only [pU]
      refine wpAnyH_take (i := 11) (v := undef) rfl (by kernel_rfl) (by kernel_rfl) (by kernel_rfl) (fun _ _ _ h => h) (Or.inr ⟨by rfl, rfl⟩) trivial ?_
      try simp only [pU]
      refine wpAnyH_take (i := 12) (v := undef) rfl (by kernel_rfl) (by kernel_rfl) (by kernel_rfl) (fun _ _ _ h => h) (Or.inr ⟨by rfl, rfl⟩) trivial ?_
      try simp only [pU]
      refine wpAnyH_take (i := 13) (v := undef) rfl (by kernel_rfl) (by kernel_rfl) (by kernel_rfl) (fun _ _ _ h => h) (Or.inr ⟨by rfl, rfl⟩) trivial ?_
      try simp only [pU]
      refine wpAnyH_take (i := 14) (v := undef) rfl (by kernel_rfl) (by kernel_rfl) (by kernel_rfl) (fun _ _ _ h => h) (Or.inr ⟨by rfl, rfl⟩) trivial ?_
      try simp only [pU]
      refine wpAnyH_take (i := 15) (v := undef) rfl (by kernel_rfl) (by kernel_rfl) (by kernel_rfl) (fun _ _ _ h => h) (Or.inr ⟨by rfl, rfl⟩) trivial ?_
      try simp only [pU]
      refine wpAnyH_take (i := 16) (v := .bool false) rfl (by kernel_rfl) (by kernel_rfl) (by kernel_rfl) (fun _ _ _ h => h) (Or.inl ⟨by rfl, fun w _ => by go_simp⟩) trivial ?_
      try simp only [pU]
      refine wpAnyH_done (by kernel_rfl) ?_ _
      obtain ⟨w4, hw4⟩ : ∃ w4, w3.drew = w4 := ⟨_, rfl⟩
      rw [hw4]
      have hb4 : Below w3.heap.size w3 w4 := by rw [← hw4]; exact (Below.refl _ _).drew
      have z4 := hb4.size
      have hsz4 : N + 1 + 1 + 1 ≤ w4.heap.size := by have := HQ.out.2.1.lt; omega
      have q0 := HQ.out.1.below hb4 HQ.out.1.lt
      have q2 := HQ.out.2.1.below hb4 HQ.out.2.1.lt
      have qb := HQ.out.2.2.trans (hb4.mono (by have := HQ.out.1.lt; omega))
      have ow4 : OwnT w4 (N + 1 + 1 + 1) (.slice A3 ps3.length c3) ps3 := HOW.out.below hb4
      have pt4 := HPT3.out.below (hb4.mono (by have := HQ.out.1.lt; omega))
      have ba := (Below.refl w4.heap.size w4).alloc (Nat.le_refl _) (.cells #[] 51)
      have qa := q0.below ba q0.lt
      have HNO := hid (own_none (w := w4) (base := N + 1 + 1 + 1) (e := 51) (size := 2) (by omega))
      have HPA := hid ((pt4.below (ba.mono (by omega))).1)
      have xa1 := qa.cell 1
      simp at xa1
      have HA := hid (And.intro (q0.below ba q0.lt) (And.intro (q2.below ba q2.lt) (And.intro (qb.trans (ba.mono (by omega))) (ow4.below ba))))
      have HOB := hid (fun i (e : (Value.slice A3 ps3.length c3).ownBlock = some i) => (World.ownsRow.lt ow4.1 i e).2)
      clear hw4 hb4 q0 q2 qb ow4 pt4 ba qa x0 x1 x2 x3 x4 x5 z0 z1 z2 z5 f0 f1 f2 f3 f4 f5 y0 y1
      go_wp2_with (first
       | (at_builtin; refine wpList_append_erow _ rfl _ _ 26 51 rfl (N + 1 + 1 + 1) iP _ 2 32 Tryz.underlying26 hiP hpz hps hpb rfl (by decide) (.slice (some ⟨w4.heap.size, 0, none⟩) 0 0) 0 [] (by rfl) HNO.out N (.slice PA ps.length Pc) ps.length (flatN ps) (by rfl) HPA.out (flatN_length _) (oneN _) (by unfold maxLen; omega) (by omega) (by rw [World.size_alloc]; omega) ps.length (Nat.zero_add _) (flatN ps) rfl ?_; intro A6 c6 w6 hown6 hg6 hat6; have HO6 := hid hown6; have HN6 := hid (pts_one HA.out HNO.out HOB.out hg6 (by omega)); have hz6 : w4.heap.size + 1 ≤ w6.heap.size := (by have := hg6.size; rw [World.size_alloc] at this; exact this); clear hown6 hg6 hat6)
       | (at_builtin; refine wpList_append_erow _ rfl _ _ 26 51 rfl (N + 1 + 1 + 1) iP _ 2 32 Tryz.underlying26 hiP hpz hps hpb rfl (by decide) (.slice A6 ps.length c6) ps.length (flatN ps) (by rfl) HO6.out w6.heap.size (.slice A3 ps3.length c3) ps3.length (flatN ps3) (by rfl) (ERow.of_own HN6.out.2.2.2.1) (flatN_length _) (oneN _) (by unfold maxLen; omega) (by omega) (by omega) (ps.length + ps3.length) rfl (flatN ps ++ flatN ps3) rfl ?_; intro A7 c7 w7 hown7 hg7 hat7; have HO7 := hid hown7; have hN7 := pts_two HN6.out HO6.out hg7 (by omega); have HN7 := hid hN7; have v1 := hN7.1.cell 1; have v1f := hN7.1.frozen 1; simp at v1; have hz7 := hg7.size; have r0 := hN7.1.put 1 (.slice A7 (ps.length + ps3.length) c7); have r2 := hN7.2.1.other_put (b := N) (i := 1) (by omega) (.slice A7 (ps.length + ps3.length) c7); simp at r0; have a0 := r0.cell 0; have a1 := r0.cell 1; have a2 := r0.cell 2; have a3 := r0.cell 3; have a4 := r0.cell 4; have a5 := r0.cell 5; have d0 := r2.cell 0; have d1 := r2.cell 1; have d2 := r2.cell 2; have d3 := r2.cell 3; have d4 := r2.cell 4; have d5 := r2.cell 5; have l0 := r2.frozen 0; have l1 := r2.frozen 1; have l2 := r2.frozen 2; have l3 := r2.frozen 3; have l4 := r2.frozen 4; have l5 := r2.frozen 5; simp at a0 a1 a2 a3 a4 a5 d0 d1 d2 d3 d4 d5; have HR2 := hid r2; clear hown7 hg7 hat7 hN7 r0 r2))
      refine bodyPost_ret (v := .tuple #[.agg #[.slice SA es.length Sc, .slice A7 (ps.length + ps3.length) c7, .int .i64 g.sk, .int .i64 g.fr, .slice RA g.rej.length Rc, .bool g.isg], .int .i64 0]) ?_ rfl ?_
      ·exact res_gframe (R := N + 1 + 1) (by simp only [pV]) (by simp only [pV]) (held_put6 HR2.out _ _ _ _ _ _)
      ·exact ggot_pts HGX.out h01 HN.out HFR.out HPS.out HO7.out rfl HN7.out.2.2.2 HN7.out.2.2.1 HN7.out.1 HN7.out.2.1 rfl
     ·obtain ⟨m, hm⟩ : ∃ m, ps.length - 1 = m := ⟨_, rfl⟩
      obtain ⟨dm, hdm⟩ : ∃ d, ps[m]? = some d := ⟨_, List.getElem?_eq_getElem (by omega)⟩
      obtain ⟨d0, hd0⟩ : ∃ d, ps3[0]? = some d := ⟨_, List.getElem?_eq_getElem hl3.1⟩
      have hlt := late_at HG.out.ptsp HPS.out hm hdm hd0
      obtain ⟨b, o, rfl, hbl, v0, -, -, -, -⟩ := HPT3.out.at hdm
      obtain ⟨b3, o3, rfl, hbl3, v3, -, -, -, -⟩ := HT3.out.at hd0
      rw [Nat.zero_mul, Nat.add_zero] at v3
      have e1 : (ps.length : Int) - 1 = (m : Int) := by omega
      have e3 : (m : Int) < (ps.length : Int) := by omega
      have e4 : ¬ (ps.length : Int) ≤ (m : Int) := by omega
      have e5 : (0 : Int) ≤ (m : Int) := by omega
      have e6 : ¬ (m : Int) < 0 := by omega
      have e7 : IntKind.i64.wrap (m : Int) = (m : Int) := IntWalk.i64_in _ (by omega)
      have e8 : m < ps.length := by omega
      have e9 : (0 : Int) < (ps3.length : Int) := by omega
      have e10 : (0 : Int) < (ps.length : Int) := by omega
      have e11 : 0 < ps.length := by omega
      have e12 : 0 < ps3.length := hl3.1
      have e13 : decide ((0 : Int) < (ps.length : Int)) = true := decide_eq_true e10
      have e14 : decide (0 < ps.length) = true := decide_eq_true e11
      have hdw := (Below.refl w3.heap.size w3).drew
      have HSD := hid (show w3.drew.cell? ⟨b3, o3, none⟩ = some (.int .u64 d0.tm) ∧ w3.drew.cell? ⟨N, 1, none⟩ = some (.slice (some ⟨b, o, none⟩) ps.length Pc) ∧ w3.drew.cell? ⟨b, o + m * 2, none⟩ = some (.int .u64 dm.tm) from ⟨v3, x1, v0⟩)
      clear hm hdm hd0 hdw hn0
      by_cases hlate : d0.tm < dm.tm
      ·have hr : RR = (g, 8) := by rw [← HRR.out, hlt, decide_eq_true hlate]; rfl
       have HR8 := hid hr
       clear hlt hr
       go_wp2_with fail
       go_region_held3 (fun W => W.cell? ⟨b3, o3, none⟩ = some (.int .u64 d0.tm) ∧ W.cell? ⟨N, 1, none⟩ = some (.slice (some ⟨b, o, none⟩) ps.length Pc) ∧ W.cell? ⟨b, o + m * 2, none⟩ = some (.int .u64 dm.tm))
        (first | exact HSD.out) (fail)
       obtain ⟨w4, hw4⟩ : ∃ w4, w3.drew = w4 := ⟨_, rfl⟩
       rw [hw4]
       have hb4 : Below w3.heap.size w3 w4 := by rw [← hw4]; exact (Below.refl _ _).drew
       have z4 := hb4.size
       have q0 := HQ.out.1.below hb4 HQ.out.1.lt
       have q2 := HQ.out.2.1.below hb4 HQ.out.2.1.lt
       have HQ4 := hid (And.intro q2 (HQ.out.2.2.trans (hb4.mono (by have := HQ.out.1.lt; omega))))
       clear x0 x1 x2 x3 x4 x5 z0 z1 z2 z3 z4 z5 f0 f1 f2 f3 f4 f5
       obtain ⟨x0, x1, x2, x3, x4, x5⟩ := cC6 q0
       obtain ⟨⟨f0, f1, f2, f3, f4, f5⟩, z0, z1, z2, z3, z4, z5⟩ := cG6 q2
       simp at x0 x1 x2 x3 x4 x5 z0 z1 z2 z3 z4 z5
       clear hw4 hb4 q0 q2
       go_wp2_with fail
       refine bodyPost_ret (v := .tuple #[GV g SA Sc es (some ⟨b, o, none⟩) Pc ps RA Rc, .int .i64 8]) ?_ rfl ?_
       ·exact res_gframe (R := N + 1 + 1) (by simp only [pV]) (by simp only [pV]) (held_put6 HQ4.out.1 _ _ _ _ _ _)
       ·exact ggot_kept HGX.out h01 HN.out HR8.out rfl (HQ4.out.2.grown (grown_put6 w4 (N + 1 + 1) _ _ _ _ _ _) (by have := HQ4.out.1.lt; omega) (fun j e => by injection e with e; omega))
      ·have HFR := hid (show RR = ((⟨g.sig, g.isg, g.pts ++ Q.1, g.sk, g.fr, g.rej⟩ : Gp), (0 : Int)) from by rw [← HRR.out, hlt, decide_eq_false hlate]; rfl)
       clear hlt
       go_wp2_with fail
       go_region_held3 (fun W => W.cell? ⟨b3, o3, none⟩ = some (.int .u64 d0.tm) ∧ W.cell? ⟨N, 1, none⟩ = some (.slice (some ⟨b, o, none⟩) ps.length Pc) ∧ W.cell? ⟨b, o + m * 2, none⟩ = some (.int .u64 dm.tm))
        (first | exact HSD.out) (fail)
       obtain ⟨w4, hw4⟩ : ∃ w4, w3.drew = w4 := ⟨_, rfl⟩
       rw [hw4]
       have hb4 : Below w3.heap.size w3 w4 := by rw [← hw4]; exact (Below.refl _ _).drew
       have z4 := hb4.size
       have hsz4 : N + 1 + 1 + 1 ≤ w4.heap.size := by have := HQ.out.2.1.lt; omega
       have q0 := HQ.out.1.below hb4 HQ.out.1.lt
       have q2 := HQ.out.2.1.below hb4 HQ.out.2.1.lt
       have qb := HQ.out.2.2.trans (hb4.mono (by have := HQ.out.1.lt; omega))
       have ow4 : OwnT w4 (N + 1 + 1 + 1) (.slice (some ⟨b3, o3, none⟩) ps3.length c3) ps3 := HOW.out.below hb4
       have pt4 := HPT3.out.below (hb4.mono (by have := HQ.out.1.lt; omega))
       have ba := (Below.refl w4.heap.size w4).alloc (Nat.le_refl _) (.cells #[] 51)
       have qa := q0.below ba q0.lt
       have HNO := hid (own_none (w := w4) (base := N + 1 + 1 + 1) (e := 51) (size := 2) (by omega))
       have HPA := hid ((pt4.below (ba.mono (by omega))).1)
       have xa1 := qa.cell 1
       simp at xa1
       have HA := hid (And.intro (q0.below ba q0.lt) (And.intro (q2.below ba q2.lt) (And.intro (qb.trans (ba.mono (by omega))) (ow4.below ba))))
       have HOB := hid (fun i (e : (Value.slice (some ⟨b3, o3, none⟩) ps3.length c3).ownBlock = some i) => (World.ownsRow.lt ow4.1 i e).2)
       clear hw4 hb4 q0 q2 qb ow4 pt4 ba qa x0 x1 x2 x3 x4 x5 z0 z1 z2 z5 f0 f1 f2 f3 f4 f5 y0 y1
       go_wp2_with (first
        | (at_builtin; refine wpList_append_erow _ rfl _ _ 26 51 rfl (N + 1 + 1 + 1) iP _ 2 32 Tryz.underlying26 hiP hpz hps hpb rfl (by decide) (.slice (some ⟨w4.heap.size, 0, none⟩) 0 0) 0 [] (by rfl) HNO.out N (.slice (some ⟨b, o, none⟩) ps.length Pc) ps.length (flatN ps) (by rfl) HPA.out (flatN_length _) (oneN _) (by unfold maxLen; omega) (by omega) (by rw [World.size_alloc]; omega) ps.length (Nat.zero_add _) (flatN ps) rfl ?_; intro A6 c6 w6 hown6 hg6 hat6; have HO6 := hid hown6; have HN6 := hid (pts_one HA.out HNO.out HOB.out hg6 (by omega)); have hz6 : w4.heap.size + 1 ≤ w6.heap.size := (by have := hg6.size; rw [World.size_alloc] at this; exact this); clear hown6 hg6 hat6)
        | (at_builtin; refine wpList_append_erow _ rfl _ _ 26 51 rfl (N + 1 + 1 + 1) iP _ 2 32 Tryz.underlying26 hiP hpz hps hpb rfl (by decide) (.slice A6 ps.length c6) ps.length (flatN ps) (by rfl) HO6.out w6.heap.size (.slice (some ⟨b3, o3, none⟩) ps3.length c3) ps3.length (flatN ps3) (by rfl) (ERow.of_own HN6.out.2.2.2.1) (flatN_length _) (oneN _) (by unfold maxLen; omega) (by omega) (by omega) (ps.length + ps3.length) rfl (flatN ps ++ flatN ps3) rfl ?_; intro A7 c7 w7 hown7 hg7 hat7; have HO7 := hid hown7; have hN7 := pts_two HN6.out HO6.out hg7 (by omega); have HN7 := hid hN7; have v1 := hN7.1.cell 1; have v1f := hN7.1.frozen 1; simp at v1; have hz7 := hg7.size; have r0 := hN7.1.put 1 (.slice A7 (ps.length + ps3.length) c7); have r2 := hN7.2.1.other_put (b := N) (i := 1) (by omega) (.slice A7 (ps.length + ps3.length) c7); simp at r0; have a0 := r0.cell 0; have a1 := r0.cell 1; have a2 := r0.cell 2; have a3 := r0.cell 3; have a4 := r0.cell 4; have a5 := r0.cell 5; have d0 := r2.cell 0; have d1 := r2.cell 1; have d2 := r2.cell 2; have d3 := r2.cell 3; have d4 := r2.cell 4; have d5 := r2.cell 5; have l0 := r2.frozen 0; have l1 := r2.frozen 1; have l2 := r2.frozen 2; have l3 := r2.frozen 3; have l4 := r2.frozen 4; have l5 := r2.frozen 5; simp at a0 a1 a2 a3 a4 a5 d0 d1 d2 d3 d4 d5; have HR2 := hid r2; clear hown7 hg7 hat7 hN7 r0 r2))
       refine bodyPost_ret (v := .tuple #[.agg #[.slice SA es.length Sc, .slice A7 (ps.length + ps3.length) c7, .int .i64 g.sk, .int .i64 g.fr, .slice RA g.rej.length Rc, .bool g.isg], .int .i64 0]) ?_ rfl ?_
       ·exact res_gframe (R := N + 1 + 1) (by simp only [pV]) (by simp only [pV]) (held_put6 HR2.out _ _ _ _ _ _)
       ·exact ggot_pts HGX.out h01 HN.out HFR.out HPS.out HO7.out rfl HN7.out.2.2.2 HN7.out.2.2.1 HN7.out.1 HN7.out.2.1 rfl
    ·have hr : (if Q.2 ≠ 0 then (g, Q.2) else if lateG g.pts Q.1 = true then (g, 8) else (⟨g.sig, g.isg, g.pts ++ Q.1, g.sk, g.fr, g.rej⟩, 0)) = (g, Q.2) := if_pos hE
     rw [hr]
     have hne : (Q.2 != 0) = true := bne_iff_ne.2 hE
     clear hE hr
     go_enter Tryz.func84, Tryz.ntmps84
     go_wp2_with fail
     refine HGT.out.mono ?_
     rintro e w3 ⟨A3, c3, ps3, rfl, ht3, hown3, hps3, hb3⟩
     have q0_3 := HK.out.1.below hb3 HK.out.1.lt
     have q1_3 := HK.out.2.1.below hb3 HK.out.2.1.lt
     have q2_3 := HK.out.2.2.1.below hb3 HK.out.2.2.1.lt
     have qb_3 := HK.out.2.2.2.trans (hb3.mono (by omega))
     clear x0 x1 x2 x3 x4 x5 z0 z1 z2 z3 z4 z5 f0 f1 f2 f3 f4 f5 y0 y1
     obtain ⟨x0, x1, x2, x3, x4, x5⟩ := cC6 q0_3
     obtain ⟨⟨f0, f1, f2, f3, f4, f5⟩, z0, z1, z2, z3, z4, z5⟩ := cG6 q2_3
     obtain ⟨y0, y1⟩ := cC2 q1_3
     simp at x0 x1 x2 x3 x4 x5 z0 z1 z2 z3 z4 z5 y0 y1
     have HQ := hid (And.intro q0_3 (And.intro q2_3 qb_3))
     clear q0_3 q1_3 q2_3 qb_3
     clear ht3 hown3 hps3 hb3
     go_wp2_with fail
     refine bodyPost_ret (v := .tuple #[GV g SA Sc es PA Pc ps RA Rc, .int .i64 Q.2]) ?_ rfl ?_
     ·exact res_gframe (R := N + 1 + 1) (by simp only [pV]) (by simp only [pV]) (held_put6 HQ.out.2.1 _ _ _ _ _ _)
     ·exact ggot_kept HGX.out h01 HN.out rfl rfl (HQ.out.2.2.grown (grown_put6 w3 (N + 1 + 1) _ _ _ _ _ _) (by have := HQ.out.2.1.lt; omega) (fun j e => by injection e with e; omega))
  ·have hk2b : (k != 2) = true := bne_iff_ne.2 hk2
   have hfr : frameG g k p = (g, 4) := by unfold frameG; rw [if_neg hk1, if_pos hk2]
   rw [hfr]
   clear hg hp hb hl hbb hg2 hp2 hfr hcv
   go_enter Tryz.func84, Tryz.ntmps84
   go_wp2_with fail
   refine bodyPost_ret (v := .tuple #[GV g SA Sc es PA Pc ps RA Rc, .int .i64 4]) ?_ rfl ?_
   ·exact res_gframe (R := N + 1 + 1) (by simp only [pV]) (by simp only [pV]) (held_put6 HK.out.2.2.1 _ _ _ _ _ _)
   ·exact ggot_kept HGX.out h01 HN.out rfl rfl (HK.out.2.2.2.grown (grown_put6 u2 (N + 1 + 1) _ _ _ _ _ _) (by have := HK.out.2.2.1.lt; omega) (fun j e => by injection e with e; omega))
end
def sameG (a b : Gp) : Bool := decide (a.sk = b.sk ∧ a.fr = b.fr ∧ a.rej = b.rej ∧ a.sig = b.sig ∧ a.pts = b.pts)
abbrev GW (g : Gp) (SA : Option Addr) (Sc : Nat) (es : List Pd) (PA : Option Addr) (Pc : Nat) (ps : List Pm) (RA : Option Addr) (Rc : Nat) : Value :=
 .agg #[.slice SA es.length Sc, .slice PA ps.length Pc, .int .i64 g.sk, .int .i64 g.fr, .slice RA g.rej.length Rc]
theorem flatJ_length : ∀ l : List (Int × Int), (flatJ l).length = l.length * 2
 | [] => rfl
 | a :: l => by simp only [flatJ, List.length_cons, flatJ_length l]; omega
theorem flatJ_append : ∀ l m : List (Int × Int), flatJ (l ++ m) = flatJ l ++ flatJ m
 | [], m => rfl
 | a :: l, m => by simp only [List.cons_append, flatJ, flatJ_append l m]
theorem oneJ : ∀ (l : List (Int × Int)), ∀ u ∈ flatJ l, u.oneCell' = true
 | [], u, h => by simp [flatJ] at h
 | d :: l, u, h => by
  rw [flatJ] at h
  rcases List.mem_cons.1 h with rfl | h
  ·rfl
  ·rcases List.mem_cons.1 h with rfl | h
   ·rfl
   ·exact oneJ l u h
theorem flatJ_at : ∀ (l : List (Int × Int)) (i : Nat) (d : Int × Int), l[i]? = some d → (flatJ l)[i * 2]? = some (.int .i64 d.1) ∧ (flatJ l)[i * 2 + 1]? = some (.int .i64 d.2)
 | [], i, d, h => by simp at h
 | a :: l, 0, d, h => by
  simp only [List.getElem?_cons_zero, Option.some.injEq] at h
  subst h
  exact ⟨rfl, rfl⟩
 | a :: l, i + 1, d, h => by
  rw [List.getElem?_cons_succ] at h
  obtain ⟨h1, h2⟩ := flatJ_at l i d h
  rw [flatJ, show (i + 1) * 2 = i * 2 + 2 by omega]
  exact ⟨h1, h2⟩
theorem rj_eq (w : World) (a b a' b' : Int) : (Op.equal 73 (.agg #[.int .i64 a, .int .i64 b]) (.agg #[.int .i64 a', .int .i64 b'])).run Tryz.prog w = .ok (a == a' && b == b') w := by
 unfold Op.equal
 rw [show Op.maxDepth = 9998 + 1 + 1 from rfl, run_equalIn_struct (P := Tryz.prog) w _ 73 _ _ (by kernel_rfl) (by kernel_rfl)]
 simp [Program.fieldsOf, Tryz.underlying73, Op.eqFields]
 rw [part_num w 3 .i64 .i64 _ 0 a Tryz.underlying3 rfl, Result.andThen_ok, part_num w 3 .i64 .i64 _ 0 a' Tryz.underlying3 rfl, Result.andThen_ok, show (9999 : Nat) = 9998 + 1 from rfl, run_equalIn_int (P := Tryz.prog) w 9998 3 .i64 .i64 a a' Tryz.underlying3, Result.andThen_ok]
 cases h : a == a' with
 | false => simp
 | true =>
  simp
  rw [part_num w 27 .i64 .i64 _ 1 b Tryz.underlying27 rfl, Result.andThen_ok, part_num w 27 .i64 .i64 _ 1 b' Tryz.underlying27 rfl, Result.andThen_ok, show (9999 : Nat) = 9998 + 1 from rfl, run_equalIn_int (P := Tryz.prog) w 9998 27 .i64 .i64 b b' Tryz.underlying27, Result.andThen_ok]
  cases b == b' <;> simp
theorem run_neq_rj (w : World) (x y : Int × Int) :
  (binOp .neq 73 (.agg #[.int .i64 x.1, .int .i64 x.2]) (.agg #[.int .i64 y.1, .int .i64 y.2])).run Tryz.prog w = .ok (.bool (!decide (x = y))) w := by
 have h := rj_eq w x.1 x.2 y.1 y.2
 rw [show (x.1 == y.1 && x.2 == y.2) = decide (x = y) by
  obtain ⟨a, b⟩ := x
  obtain ⟨c, d⟩ := y
  by_cases h1 : a = c <;> by_cases h2 : b = d <;> simp [h1, h2]] at h
 simp only [binOp, Sem.run_bind, h, Result.andThen_ok, Sem.run_pure]
section
variable (g1 : Gp) (SA1 : Option Addr) (Sc1 : Nat) (es1 : List Pd) (PA1 : Option Addr) (Pc1 : Nat) (ps1 : List Pm) (RA1 : Option Addr) (Rc1 : Nat) (g2 : Gp) (SA2 : Option Addr) (Sc2 : Nat) (es2 : List Pd) (PA2 : Option Addr) (Pc2 : Nat) (ps2 : List Pm) (RA2 : Option Addr) (Rc2 : Nat) (w : World)
theorem rgsame_any (hg1 : GAt w w.heap.size g1 SA1 Sc1 es1 PA1 Pc1 ps1 RA1 Rc1) (hg2 : GAt w w.heap.size g2 SA2 Sc2 es2 PA2 Pc2 ps2 RA2 Rc2) :
  Calls Tryz.prog 32 #[GW g1 SA1 Sc1 es1 PA1 Pc1 ps1 RA1 Rc1, GW g2 SA2 Sc2 es2 PA2 Pc2 ps2 RA2 Rc2] w fun e w' => e = .returned (.bool (sameG g1 g2)) ∧ Below w.heap.size w w' := by
 obtain ⟨N, hN⟩ : ∃ N, w.heap.size = N := ⟨_, rfl⟩
 obtain ⟨u0, hu0⟩ : ∃ u, w.alloc (.cells #[.slice SA1 es1.length Sc1, .slice PA1 ps1.length Pc1, .int .i64 g1.sk, .int .i64 g1.fr, .slice RA1 g1.rej.length Rc1] 64) = u := ⟨_, rfl⟩
 have s0 : u0.heap.size = N + 1 := by rw [← hu0, World.size_alloc, hN]
 have b0 : Below N w u0 := by rw [← hu0]; exact (Below.refl _ _).alloc (by omega) _
 have k0 : Held u0 N 64 #[.slice SA1 es1.length Sc1, .slice PA1 ps1.length Pc1, .int .i64 g1.sk, .int .i64 g1.fr, .slice RA1 g1.rej.length Rc1] := by rw [← hu0, ← hN]; exact heap_alloc_new w _
 obtain ⟨u1, hu1⟩ : ∃ u, u0.alloc (.cells #[.slice SA2 es2.length Sc2, .slice PA2 ps2.length Pc2, .int .i64 g2.sk, .int .i64 g2.fr, .slice RA2 g2.rej.length Rc2] 64) = u := ⟨_, rfl⟩
 have s1 : u1.heap.size = N + 1 + 1 := by rw [← hu1, World.size_alloc, s0]
 have b1 : Below (N + 1) u0 u1 := by rw [← hu1]; exact (Below.refl _ _).alloc (by omega) _
 have h1 : Held u1 (N + 1) 64 #[.slice SA2 es2.length Sc2, .slice PA2 ps2.length Pc2, .int .i64 g2.sk, .int .i64 g2.fr, .slice RA2 g2.rej.length Rc2] := by rw [← hu1, ← s0]; exact heap_alloc_new u0 _
 have h0 := k0.below b1 (by omega)
 have hbb : Below N w u1 := b0.trans (b1.mono (by omega))
 rw [hN] at hg1 hg2 ⊢
 obtain ⟨x0, x1, x2, x3, x4⟩ := cC5 h0
 obtain ⟨y0, y1, y2, y3, y4⟩ := cC5 h1
 simp at x0 x1 x2 x3 x4 y0 y1 y2 y3 y4
 have HG1 := hid (hg1.below hbb)
 have HG2 := hid (hg2.below hbb)
 have HB := hid hbb
 have HH := hid (And.intro h0 h1)
 obtain ⟨-, hr1, hr2⟩ := hg1.rej.len
 obtain ⟨-, hq1, hq2⟩ := hg2.rej.len
 obtain ⟨-, ha1, ha2⟩ := hg1.pts.1.len
 obtain ⟨-, hb1, hb2⟩ := hg2.pts.1.len
 clear hg1 hg2 hbb b0 b1 k0 h0 h1
 obtain ⟨RR, hRR⟩ : ∃ RR, sameG g1 g2 = RR := ⟨_, rfl⟩
 rw [hRR]
 have HRR := hid hRR
 clear hRR
 by_cases c1 : g1.sk = g2.sk
 ·have d1 : (g1.sk != g2.sk) = false := bne_eq_false_iff_eq.2 c1
  have HC1 := hid c1
  clear c1
  by_cases c2 : g1.fr = g2.fr
  ·have d2 : (g1.fr != g2.fr) = false := bne_eq_false_iff_eq.2 c2
   have HC2 := hid c2
   clear c2
   by_cases c3 : g1.rej.length = g2.rej.length
   ·have d3 : ((g1.rej.length : Int) != (g2.rej.length : Int)) = false := bne_eq_false_iff_eq.2 (by omega)
    have HC3 := hid c3
    clear c3
    go_enter Tryz.func32, Tryz.ntmps32
    go_wp2_with fail
    go_loopg [5] g1.rej.length (fun gk i wr => ∃ k : Nat, i = .int .i64 k ∧ k ≤ g1.rej.length ∧ Hid (g1.rej.length - k = gk) ∧ Hid (∀ j, j < k → g1.rej.getD j default = g2.rej.getD j default) ∧ Hid (Below u1.heap.size u1 wr))
    case atStart => exact ⟨0, rfl, Nat.zero_le _, hid rfl, hid (fun j hj => absurd hj (Nat.not_lt_zero _)), hid (Below.refl _ _)⟩
    case round =>
     obtain ⟨k, rfl, hk, HGK, HALL, HBR⟩ := hrel
     have h0 := HH.out.1.below HBR.out (by omega)
     have h1 := HH.out.2.below HBR.out (by omega)
     clear x0 x1 x2 x3 x4 y0 y1 y2 y3 y4
     obtain ⟨x0, x1, x2, x3, x4⟩ := cC5 h0
     obtain ⟨y0, y1, y2, y3, y4⟩ := cC5 h1
     simp at x0 x1 x2 x3 x4 y0 y1 y2 y3 y4
     have hz := HBR.out.size
     clear h0 h1
     by_cases hlt : k < g1.rej.length
     ·obtain ⟨x, hx⟩ : ∃ x, g1.rej[k]? = some x := ⟨_, List.getElem?_eq_getElem hlt⟩
      obtain ⟨y, hy⟩ : ∃ y, g2.rej[k]? = some y := ⟨_, List.getElem?_eq_getElem (by rw [← HC3.out]; exact hlt)⟩
      obtain ⟨q, r, rfl, hql, hqc⟩ := (HG1.out.rej.below (HBR.out.mono (by omega))).block (by omega)
      obtain ⟨q', r', rfl, hql', hqc'⟩ := (HG2.out.rej.below (HBR.out.mono (by omega))).block (by have := HC3.out; omega)
      obtain ⟨m0, m1⟩ := flatJ_at _ _ _ hx
      obtain ⟨n0, n1⟩ := flatJ_at _ _ _ hy
      have p0 := hqc _ _ m0
      have p1 := hqc _ _ m1
      have t0 := hqc' _ _ n0
      have t1 := hqc' _ _ n1
      rw [← Nat.add_assoc] at p1 t1
      have hne := fun W => run_neq_rj W x y
      have e1 : g1.rej.getD k default = x := by simp [List.getD, hx]
      have e2 : g2.rej.getD k default = y := by simp [List.getD, hy]
      have hlt2 : (k : Int) < (g2.rej.length : Int) := by have := HC3.out; omega
      have hlt3 : k < g2.rej.length := by have := HC3.out; omega
      clear m0 m1 n0 n1 hqc hqc'
      by_cases he : x = y
      ·have HI3 := hid (show ∀ j, j < k + 1 → g1.rej.getD j default = g2.rej.getD j default from fun j hj => by
        by_cases hjk : j = k
        ·rw [hjk, e1, e2, he]
        ·exact HALL.out j (by omega))
       rw [decide_eq_true he] at hne
       clear he e1 e2 hx hy
       go_wp2_with fail
       go_quiet (fail)
       go_wp2_with fail
       go_roundg (g1.rej.length - (k + 1))
       case measure => have := HGK.out; omega
       case rel => exact ⟨k + 1, by go_num, by omega, hid rfl, HI3, hid (HBR.out.trans (drewN_low _ _ _))⟩
      ·have HR := hid (show RR = false by rw [← HRR.out]; exact decide_eq_false (fun h => he (by rw [← e1, ← e2, h.2.2.1])))
       rw [decide_eq_false he] at hne
       clear he e1 e2 hx hy
       go_wp2_with fail
       go_quiet (fail)
       go_wp2_with fail
       go_ret
       exact ⟨by rw [HR.out]; rfl, HB.out.trans ((HBR.out.trans (drewN_low _ _ _)).mono (by omega))⟩
     ·have hrej : g1.rej = g2.rej := lst_ext HC3.out (fun j hj => HALL.out j (by omega))
      have HS1 := hid (rsigsame_any SA1 Sc1 es1 SA2 Sc2 es2 wr ((HG1.out.sig.below (HBR.out.mono (by omega))).more (by omega)) ((HG2.out.sig.below (HBR.out.mono (by omega))).more (by omega)))
      have HS2 := hid (fun W (h : Below wr.heap.size wr W) => rtsame_any PA1 Pc1 ps1 PA2 Pc2 ps2 W ((HG1.out.pts.below ((HBR.out.mono (by omega)).trans (h.mono (by omega)))).more (by have := h.size; omega)) ((HG2.out.pts.below ((HBR.out.mono (by omega)).trans (h.mono (by omega)))).more (by have := h.size; omega)))
      rw [HG1.out.sigp, HG2.out.sigp] at HS1
      rw [HG1.out.ptsp, HG2.out.ptsp] at HS2
      have HKK := hid (fun W (h : Below wr.heap.size wr W) => And.intro (HH.out.1.below (HBR.out.trans (h.mono hz)) (by omega)) (HH.out.2.below (HBR.out.trans (h.mono hz)) (by omega)))
      have HRE := hid hrej
      have hkn : k = g1.rej.length := by omega
      subst hkn
      clear hrej
      by_cases hs : g1.sig = g2.sig
      ·rw [decide_eq_true hs] at HS1
       have HSS := hid hs
       clear hs
       go_wp2_with fail
       refine HS1.out.mono ?_
       rintro e w5 ⟨rfl, hb5⟩
       obtain ⟨h0, h1⟩ := HKK.out w5 hb5
       clear x0 x1 x2 x3 x4 y0 y1 y2 y3 y4
       obtain ⟨x0, x1, x2, x3, x4⟩ := cC5 h0
       obtain ⟨y0, y1, y2, y3, y4⟩ := cC5 h1
       simp at x0 x1 x2 x3 x4 y0 y1 y2 y3 y4
       have hz5 := hb5.size
       have HB5 := hid (HBR.out.trans (hb5.mono hz))
       have HS3 := hid (HS2.out w5 hb5)
       clear h0 h1 hb5
       go_wp2_with fail
       refine HS3.out.mono ?_
       rintro e w6 ⟨rfl, hb6⟩
       have HB6 := hid (HB.out.trans ((HB5.out.trans (hb6.mono (by omega))).mono (by omega)))
       have hR : RR = decide (g1.pts = g2.pts) := by
        rw [← HRR.out]
        unfold sameG
        simp only [HC1.out, HC2.out, HRE.out, HSS.out, true_and]
       have HR := hid hR
       clear hb6 hR
       go_wp2_with fail
       go_ret
       exact ⟨by rw [HR.out]; rfl, HB6.out⟩
      ·rw [decide_eq_false hs] at HS1
       have HR := hid (show RR = false by rw [← HRR.out]; exact decide_eq_false (fun h => hs h.2.2.2.1))
       clear hs
       go_wp2_with fail
       refine HS1.out.mono ?_
       rintro e w5 ⟨rfl, hb5⟩
       have HB5 := hid (HB.out.trans ((HBR.out.trans (hb5.mono hz)).mono (by omega)))
       clear hb5
       go_wp2_with fail
       go_ret
       exact ⟨by rw [HR.out]; rfl, HB5.out⟩
   ·have d3 : ((g1.rej.length : Int) != (g2.rej.length : Int)) = true := bne_iff_ne.2 (by omega)
    have HR := hid (show RR = false by rw [← HRR.out]; exact decide_eq_false (fun h => c3 (by rw [h.2.2.1])))
    clear c3
    go_enter Tryz.func32, Tryz.ntmps32
    go_wp2_with fail
    go_ret
    exact ⟨by rw [HR.out]; rfl, HB.out⟩
  ·have d2 : (g1.fr != g2.fr) = true := bne_iff_ne.2 c2
   have HR := hid (show RR = false by rw [← HRR.out]; exact decide_eq_false (fun h => c2 h.2.1))
   clear c2
   go_enter Tryz.func32, Tryz.ntmps32
   go_wp2_with fail
   go_ret
   exact ⟨by rw [HR.out]; rfl, HB.out⟩
 ·have d1 : (g1.sk != g2.sk) = true := bne_iff_ne.2 c1
  have HR := hid (show RR = false by rw [← HRR.out]; exact decide_eq_false (fun h => c1 h.1))
  clear c1
  go_enter Tryz.func32, Tryz.ntmps32
  go_wp2_with fail
  go_ret
  exact ⟨by rw [HR.out]; rfl, HB.out⟩
end
end Go.Proofs.YtimihhcidbeonaaGreat
