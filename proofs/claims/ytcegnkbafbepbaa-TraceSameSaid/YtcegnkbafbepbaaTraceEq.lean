/-
  What trace.Same answers: '!=' of arguments, slices.Equal, slices.EqualFunc.
-/
import Derived.Test.YtcegnkbafbepbaaTraceRows
import Derived.Test.YtcegnkbafbepbaaSigKit
import Derived.Test.YtcegnkbafbepbaaSigKeys
import Derived.Laws.StructEq
namespace Go.Proofs.Ytcegnkbafbepbaa
open Go.RowKit

theorem lst_ext {α : Type} [Inhabited α] {l m : List α} (hl : l.length = m.length) (h : ∀ i, i < l.length → l.getD i default = m.getD i default) : l = m := by
  refine List.ext_getElem hl fun i h1 h2 => ?_
  have := h i h1
  simpa [List.getD, List.getElem?_eq_getElem h1, List.getElem?_eq_getElem h2] using this
theorem part_num (w : World) (t : TypeId) (k k' : IntKind) (cs : Array Value) (i : Nat) (x : Int) (ht : Try.prog.underlying t = some (.int k')) (hi : cs[i]? = some (.int k x)) : (part t cs i).run Try.prog w = .ok (.int k x) w := by
  unfold part isAgg
  simp [run_underlying ht, hi, Result.andThen]
theorem arg_eq (w : World) (a b : Int) (s : ByteArray) (a' b' : Int) (s' : ByteArray) : (Op.equal 49 (.agg #[.int .i64 a, .int .i64 b, .string s]) (.agg #[.int .i64 a', .int .i64 b', .string s'])).run Try.prog w = .ok (a == a' && (b == b' && s.toList == s'.toList)) w := by
  unfold Op.equal
  rw [show Op.maxDepth = 9998 + 1 + 1 from rfl, run_equalIn_struct (P := Try.prog) w _ 49 _ _ (by kernel_rfl) (by kernel_rfl)]
  simp [Program.fieldsOf, Try.underlying49, Op.eqFields]
  rw [part_num w 3 .i64 .i64 _ 0 a Try.underlying3 rfl, Result.andThen_ok, part_num w 3 .i64 .i64 _ 0 a' Try.underlying3 rfl, Result.andThen_ok, show (9999 : Nat) = 9998 + 1 from rfl, run_equalIn_int (P := Try.prog) w 9998 3 .i64 .i64 a a' Try.underlying3, Result.andThen_ok]
  cases h : a == a' with
  | false => simp
  | true =>
    simp
    rw [part_num w 2 .i64 .i64 _ 1 b Try.underlying2 rfl, Result.andThen_ok, part_num w 2 .i64 .i64 _ 1 b' Try.underlying2 rfl, Result.andThen_ok, show (9999 : Nat) = 9998 + 1 from rfl, run_equalIn_int (P := Try.prog) w 9998 2 .i64 .i64 b b' Try.underlying2, Result.andThen_ok]
    cases h : b == b' with
    | false => simp
    | true =>
      simp
      rw [part_str w 9 _ 2 s Try.underlying9 rfl, Result.andThen_ok, part_str w 9 _ 2 s' Try.underlying9 rfl, Result.andThen_ok, show (9999 : Nat) = 9998 + 1 from rfl, run_equalIn_string (P := Try.prog) w 9998 9 s s' Try.underlying9, Result.andThen_ok]
      cases s.toList == s'.toList <;> simp
theorem ag_eq_dec {x y : Ag} (hx : x.Fits) (hy : y.Fits) : (x.t == y.t && (x.n == y.n && (strOfNums x.s).toList == (strOfNums y.s).toList)) = decide (x = y) := by
  obtain ⟨a, b, s⟩ := x
  obtain ⟨a', b', s'⟩ := y
  rw [str_eq_dec hx.2.1 hy.2.1]
  by_cases h1 : a = a' <;> by_cases h2 : b = b' <;> by_cases h3 : s = s' <;> simp [h1, h2, h3]
theorem run_neq_arg (w : World) {x y : Ag} (hx : x.Fits) (hy : y.Fits) :
    (binOp .neq 49 (.agg #[.int .i64 x.t, .int .i64 x.n, .string (strOfNums x.s)]) (.agg #[.int .i64 y.t, .int .i64 y.n, .string (strOfNums y.s)])).run Try.prog w = .ok (.bool (!decide (x = y))) w := by
  have h := arg_eq w x.t x.n (strOfNums x.s) y.t y.n (strOfNums y.s)
  rw [ag_eq_dec hx hy] at h
  simp only [binOp, Sem.run_bind, h, Result.andThen_ok, Sem.run_pure]
theorem ev_eq_dec (a b : Em) : decide (a.e = b.e) = (decide (a.p = b.p) && decide (a.args = b.args)) := by
  obtain ⟨p, l, _, _⟩ := a
  obtain ⟨q, m, _, _⟩ := b
  by_cases h1 : p = q <;> by_cases h2 : l = m <;> simp [Em.e, h1, h2]
theorem pn_eq_dec (a b : Pm) : decide (a.p = b.p) = (decide (a.tm = b.tm) && decide (a.evs.map (·.e) = b.evs.map (·.e))) := by
  obtain ⟨p, l, _, _⟩ := a
  obtain ⟨q, m, _, _⟩ := b
  by_cases h1 : p = q <;> by_cases h2 : l.map (·.e) = m.map (·.e) <;> simp [Pm.p, h1, h2]

set_option maxRecDepth 100000 in
set_option maxHeartbeats 2000000 in
theorem aequal_any (A1 : Option Addr) (c1 : Nat) (l1 : List Ag) (A2 : Option Addr) (c2 : Nat) (l2 : List Ag) (w : World) (hrow1 : GRow w w.heap.size (.slice A1 l1.length c1) l1) (hrow2 : GRow w w.heap.size (.slice A2 l2.length c2) l2) :
    Calls Try.prog 41 #[.slice A1 l1.length c1, .slice A2 l2.length c2] w fun e w' => e = .returned (.bool (decide (l1 = l2))) ∧ Below w.heap.size w w' := by
  obtain ⟨-, hc1, hc2⟩ := hrow1.1.len
  obtain ⟨-, hc3, hc4⟩ := hrow2.1.len
  by_cases hl : l1.length = l2.length
  · have hyes := fun h => decide_eq_true (lst_ext (l := l1) (m := l2) hl h)
    have hno := fun (i : Nat) (h : l1.getD i default ≠ l2.getD i default) => decide_eq_false (p := l1 = l2) (fun e => h (by rw [e]))
    generalize decide (l1 = l2) = R at hyes hno ⊢
    have HY := Lib.hid hyes
    have HN := Lib.hid hno
    have HI1 := Lib.hid (fun W (h : Below w.heap.size w W) => hrow1.below h)
    have HI2 := Lib.hid (fun W (h : Below w.heap.size w W) => hrow2.below h)
    clear hyes hno hrow1 hrow2
    have HL := Lib.hid hl
    rw [← hl] at HI2 hc3 ⊢
    clear hl
    go_enter Try.func41, Try.ntmps41
    go_wp2_with fail
    go_loopg [13] l1.length (fun gm i wr2 => ∃ m : Nat, m ≤ l1.length ∧ i = .int .i64 m ∧ Hid (l1.length - m = gm) ∧ Hid (∀ j, j < m → l1.getD j default = l2.getD j default) ∧ Below w.heap.size w wr2)
    case atStart => exact ⟨0, Nat.zero_le _, rfl, Lib.hid rfl, Lib.hid (fun j h => absurd h (Nat.not_lt_zero _)), Below.refl _ _⟩
    case round =>
      obtain ⟨m, hm, rfl, HGM, HI, hbw2⟩ := hrel
      by_cases hml : m < l1.length
      · obtain ⟨x, hx⟩ : ∃ x, l1[m]? = some x := ⟨_, List.getElem?_eq_getElem hml⟩
        obtain ⟨y, hy⟩ : ∃ y, l2[m]? = some y := ⟨_, List.getElem?_eq_getElem (by rw [← HL.out]; exact hml)⟩
        obtain ⟨q1, r1, rfl, hq1, s0, s1, s2, fx⟩ := (HI1.out _ hbw2).at hx
        obtain ⟨q2, r2, rfl, hq2, t0, t1, t2, fy⟩ := (HI2.out _ hbw2).at hy
        have e1 := getD_of hx
        have e2 := getD_of hy
        have hne := fun W => run_neq_arg W fx fy
        by_cases he : x = y
        · have HI3 := Lib.hid (step_lt (P := fun j => l1.getD j default = l2.getD j default) HI.out (by rw [e1, e2, he]))
          rw [decide_eq_true he] at hne
          have HB2 := Lib.hid hbw2
          clear he hbw2 fx fy e1 e2 hx hy
          go_wp2_with fail
          go_quiet (fail)
          go_wp2_with fail
          go_roundg (l1.length - (m + 1))
          case measure => have := HGM.out; omega
          case rel => exact ⟨m + 1, by omega, by go_num, Lib.hid rfl, HI3, HB2.out.trans (drewN_low _ _ _)⟩
        · have HR := Lib.hid (HN.out m (by rw [e1, e2]; exact he))
          rw [decide_eq_false he] at hne
          have HB2 := Lib.hid hbw2
          clear he hbw2 fx fy e1 e2 hx hy
          go_wp2_with fail
          go_quiet (fail)
          go_wp2_with fail
          go_ret
          exact ⟨by rw [HR.out]; rfl, HB2.out.trans (drewN_low _ _ _)⟩
      · obtain rfl : m = l1.length := by omega
        have HR := Lib.hid (HY.out HI.out)
        have HB2 := Lib.hid hbw2
        clear hbw2
        go_wp2_with fail
        go_ret
        exact ⟨by rw [HR.out]; rfl, HB2.out⟩
  · have hlb : ((l1.length : Int) != (l2.length : Int)) = true := bne_iff_ne.2 (by omega)
    have hf : decide (l1 = l2) = false := decide_eq_false (fun e => hl (by rw [e]))
    rw [hf]
    clear hf hrow1 hrow2
    go_enter Try.func41, Try.ntmps41
    go_wp2_with fail
    go_ret
    exact ⟨rfl, Below.refl _ _⟩

set_option maxRecDepth 100000 in
set_option maxHeartbeats 2000000 in
theorem sevent_any (d1 d2 : Em) (w : World) (g1 : d1.Ok w w.heap.size) (g2 : d2.Ok w w.heap.size) :
    Calls Try.prog 37 #[d1.val, d2.val] w fun e w' => e = .returned (.bool (decide (d1.e = d2.e))) ∧ Below w.heap.size w w' := by
  obtain ⟨-, hc1, hc2⟩ := g1.1.1.len
  obtain ⟨-, hc3, hc4⟩ := g2.1.1.len
  have f1 := g1.2
  have f2 := g2.2
  obtain ⟨p1, l1, A1, c1⟩ := d1
  obtain ⟨p2, l2, A2, c2⟩ := d2
  unfold Em.Fits at f1 f2
  dsimp only at hc1 hc2 hc3 hc4 f1 f2
  rw [ev_eq_dec]
  dsimp only [Em.val]
  have HIE := Lib.hid (fun W (h : Below w.heap.size w W) => aequal_any A1 c1 l1 A2 c2 l2 W ((g1.1.below h).more h.size) ((g2.1.below h).more h.size))
  clear g1 g2
  generalize decide (l1 = l2) = E at HIE ⊢
  generalize l1.length = n1 at HIE hc1 ⊢
  generalize l2.length = n2 at HIE hc3 ⊢
  obtain ⟨w1, hw1⟩ : ∃ w1, (w.alloc (.cells #[.int .i64 p1, .slice A1 n1 c1] 42)).alloc (.cells #[.int .i64 p2, .slice A2 n2 c2] 42) = w1 := ⟨_, rfl⟩
  have s1 : w1.heap.size = w.heap.size + 1 + 1 := by rw [← hw1]; simp
  have b1 : Below w.heap.size w w1 := by rw [← hw1]; exact ((Below.refl _ _).alloc (Nat.le_refl _) _).alloc (by simp) _
  have h1 : Held w1 w.heap.size 42 #[.int .i64 p1, .slice A1 n1 c1] := by
    rw [← hw1]
    exact Held.below (heap_alloc_new w _) ((Below.refl _ _).alloc (Nat.le_refl _) _) (by simp)
  have h2 : Held w1 (w.heap.size + 1) 42 #[.int .i64 p2, .slice A2 n2 c2] := by
    rw [← hw1, show w.heap.size + 1 = (w.alloc (.cells #[.int .i64 p1, .slice A1 n1 c1] 42)).heap.size by simp]
    exact heap_alloc_new _ _
  have e0 := h1.cell 0
  have e1 := h1.cell 1
  have e2 := h2.cell 0
  have e3 := h2.cell 1
  simp at e0 e1 e2 e3
  have HB1 := Lib.hid b1
  clear h1 h2 b1
  by_cases hd : p1 = p2
  case neg =>
    have hb1 : (p1 == p2) = false := beq_eq_false_iff_ne.2 hd
    rw [decide_eq_false hd, Bool.false_and]
    clear hd
    go_enter Try.func37, Try.ntmps37
    go_wp2_with fail
    go_ret
    exact ⟨rfl, HB1.out⟩
  case pos =>
    subst hd
    rw [decide_eq_true rfl, Bool.true_and]
    have hbb : (p1 == p1) = true := by simp
    go_enter Try.func37, Try.ntmps37
    go_wp2_with fail
    refine (HIE.out _ HB1.out).mono ?_
    rintro e w7 ⟨rfl, hb7⟩
    have HB7 := Lib.hid (HB1.out.trans (hb7.mono (by omega)))
    clear hb7
    go_wp2_with fail
    go_ret
    exact ⟨rfl, HB7.out⟩

set_option maxRecDepth 100000 in
set_option maxHeartbeats 2000000 in
theorem evequal_any (A1 : Option Addr) (c1 : Nat) (ds1 : List Em) (A2 : Option Addr) (c2 : Nat) (ds2 : List Em) (w : World) (hrow1 : EvRow w w.heap.size (.slice A1 ds1.length c1) ds1) (hrow2 : EvRow w w.heap.size (.slice A2 ds2.length c2) ds2) :
    Calls Try.prog 36 #[.slice A1 ds1.length c1, .slice A2 ds2.length c2, .func (.func 37) #[] #[]] w fun e w' => e = .returned (.bool (decide (ds1.map (·.e) = ds2.map (·.e)))) ∧ Below w.heap.size w w' := by
  obtain ⟨-, hc1, hc2⟩ := hrow1.1.len
  obtain ⟨-, hc3, hc4⟩ := hrow2.1.len
  by_cases hl : ds1.length = ds2.length
  · have hyes := fun h => decide_eq_true (lst_ext (l := ds1.map (·.e)) (m := ds2.map (·.e)) (by simpa using hl) h)
    have hno := fun (i : Nat) (h : (ds1.map (·.e)).getD i default ≠ (ds2.map (·.e)).getD i default) => decide_eq_false (p := ds1.map (·.e) = ds2.map (·.e)) (fun e => h (by rw [e]))
    generalize decide (ds1.map (·.e) = ds2.map (·.e)) = R at hyes hno ⊢
    have HY := Lib.hid hyes
    have HN := Lib.hid hno
    have HR1 := Lib.hid hrow1
    have HR2 := Lib.hid hrow2
    clear hyes hno hrow1 hrow2
    rw [← hl] at hc3
    have HL := Lib.hid hl
    rw [← hl] at HR2 ⊢
    clear hl
    obtain ⟨N, hN⟩ : ∃ N, ds1.length = N := ⟨_, rfl⟩
    have HN1 := Lib.hid hN
    rw [hN] at HR1 HR2 hc1 hc3 HL ⊢
    clear hN
    go_enter Try.func36, Try.ntmps36
    go_wp2_with fail
    go_loopg [17] N (fun gk i wr => ∃ k : Nat, k ≤ N ∧ i = .int .i64 k ∧ Hid (N - k = gk) ∧ Hid (∀ j, j < k → (ds1.map (·.e)).getD j default = (ds2.map (·.e)).getD j default) ∧ Hid (Below w.heap.size w wr))
    case atStart => exact ⟨0, Nat.zero_le _, rfl, Lib.hid rfl, Lib.hid (fun j h => absurd h (Nat.not_lt_zero _)), Lib.hid (Below.refl _ _)⟩
    case round =>
      obtain ⟨k, hk, rfl, HGK, HJ, HBW⟩ := hrel
      by_cases hlt : k < N
      · obtain ⟨d1, hd1⟩ : ∃ d, ds1[k]? = some d := ⟨_, List.getElem?_eq_getElem (by rw [HN1.out]; exact hlt)⟩
        obtain ⟨d2, hd2⟩ : ∃ d, ds2[k]? = some d := ⟨_, List.getElem?_eq_getElem (by rw [← HL.out]; exact hlt)⟩
        obtain ⟨b1, o1, rfl, hb1, x0, x1, hok1, ha1, ha2⟩ := (HR1.out.below HBW.out).at hd1
        obtain ⟨b2, o2, rfl, hb2, y0, y1, hok2, ha3, ha4⟩ := (HR2.out.below HBW.out).at hd2
        have e1 := getD_of (at_ev hd1)
        have e2 := getD_of (at_ev hd2)
        have hno := HN.out k
        rw [e1, e2] at hno
        have HNO := Lib.hid hno
        have HST := Lib.hid (fun (h : d1.e = d2.e) => step_lt (P := fun j => (ds1.map (·.e)).getD j default = (ds2.map (·.e)).getD j default) HJ.out (by rw [e1, e2]; exact h))
        have HSP := Lib.hid (fun W (h : Below w.heap.size wr W) => sevent_any d1 d2 W ((hok1.below h).more (Nat.le_trans HBW.out.size h.size)) ((hok2.below h).more (Nat.le_trans HBW.out.size h.size)))
        obtain ⟨w1, hw1⟩ : ∃ w1, wr.alloc (.cells #[.int .i64 d1.p, .slice d1.A d1.args.length d1.c] 42) = w1 := ⟨_, rfl⟩
        obtain ⟨w2, hw2⟩ : ∃ w2, w1.alloc (.cells #[.int .i64 d2.p, .slice d2.A d2.args.length d2.c] 42) = w2 := ⟨_, rfl⟩
        have s1 : w1.heap.size = wr.heap.size + 1 := by rw [← hw1]; simp
        have s2 : w2.heap.size = wr.heap.size + 1 + 1 := by rw [← hw2]; simp [s1]
        have z0 := HBW.out.size
        have g1 : Below wr.heap.size wr w1 := by rw [← hw1]; exact (Below.refl _ _).alloc (Nat.le_refl _) _
        have g2 : Below w1.heap.size w1 w2 := by rw [← hw2]; exact (Below.refl _ _).alloc (Nat.le_refl _) _
        have h1 : Held w1 wr.heap.size 42 #[.int .i64 d1.p, .slice d1.A d1.args.length d1.c] := by rw [← hw1]; exact heap_alloc_new wr _
        have h2 : Held w2 (wr.heap.size + 1) 42 #[.int .i64 d2.p, .slice d2.A d2.args.length d2.c] := by rw [← hw2, ← s1]; exact heap_alloc_new w1 _
        have h1' := h1.below g2 (by omega)
        have p0 := h1'.cell 0
        have p1 := h1'.cell 1
        have p2 := h2.cell 0
        have p3 := h2.cell 1
        simp at p0 p1 p2 p3
        have y0' := (g1.cell (p := ⟨b2, o2 + k * 2, none⟩) (by simpa using Nat.lt_of_lt_of_le hb2 z0)).trans y0
        have y1' := (g1.cell (p := ⟨b2, o2 + k * 2 + 1, none⟩) (by simpa using Nat.lt_of_lt_of_le hb2 z0)).trans y1
        have g12 := (g1.trans (g2.mono (by omega))).mono z0
        have HSQ := Lib.hid (HSP.out w2 g12)
        have HB2 := Lib.hid (HBW.out.trans g12)
        have hbz1 : b1 < w1.heap.size := by omega
        have hbz2 : b2 < w1.heap.size := by omega
        clear HSP hok1 hok2 e1 e2 hno hd1 hd2 h1 h2 h1' g1 g2 g12
        by_cases hp : d1.e = d2.e
        · have HJ2 := Lib.hid (HST.out hp)
          rw [decide_eq_true hp] at HSQ
          clear hp
          go_wp2_with fail
          refine HSQ.out.mono ?_
          rintro e w3 ⟨rfl, hb3⟩
          have HB3 := Lib.hid (HB2.out.trans (hb3.mono (by omega)))
          clear hb3 p0 p1 p2 p3 x0 x1 y0 y1 y0' y1'
          go_wp2_with fail
          go_roundg (N - (k + 1))
          case measure => have := HGK.out; omega
          case rel => exact ⟨k + 1, by omega, by go_num, Lib.hid rfl, HJ2, HB3⟩
        · have HR := Lib.hid (HNO.out hp)
          rw [decide_eq_false hp] at HSQ
          clear hp
          go_wp2_with fail
          refine HSQ.out.mono ?_
          rintro e w3 ⟨rfl, hb3⟩
          have HB3 := Lib.hid (HB2.out.trans (hb3.mono (by omega)))
          clear hb3 p0 p1 p2 p3 x0 x1 y0 y1 y0' y1'
          go_wp2_with fail
          go_ret
          exact ⟨by rw [HR.out]; rfl, HB3.out⟩
      · obtain rfl : k = N := by omega
        have HR := Lib.hid (HY.out (fun i hi => HJ.out i (by rw [List.length_map, HN1.out] at hi; exact hi)))
        go_wp2_with fail
        go_ret
        exact ⟨by rw [HR.out]; rfl, HBW.out⟩
  · have hlb : ((ds1.length : Int) != (ds2.length : Int)) = true := bne_iff_ne.2 (by omega)
    have hf : decide (ds1.map (·.e) = ds2.map (·.e)) = false := decide_eq_false (fun e => hl (by have := congrArg List.length e; simpa using this))
    rw [hf]
    clear hf hrow1 hrow2
    go_enter Try.func36, Try.ntmps36
    go_wp2_with fail
    go_ret
    exact ⟨rfl, Below.refl _ _⟩

set_option maxRecDepth 100000 in
set_option maxHeartbeats 2000000 in
theorem spoint_any (d1 d2 : Pm) (w : World) (g1 : d1.Ok w w.heap.size) (g2 : d2.Ok w w.heap.size) :
    Calls Try.prog 26 #[d1.val, d2.val] w fun e w' => e = .returned (.bool (decide (d1.p = d2.p))) ∧ Below w.heap.size w w' := by
  obtain ⟨-, hc1, hc2⟩ := g1.1.1.len
  obtain ⟨-, hc3, hc4⟩ := g2.1.1.len
  have f1 := g1.2
  have f2 := g2.2
  obtain ⟨p1, l1, A1, c1⟩ := d1
  obtain ⟨p2, l2, A2, c2⟩ := d2
  unfold Pm.Fits at f1 f2
  dsimp only at hc1 hc2 hc3 hc4 f1 f2
  rw [pn_eq_dec]
  dsimp only [Pm.val]
  have HIE := Lib.hid (fun W (h : Below w.heap.size w W) => evequal_any A1 c1 l1 A2 c2 l2 W ((g1.1.below h).more h.size) ((g2.1.below h).more h.size))
  clear g1 g2
  generalize decide (l1.map (·.e) = l2.map (·.e)) = E at HIE ⊢
  generalize l1.length = n1 at HIE hc1 ⊢
  generalize l2.length = n2 at HIE hc3 ⊢
  obtain ⟨w1, hw1⟩ : ∃ w1, (w.alloc (.cells #[.int .u64 p1, .slice A1 n1 c1] 39)).alloc (.cells #[.int .u64 p2, .slice A2 n2 c2] 39) = w1 := ⟨_, rfl⟩
  have s1 : w1.heap.size = w.heap.size + 1 + 1 := by rw [← hw1]; simp
  have b1 : Below w.heap.size w w1 := by rw [← hw1]; exact ((Below.refl _ _).alloc (Nat.le_refl _) _).alloc (by simp) _
  have h1 : Held w1 w.heap.size 39 #[.int .u64 p1, .slice A1 n1 c1] := by
    rw [← hw1]
    exact Held.below (heap_alloc_new w _) ((Below.refl _ _).alloc (Nat.le_refl _) _) (by simp)
  have h2 : Held w1 (w.heap.size + 1) 39 #[.int .u64 p2, .slice A2 n2 c2] := by
    rw [← hw1, show w.heap.size + 1 = (w.alloc (.cells #[.int .u64 p1, .slice A1 n1 c1] 39)).heap.size by simp]
    exact heap_alloc_new _ _
  have e0 := h1.cell 0
  have e1 := h1.cell 1
  have e2 := h2.cell 0
  have e3 := h2.cell 1
  simp at e0 e1 e2 e3
  have HB1 := Lib.hid b1
  clear h1 h2 b1
  by_cases hd : p1 = p2
  case neg =>
    have hb1 : (p1 == p2) = false := beq_eq_false_iff_ne.2 hd
    rw [decide_eq_false hd, Bool.false_and]
    clear hd
    go_enter Try.func26, Try.ntmps26
    go_wp2_with fail
    go_ret
    exact ⟨rfl, HB1.out⟩
  case pos =>
    subst hd
    rw [decide_eq_true rfl, Bool.true_and]
    have hbb : (p1 == p1) = true := by simp
    go_enter Try.func26, Try.ntmps26
    go_wp2_with fail
    refine (HIE.out _ HB1.out).mono ?_
    rintro e w7 ⟨rfl, hb7⟩
    have HB7 := Lib.hid (HB1.out.trans (hb7.mono (by omega)))
    clear hb7
    go_wp2_with fail
    go_ret
    exact ⟨rfl, HB7.out⟩

set_option maxRecDepth 100000 in
set_option maxHeartbeats 2000000 in
theorem ptequal_any (A1 : Option Addr) (c1 : Nat) (ds1 : List Pm) (A2 : Option Addr) (c2 : Nat) (ds2 : List Pm) (w : World) (hrow1 : TrRow w w.heap.size (.slice A1 ds1.length c1) ds1) (hrow2 : TrRow w w.heap.size (.slice A2 ds2.length c2) ds2) :
    Calls Try.prog 25 #[.slice A1 ds1.length c1, .slice A2 ds2.length c2, .func (.func 26) #[] #[]] w fun e w' => e = .returned (.bool (decide (ds1.map (·.p) = ds2.map (·.p)))) ∧ Below w.heap.size w w' := by
  obtain ⟨-, hc1, hc2⟩ := hrow1.1.len
  obtain ⟨-, hc3, hc4⟩ := hrow2.1.len
  by_cases hl : ds1.length = ds2.length
  · have hyes := fun h => decide_eq_true (lst_ext (l := ds1.map (·.p)) (m := ds2.map (·.p)) (by simpa using hl) h)
    have hno := fun (i : Nat) (h : (ds1.map (·.p)).getD i default ≠ (ds2.map (·.p)).getD i default) => decide_eq_false (p := ds1.map (·.p) = ds2.map (·.p)) (fun e => h (by rw [e]))
    generalize decide (ds1.map (·.p) = ds2.map (·.p)) = R at hyes hno ⊢
    have HY := Lib.hid hyes
    have HN := Lib.hid hno
    have HR1 := Lib.hid hrow1
    have HR2 := Lib.hid hrow2
    clear hyes hno hrow1 hrow2
    rw [← hl] at hc3
    have HL := Lib.hid hl
    rw [← hl] at HR2 ⊢
    clear hl
    obtain ⟨N, hN⟩ : ∃ N, ds1.length = N := ⟨_, rfl⟩
    have HN1 := Lib.hid hN
    rw [hN] at HR1 HR2 hc1 hc3 HL ⊢
    clear hN
    go_enter Try.func25, Try.ntmps25
    go_wp2_with fail
    go_loopg [17] N (fun gk i wr => ∃ k : Nat, k ≤ N ∧ i = .int .i64 k ∧ Hid (N - k = gk) ∧ Hid (∀ j, j < k → (ds1.map (·.p)).getD j default = (ds2.map (·.p)).getD j default) ∧ Hid (Below w.heap.size w wr))
    case atStart => exact ⟨0, Nat.zero_le _, rfl, Lib.hid rfl, Lib.hid (fun j h => absurd h (Nat.not_lt_zero _)), Lib.hid (Below.refl _ _)⟩
    case round =>
      obtain ⟨k, hk, rfl, HGK, HJ, HBW⟩ := hrel
      by_cases hlt : k < N
      · obtain ⟨d1, hd1⟩ : ∃ d, ds1[k]? = some d := ⟨_, List.getElem?_eq_getElem (by rw [HN1.out]; exact hlt)⟩
        obtain ⟨d2, hd2⟩ : ∃ d, ds2[k]? = some d := ⟨_, List.getElem?_eq_getElem (by rw [← HL.out]; exact hlt)⟩
        obtain ⟨b1, o1, rfl, hb1, x0, x1, hok1, ha1, ha2⟩ := (HR1.out.below HBW.out).at hd1
        obtain ⟨b2, o2, rfl, hb2, y0, y1, hok2, ha3, ha4⟩ := (HR2.out.below HBW.out).at hd2
        have e1 := getD_of (at_pn hd1)
        have e2 := getD_of (at_pn hd2)
        have hno := HN.out k
        rw [e1, e2] at hno
        have HNO := Lib.hid hno
        have HST := Lib.hid (fun (h : d1.p = d2.p) => step_lt (P := fun j => (ds1.map (·.p)).getD j default = (ds2.map (·.p)).getD j default) HJ.out (by rw [e1, e2]; exact h))
        have HSP := Lib.hid (fun W (h : Below w.heap.size wr W) => spoint_any d1 d2 W ((hok1.below h).more (Nat.le_trans HBW.out.size h.size)) ((hok2.below h).more (Nat.le_trans HBW.out.size h.size)))
        obtain ⟨w1, hw1⟩ : ∃ w1, wr.alloc (.cells #[.int .u64 d1.tm, .slice d1.A d1.evs.length d1.c] 39) = w1 := ⟨_, rfl⟩
        obtain ⟨w2, hw2⟩ : ∃ w2, w1.alloc (.cells #[.int .u64 d2.tm, .slice d2.A d2.evs.length d2.c] 39) = w2 := ⟨_, rfl⟩
        have s1 : w1.heap.size = wr.heap.size + 1 := by rw [← hw1]; simp
        have s2 : w2.heap.size = wr.heap.size + 1 + 1 := by rw [← hw2]; simp [s1]
        have z0 := HBW.out.size
        have g1 : Below wr.heap.size wr w1 := by rw [← hw1]; exact (Below.refl _ _).alloc (Nat.le_refl _) _
        have g2 : Below w1.heap.size w1 w2 := by rw [← hw2]; exact (Below.refl _ _).alloc (Nat.le_refl _) _
        have h1 : Held w1 wr.heap.size 39 #[.int .u64 d1.tm, .slice d1.A d1.evs.length d1.c] := by rw [← hw1]; exact heap_alloc_new wr _
        have h2 : Held w2 (wr.heap.size + 1) 39 #[.int .u64 d2.tm, .slice d2.A d2.evs.length d2.c] := by rw [← hw2, ← s1]; exact heap_alloc_new w1 _
        have h1' := h1.below g2 (by omega)
        have p0 := h1'.cell 0
        have p1 := h1'.cell 1
        have p2 := h2.cell 0
        have p3 := h2.cell 1
        simp at p0 p1 p2 p3
        have y0' := (g1.cell (p := ⟨b2, o2 + k * 2, none⟩) (by simpa using Nat.lt_of_lt_of_le hb2 z0)).trans y0
        have y1' := (g1.cell (p := ⟨b2, o2 + k * 2 + 1, none⟩) (by simpa using Nat.lt_of_lt_of_le hb2 z0)).trans y1
        have g12 := (g1.trans (g2.mono (by omega))).mono z0
        have HSQ := Lib.hid (HSP.out w2 g12)
        have HB2 := Lib.hid (HBW.out.trans g12)
        have hbz1 : b1 < w1.heap.size := by omega
        have hbz2 : b2 < w1.heap.size := by omega
        clear HSP hok1 hok2 e1 e2 hno hd1 hd2 h1 h2 h1' g1 g2 g12
        by_cases hp : d1.p = d2.p
        · have HJ2 := Lib.hid (HST.out hp)
          rw [decide_eq_true hp] at HSQ
          clear hp
          go_wp2_with fail
          refine HSQ.out.mono ?_
          rintro e w3 ⟨rfl, hb3⟩
          have HB3 := Lib.hid (HB2.out.trans (hb3.mono (by omega)))
          clear hb3 p0 p1 p2 p3 x0 x1 y0 y1 y0' y1'
          go_wp2_with fail
          go_roundg (N - (k + 1))
          case measure => have := HGK.out; omega
          case rel => exact ⟨k + 1, by omega, by go_num, Lib.hid rfl, HJ2, HB3⟩
        · have HR := Lib.hid (HNO.out hp)
          rw [decide_eq_false hp] at HSQ
          clear hp
          go_wp2_with fail
          refine HSQ.out.mono ?_
          rintro e w3 ⟨rfl, hb3⟩
          have HB3 := Lib.hid (HB2.out.trans (hb3.mono (by omega)))
          clear hb3 p0 p1 p2 p3 x0 x1 y0 y1 y0' y1'
          go_wp2_with fail
          go_ret
          exact ⟨by rw [HR.out]; rfl, HB3.out⟩
      · obtain rfl : k = N := by omega
        have HR := Lib.hid (HY.out (fun i hi => HJ.out i (by rw [List.length_map, HN1.out] at hi; exact hi)))
        go_wp2_with fail
        go_ret
        exact ⟨by rw [HR.out]; rfl, HBW.out⟩
  · have hlb : ((ds1.length : Int) != (ds2.length : Int)) = true := bne_iff_ne.2 (by omega)
    have hf : decide (ds1.map (·.p) = ds2.map (·.p)) = false := decide_eq_false (fun e => hl (by have := congrArg List.length e; simpa using this))
    rw [hf]
    clear hf hrow1 hrow2
    go_enter Try.func25, Try.ntmps25
    go_wp2_with fail
    go_ret
    exact ⟨rfl, Below.refl _ _⟩

theorem tsame_any (A1 : Option Addr) (c1 : Nat) (ds1 : List Pm) (A2 : Option Addr) (c2 : Nat) (ds2 : List Pm) (w : World) (hrow1 : TrRow w w.heap.size (.slice A1 ds1.length c1) ds1) (hrow2 : TrRow w w.heap.size (.slice A2 ds2.length c2) ds2) :
    Calls Try.prog 16 #[.slice A1 ds1.length c1, .slice A2 ds2.length c2] w fun e w' => e = .returned (.bool (decide (ds1.map (·.p) = ds2.map (·.p)))) ∧ Below w.heap.size w w' := by
  have HE := Lib.hid (ptequal_any A1 c1 ds1 A2 c2 ds2 w hrow1 hrow2)
  clear hrow1 hrow2
  generalize decide (ds1.map (·.p) = ds2.map (·.p)) = R at HE ⊢
  go_enter Try.func16, Try.ntmps16
  go_wp2_with fail
  refine HE.out.mono ?_
  rintro e w1 ⟨rfl, hb⟩
  go_wp2_with fail
  go_ret
  exact ⟨rfl, hb⟩
#print axioms tsame_any
end Go.Proofs.Ytcegnkbafbepbaa
