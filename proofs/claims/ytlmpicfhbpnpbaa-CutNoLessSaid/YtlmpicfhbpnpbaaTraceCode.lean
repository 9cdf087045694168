/-
  What trace's eventsOf, Event, checkEvents and Check answer.
-/
import Derived.Test.YtlmpicfhbpnpbaaTraceRows
import Derived.Carry
import Derived.Deep.RegionHeld3
import Derived.Test.YtlmpicfhbpnpbaaGives
import Derived.RangeFuncCalls
import Derived.RangeFuncBound
import Derived.Shelf.Abstract
import Derived.OwnWalkIn
import Derived.TacticsInMore
import Derived.LoopNIn
import Derived.LoopIn
import Derived.Lib.Hide
import Derived.Outline
import Derived.Test.YtlmpicfhbpnpbaaSigCode
import Derived.BigQuiet
namespace Go.Proofs.Ytlmpicfhbpnpbaa
open Go.RowKit

set_option maxRecDepth 100000 in
set_option maxHeartbeats 1000000 in
theorem checkArg_any (t : Int) (a : Ag) (hf : a.Fits) (w : World) :
    Calls Try.prog 29 #[.int .i64 t, a.val] w fun e w' => e = .returned (.int .i64 (whyG t a)) ∧ Below w.heap.size w w' := by
  obtain ⟨hl, -, -, -⟩ := hf
  unfold maxLen at hl
  have hsn := strOfNums_size a.s
  have hb1 : Below w.heap.size w (w.alloc (.cells #[.int .i64 a.t, .int .i64 a.n, .string (strOfNums a.s)] 61)) := (Below.refl _ _).alloc (Nat.le_refl _) _
  obtain ⟨at', an, as'⟩ := a
  dsimp only at hl hsn hb1 ⊢
  unfold whyG
  dsimp only
  by_cases h1 : at' = t
  · subst h1
    rw [if_neg (by simp)]
    by_cases h2 : at' = 1
    · subst h2
      by_cases h3 : as' = []
      · have s1 : (strOfNums as').toList.isEmpty = true := by rw [str_empty, h3]; rfl
        have hl0 : as'.length = 0 := by rw [h3]; rfl
        rw [if_neg (by simp [h3]), if_neg (by simp), if_neg (by omega)]
        rw [hl0] at hsn
        clear hl h3 hl0
        go_enter Try.func29, Try.ntmps29
        go_wp2_with fail
        go_ret
        exact ⟨rfl, hb1⟩
      · have s1 : (strOfNums as').toList.isEmpty = false := by
          rw [str_empty]
          cases as' with
          | nil => exact absurd rfl h3
          | cons _ _ => rfl
        rw [if_pos ⟨rfl, h3⟩]
        go_enter Try.func29, Try.ntmps29
        go_wp2_with fail
        go_ret
        exact ⟨rfl, hb1⟩
    · have h2b : (at' == 1) = false := beq_eq_false_iff_ne.2 h2
      rw [if_neg (fun h => h2 h.1)]
      by_cases h3 : at' = 2
      · subst h3
        by_cases h4 : an = 0
        · subst h4
          rw [if_neg (by simp)]
          by_cases h5 : 200 < as'.length
          · rw [if_pos h5]
            have h5i : (200 : Int) < (as'.length : Int) := by omega
            go_enter Try.func29, Try.ntmps29
            go_wp2_with fail
            go_ret
            exact ⟨rfl, hb1⟩
          · rw [if_neg h5]
            have h5i : (as'.length : Int) ≤ 200 := by omega
            go_enter Try.func29, Try.ntmps29
            go_wp2_with fail
            go_ret
            exact ⟨rfl, hb1⟩
        · rw [if_pos ⟨rfl, h4⟩]
          have h4b : (an == 0) = false := beq_eq_false_iff_ne.2 h4
          have h4c : (an != 0) = true := bne_iff_ne.2 h4
          go_enter Try.func29, Try.ntmps29
          go_wp2_with fail
          go_ret
          exact ⟨rfl, hb1⟩
      · have h3b : (at' == 2) = false := beq_eq_false_iff_ne.2 h3
        rw [if_neg (fun h => h3 h.1)]
        by_cases h5 : 200 < as'.length
        · rw [if_pos h5]
          have h5i : (200 : Int) < (as'.length : Int) := by omega
          go_enter Try.func29, Try.ntmps29
          go_wp2_with fail
          go_ret
          exact ⟨rfl, hb1⟩
        · rw [if_neg h5]
          have h5i : (as'.length : Int) ≤ 200 := by omega
          go_enter Try.func29, Try.ntmps29
          go_wp2_with fail
          go_ret
          exact ⟨rfl, hb1⟩
  · have h1b : (at' == t) = false := beq_eq_false_iff_ne.2 h1
    have h1c : (at' != t) = true := bne_iff_ne.2 h1
    rw [if_pos h1]
    go_enter Try.func29, Try.ntmps29
    go_wp2_with fail
    go_ret
    exact ⟨rfl, hb1⟩

set_option maxRecDepth 100000 in
set_option maxHeartbeats 2000000 in
theorem event_any (A : Option Addr) (c : Nat) (ds : List Pd) (x : Em) (w : World) (hrow : PredRow w w.heap.size (.slice A ds.length c) ds) (hx : x.Ok w w.heap.size) :
    Calls Try.prog 13 #[.slice A ds.length c, x.val] w fun e w' => e = .returned (.int .i64 (eventT (ds.map (·.p)) x.e)) ∧ Below w.heap.size w w' := by
  obtain ⟨hc1, hc2⟩ : ds.length ≤ c ∧ c ≤ 9223372036854775807 := by
    obtain ⟨A', c', hv, q1, q2⟩ := hrow.form
    injection hv with _ _ e3
    exact ⟨by omega, by omega⟩
  have hml : (ds.map (·.p)).length = ds.length := List.length_map _
  obtain ⟨hga, hfp⟩ := hx
  obtain ⟨-, hl1, hl2⟩ := hga.1.len
  unfold Em.Fits at hfp
  have hb1 : Below w.heap.size w (w.alloc (.cells #[.int .i64 x.p, .slice x.A x.args.length x.c] 42)) := (Below.refl _ _).alloc (Nat.le_refl _) _
  by_cases hneg : x.p < 0
  · rw [eventT_name (.inl hneg)]
    clear hrow hga
    go_enter Try.func13, Try.ntmps13
    go_wp2_with fail
    go_ret
    exact ⟨rfl, hb1⟩
  have hn0 : 0 ≤ x.p := by omega
  by_cases hbig : (ds.length : Int) ≤ x.p
  · rw [eventT_name (.inr (by rw [hml]; exact hbig))]
    clear hrow hga
    go_enter Try.func13, Try.ntmps13
    go_wp2_with fail
    go_ret
    exact ⟨rfl, hb1⟩
  obtain ⟨k, hk⟩ : ∃ k : Nat, x.p = k := ⟨x.p.toNat, by omega⟩
  have hkl : k < ds.length := by omega
  obtain ⟨d, hd⟩ : ∃ d, ds[k]? = some d := ⟨_, List.getElem?_eq_getElem hkl⟩
  obtain ⟨b, o, rfl, hb, x0, x1, hir, hfit, ha1, ha2⟩ := hrow.at hd
  have hat := @eventT_arg (ds.map (·.p)) x.e k d.p hk (at_pr hd)
  have hfound := @eventT_found (ds.map (·.p)) x.e k d.p hk (at_pr hd)
  have hnone := @eventT_none (ds.map (·.p)) x.e k d.p hk (at_pr hd)
  generalize eventT (ds.map (·.p)) x.e = R at hat hfound hnone ⊢
  have hvx : x.val = .agg #[.int .i64 k, .slice x.A x.args.length x.c] := by rw [Em.val, hk]
  rw [hvx]
  rw [hk] at hb1
  dsimp only [Em.e] at hat hfound hnone
  obtain ⟨dA, hdA⟩ : ∃ dA, d.A = dA := ⟨_, rfl⟩
  rw [hdA] at x1 hir
  obtain ⟨dc, hdc⟩ : ∃ dc, d.c = dc := ⟨_, rfl⟩
  rw [hdc] at x1 hir ha1 ha2
  obtain ⟨ts, hts⟩ : ∃ ts, d.p.args = ts := ⟨_, rfl⟩
  rw [hts] at x1 hir ha1 hat hfound hnone
  obtain ⟨xA, hxA⟩ : ∃ xA, x.A = xA := ⟨_, rfl⟩
  rw [hxA] at hga hb1 ⊢
  obtain ⟨xc, hxc⟩ : ∃ xc, x.c = xc := ⟨_, rfl⟩
  rw [hxc] at hga hb1 hl1 hl2 ⊢
  obtain ⟨gs, has⟩ : ∃ gs, x.args = gs := ⟨_, rfl⟩
  simp only [has] at hga hb1 hl1 hat hfound hnone ⊢
  have hdl := hb1.size
  have y0 := (hb1.cell (p := ⟨b, o + k * 2, none⟩) hb).trans x0
  have y1 := (hb1.cell (p := ⟨b, o + k * 2 + 1, none⟩) hb).trans x1
  clear hvx hk hdA hdc hts hxA hxc has hneg hbig hfp hd hrow hml hn0 hfit x0 x1
  clear x
  by_cases hne : gs.length ≠ ts.length
  · rw [hat hne]
    have hne1 : ((gs.length : Int) != (ts.length : Int)) = true := bne_iff_ne.2 (by omega)
    have hne2 : ((gs.length : Int) == (ts.length : Int)) = false := beq_eq_false_iff_ne.2 (by omega)
    clear hne hat hfound hnone hga hir
    go_enter Try.func13, Try.ntmps13
    go_wp2_with fail
    go_ret
    exact ⟨rfl, hb1⟩
  have hle : gs.length = ts.length := by omega
  rw [← hle] at y1 hir ha1
  have HF := Lib.hid (fun r hr => hfound hle (r := r) hr)
  have HNO := Lib.hid (hnone hle)
  have HGA := Lib.hid hga
  have HIR := Lib.hid hir
  have HB1 := Lib.hid hb1
  have HLE := Lib.hid hle
  clear hne hat hfound hnone hga hir hle hb1
  go_enter Try.func13, Try.ntmps13
  go_wp2_with fail
  rename _ ∧ ¬ ds.length ≤ k => hq
  clear hq
  go_loopg [34] gs.length (fun gm i wr => ∃ m : Nat, m ≤ gs.length ∧ i = .int .i64 m ∧ Hid (gs.length - m = gm) ∧ Hid (∀ j, j < m → whyG (ts.getD j 0) (gs.getD j default) = 0) ∧ Hid (Below w.heap.size w wr))
  case atStart => exact ⟨0, Nat.zero_le _, rfl, Lib.hid rfl, Lib.hid (fun j h => absurd h (Nat.not_lt_zero _)), HB1⟩
  case round =>
    obtain ⟨m, hm, rfl, HGM, HJ, HB⟩ := hrel
    clear y0 y1
    by_cases hml : m < gs.length
    · obtain ⟨a, ha⟩ : ∃ a, gs[m]? = some a := ⟨_, List.getElem?_eq_getElem hml⟩
      obtain ⟨b2, o2, rfl, hb2, ht⟩ := (HIR.out.below HB.out).at (i := m) (by have := HLE.out; omega)
      obtain ⟨b3, o3, rfl, hb3, z0, z1, z2, hfit⟩ := (HGA.out.below HB.out).at ha
      have hz := HB.out.size
      have HCA := Lib.hid (fun W => checkArg_any (ts.getD m 0) a hfit W)
      have HFM := HF.out m hml HJ.out
      have HST := Lib.hid (step_lt (P := fun j => whyG (ts.getD j 0) (gs.getD j default) = 0) (k := m) HJ.out)
      rw [getD_of ha] at HFM HST
      have HWF := Lib.hid HFM
      generalize ts.getD m 0 = t at ht HCA HWF HST
      obtain ⟨r, hr⟩ : ∃ r, whyG t a = r := ⟨_, rfl⟩
      rw [hr] at HCA HWF HST
      obtain ⟨w4, hw4⟩ : ∃ w4, wr.alloc (.cells #[.int .i64 a.t, .int .i64 a.n, .string (strOfNums a.s)] 61) = w4 := ⟨_, rfl⟩
      have s4 : w4.heap.size = wr.heap.size + 1 := by rw [← hw4, World.size_alloc]
      have hb4 : Below wr.heap.size wr w4 := by rw [← hw4]; exact (Below.refl _ _).alloc (Nat.le_refl _) _
      have hh4 : Held w4 wr.heap.size 61 #[.int .i64 a.t, .int .i64 a.n, .string (strOfNums a.s)] := by rw [← hw4]; exact heap_alloc_new wr _
      have HB4 := Lib.hid (HB.out.trans (hb4.mono hz))
      have HALL := Lib.hid (fun W (h : Below w4.heap.size w4 W) => (show W.cell? ⟨b2, o2 + m, none⟩ = some (.int .i64 t) ∧ W.cell? ⟨wr.heap.size, 0, none⟩ = some (.int .i64 a.t) ∧ W.cell? ⟨wr.heap.size, 1, none⟩ = some (.int .i64 a.n) ∧ W.cell? ⟨wr.heap.size, 2, none⟩ = some (.string (strOfNums a.s)) from by
        have hh := hh4.below h (by omega)
        have v0 := hh.cell 0
        have v1 := hh.cell 1
        have v2 := hh.cell 2
        simp at v0 v1 v2
        exact ⟨(h.cell (p := ⟨b2, o2 + m, none⟩) (by simp only; omega)).trans ((hb4.cell (p := ⟨b2, o2 + m, none⟩) (by simp only; omega)).trans ht), v0, v1, v2⟩))
      clear ha hfit HFM hr hb4 hh4
      go_wp2_with fail
      clear hw4
      go_region_held3 (fun W => Below w4.heap.size w4 W ∧ W.cell? ⟨b2, o2 + m, none⟩ = some (.int .i64 t) ∧ W.cell? ⟨wr.heap.size, 0, none⟩ = some (.int .i64 a.t) ∧ W.cell? ⟨wr.heap.size, 1, none⟩ = some (.int .i64 a.n) ∧ W.cell? ⟨wr.heap.size, 2, none⟩ = some (.string (strOfNums a.s)))
        (first | exact ⟨Below.refl _ _, HALL.out _ (Below.refl _ _)⟩ | exact ⟨(Below.refl _ _).drew, HALL.out _ (Below.refl _ _).drew⟩ | exact ⟨b5, HALL.out _ b5⟩)
        (first | (go_at_call 29; refine (HCA.out _).mono ?_; rintro e w5 ⟨rfl, hb5⟩; have b5 : Below w4.heap.size w4 w5 := (Below.refl w4.heap.size w4).drew.trans hb5))
      have HB5 := Lib.hid (HB4.out.trans (b5.mono HB4.out.size))
      clear b5
      by_cases h0 : r = 0
      · subst h0
        have HST2 := Lib.hid (HST.out rfl)
        go_wp2_with fail
        go_roundg (gs.length - (m + 1))
        case measure => have := HGM.out; omega
        case rel => exact ⟨m + 1, by omega, by go_num, Lib.hid rfl, HST2, HB5⟩
      · have HR := Lib.hid (HWF.out h0)
        have h1 : (r == 0) = false := beq_eq_false_iff_ne.2 h0
        have h2 : (r != 0) = true := bne_iff_ne.2 h0
        clear h0
        go_wp2_with fail
        go_ret
        exact ⟨by rw [HR.out]; rfl, HB5.out⟩
    · obtain rfl : m = gs.length := by omega
      have HR := Lib.hid (HNO.out HJ.out)
      go_wp2_with fail
      go_ret
      exact ⟨by rw [HR.out]; rfl, HB.out⟩
#print axioms event_any
end Go.Proofs.Ytlmpicfhbpnpbaa

namespace Go.Proofs.Ytlmpicfhbpnpbaa
open Go.RowKit Go.Shelf

attribute [local go_sem] Oper.semAt_some

/-- All events of points; all arguments of events. -/
def evsOf (l : List Pm) : List Em := l.flatMap (·.evs)
def agsOf (l : List Em) : List Ag := l.flatMap (·.args)
theorem evsOf_succ {ps : List Pm} {k : Nat} {p : Pm} (h : ps[k]? = some p) : evsOf (ps.take (k + 1)) = evsOf (ps.take k) ++ p.evs := by
  rw [List.take_add_one, h]
  simp [evsOf]
theorem agsOf_snoc (pre : List Em) (x : Em) : agsOf (pre ++ [x]) = agsOf pre ++ x.args := by simp [agsOf]
theorem take_snoc {α : Type} {l : List α} {m : Nat} {x : α} (h : l[m]? = some x) : l.take (m + 1) = l.take m ++ [x] := by rw [List.take_add_one, h]; rfl
theorem mem_evsOf {ps : List Pm} {k m : Nat} {p : Pm} {x : Em} (h : ps[k]? = some p) (hx : p.evs[m]? = some x) : x ∈ evsOf ps := List.mem_flatMap.2 ⟨p, List.mem_of_getElem? h, List.mem_of_getElem? hx⟩
theorem evsOf_prefix {ps : List Pm} {k m : Nat} {p : Pm} (h : ps[k]? = some p) : evsOf (ps.take k) ++ p.evs.take m <+: evsOf ps := by
  have e : evsOf ps = evsOf (ps.take k) ++ (p.evs ++ evsOf (ps.drop (k + 1))) := by
    rw [← List.append_assoc, ← evsOf_succ h]
    conv => lhs; rw [← List.take_append_drop (k + 1) ps]
    simp only [evsOf, List.flatMap_append]
  rw [e]
  exact List.prefix_append_right_inj _ |>.2 ((List.take_prefix m p.evs).trans (List.prefix_append _ _))

/-- What a round keeps: what lies below n₀, and the block of the points. -/
def KeepsE (n₀ bp : Nat) (w w' : World) : Prop := Below n₀ w w' ∧ w'.heap[bp]? = w.heap[bp]?
theorem KeepsE.refl (n₀ bp : Nat) (w : World) : KeepsE n₀ bp w w := ⟨Below.refl _ _, rfl⟩
theorem KeepsE.trans {n₀ bp : Nat} {a b c : World} (h : KeepsE n₀ bp a b) (k : KeepsE n₀ bp b c) : KeepsE n₀ bp a c := ⟨h.1.trans k.1, k.2.trans h.2⟩
theorem KeepsE.alloc {n₀ bp : Nat} {w : World} (h1 : n₀ ≤ w.heap.size) (h2 : bp < w.heap.size) (o : Obj) : KeepsE n₀ bp w (w.alloc o) := ⟨(Below.refl _ _).alloc h1 _, Below.heap_alloc _ _ _ h2⟩
theorem KeepsE.turn {n₀ bp : Nat} {w : World} (hn : n₀ ≤ w.heap.size) (hB : bp < w.heap.size) (W : World) (l : Nat) (o o' : Obj) (hl : w.heap.size ≤ l) (h : W.heap[l]? = some o) (_ : o.isCells = false) : KeepsE n₀ bp W (W.putObj l o') :=
  ⟨(Below.refl n₀ W).grown (grownBy_putObj' W l o') (by have := (Array.getElem?_eq_some_iff.1 h).1; omega) (fun k e => by cases e; omega), World.putObj_heap_other (by omega)⟩
/-- The points lie in block bp. -/
def PtsAt (w : World) (bp : Nat) (A : Option Addr) (ps : List Pm) : Prop := 0 < ps.length → ∃ o, A = some ⟨bp, o, none⟩ ∧ ∀ i u, (flatN ps)[i]? = some u → w.cell? ⟨bp, o + i, none⟩ = some u
theorem PtsAt.keep {w w' : World} {bp : Nat} {A : Option Addr} {ps : List Pm} (h : PtsAt w bp A ps) (hk : w'.heap[bp]? = w.heap[bp]?) : PtsAt w' bp A ps := fun hn => by
  obtain ⟨o, e, hc⟩ := h hn
  exact ⟨o, e, fun i u hi => (World.cell?_of_block (a := ⟨bp, o + i, none⟩) hk).trans (hc i u hi)⟩
theorem PtsAt.at {w : World} {bp : Nat} {A : Option Addr} {ps : List Pm} (h : PtsAt w bp A ps) {k : Nat} {p : Pm} (hp : ps[k]? = some p) : ∃ o, A = some ⟨bp, o, none⟩ ∧ w.cell? ⟨bp, o + k * 2, none⟩ = some (.int .u64 p.tm) ∧ w.cell? ⟨bp, o + k * 2 + 1, none⟩ = some (.slice p.A p.evs.length p.c) := by
  have hlt := (List.getElem?_eq_some_iff.1 hp).1
  obtain ⟨o, e, hc⟩ := h (by omega)
  obtain ⟨f0, f1⟩ := flatN_at ps k p hp
  exact ⟨o, e, hc _ _ f0, hc _ _ f1⟩

set_option maxRecDepth 100000 in
set_option maxHeartbeats 2000000 in
theorem events_in (n : Nat) (hn : 1 ≤ n) (l Bn n₀ bp : Nat) (A : Option Addr) (c : Nat) (ps : List Pm) (hpc : ps.length ≤ c ∧ c ≤ 9223372036854775807) (J Jx : List Em → World → Prop) (W : World) (hJ : Abides W.heap.size J)
    (hY : ∀ pre x W1, J pre W1 → (x ∈ evsOf ps ∧ pre ++ [x] <+: evsOf ps) → W.heap.size ≤ W1.heap.size → YieldAt Fence.wide (n - 1) Try.prog l #[x.val] W1 fun e W' => (e = .returned (.bool true) ∧ J (pre ++ [x]) W' ∧ KeepsE n₀ bp W1 W') ∨ (e = .returned (.bool false) ∧ Jx (pre ++ [x]) W'))
    (hBn : W.cell? ⟨Bn, 0, none⟩ = some (.slice A ps.length c)) (hn0 : n₀ ≤ W.heap.size) (hbp : bp < W.heap.size) (hat : PtsAt W bp A ps) (hps : ∀ p ∈ ps, p.Ok W n₀) (h0 : J [] W) :
    CallsIn Fence.wide n Try.prog 51 #[.func (.yield l) #[] #[], .pointer (some ⟨Bn, 0, none⟩)] W fun e W' => (∃ v, e = .returned v) ∧ ((∃ xs, xs = evsOf ps ∧ J xs W') ∨ (∃ pre, pre <+: evsOf ps ∧ Jx pre W')) := by
  refine callsIn_of_wp Try.func51 rfl trivial ?_ rfl
  simp only [Try.ntmps51, List.size_toArray, List.length_cons, List.length_nil, Nat.reduceAdd, Nat.reduceSub, Array.replicate_succ, Array.replicate_zero, List.push_toArray, List.append_toArray, List.nil_append, List.cons_append]
  have HAT := Lib.hid hat
  have HPS := Lib.hid hps
  have HY := Lib.hid hY
  have HJA := Lib.hid hJ
  have HH0 := Lib.hid h0
  obtain ⟨hpc1, hpc2⟩ := hpc
  clear hat hps hY hJ h0
  gi_wp2
  gi_loopw [9] (fun i wr => ∃ k : Nat, k ≤ ps.length ∧ i = .int .i64 k ∧ Hid (J (evsOf (ps.take k)) wr) ∧ Hid (KeepsE n₀ bp W wr)) (fun i _ => ps.length - (intOf i).toNat)
  case atStart => exact ⟨0, Nat.zero_le _, rfl, Lib.hid (by simpa [evsOf] using HH0.out), Lib.hid (KeepsE.refl _ _ _)⟩
  case round =>
    obtain ⟨k, hk, rfl, HJ, HK⟩ := hrel
    by_cases hlt : k < ps.length
    · obtain ⟨p, hp⟩ : ∃ p, ps[k]? = some p := ⟨_, List.getElem?_eq_getElem hlt⟩
      obtain ⟨o, rfl, x0, x1⟩ := (HAT.out.keep HK.out.2).at hp
      have hok := HPS.out p (List.mem_of_getElem? hp)
      obtain ⟨_, hl1, hl2⟩ := hok.1.1.len
      have hzr := HK.out.1.size
      have HP := Lib.hid hp
      have HOK := Lib.hid hok
      have hj2 := HJA.out _ _ _ HJ.out (Calm.alloc _ wr (.cells #[.int .u64 p.tm, .slice p.A p.evs.length p.c] 39))
      have hk2 := HK.out.trans (KeepsE.alloc (by omega) (by omega) (.cells #[.int .u64 p.tm, .slice p.A p.evs.length p.c] 39))
      have HJ2 := Lib.hid hj2
      have HK2 := Lib.hid hk2
      clear hp hok hj2 hk2 HJ HK
      obtain ⟨wx, hwx⟩ : ∃ wx, wx = wr := ⟨_, rfl⟩
      subst hwx
      gi_wp2
      gi_loopw [16] (fun i wr => ∃ m : Nat, m ≤ p.evs.length ∧ i = .int .i64 m ∧ Hid (J (evsOf (ps.take k) ++ p.evs.take m) wr) ∧ Hid (KeepsE n₀ bp W wr)) (fun i _ => p.evs.length - (intOf i).toNat)
      case atStart => exact ⟨0, Nat.zero_le _, rfl, Lib.hid (by simpa using HJ2.out), HK2⟩
      case round =>
        obtain ⟨m, hm, rfl, HJ3, HK3⟩ := hrel
        clear HJ2 HK2 x0 x1 hzr
        have hzr := HK3.out.1.size
        by_cases hml : m < p.evs.length
        · obtain ⟨x, hx⟩ : ∃ x, p.evs[m]? = some x := ⟨_, List.getElem?_eq_getElem hml⟩
          obtain ⟨pA, hpA⟩ : ∃ pA, p.A = pA := ⟨_, rfl⟩
          have hea := (HOK.out.below HK3.out.1).1
          rw [hpA] at hea ⊢
          obtain ⟨b2, o2, rfl, hb2, y0, y1, _, hl3, hl4⟩ := hea.at hx
          obtain ⟨fn, tmps, assign, body, hy, hR⟩ := HY.out _ x _ (HJA.out _ _ _ HJ3.out (Calm.alloc _ wr (.cells #[.int .i64 x.p, .slice x.A x.args.length x.c] 42))) ⟨mem_evsOf HP.out hx, by rw [List.append_assoc, ← take_snoc hx]; exact evsOf_prefix HP.out⟩ (by simp; omega)
          dsimp only [Em.val] at hy
          have HX := Lib.hid hx
          have HKA := Lib.hid (HK3.out.trans (KeepsE.alloc (by omega) (by omega) (.cells #[.int .i64 x.p, .slice x.A x.args.length x.c] 42)))
          have HR := Lib.hid hR
          clear hx hea hpA hR
          gi_wp2
          refine HR.out.mono ?_
          rintro e W3 (⟨rfl, hJ3, hk3⟩ | ⟨rfl, hJx3⟩)
          · have HJ4 := Lib.hid hJ3
            have HK4 := Lib.hid (HKA.out.trans hk3)
            clear hJ3 hk3 hy HR
            gi_wp2
            go_roundw
            case rel => exact ⟨m + 1, by omega, by go_num, Lib.hid (by rw [take_snoc HX.out, ← List.append_assoc]; exact HJ4.out), HK4⟩
            case measure => simp [intOf]; omega
          · have HJ4 := Lib.hid hJx3
            clear hJx3 hy HR
            gi_wp2
            refine bodyPost_ret (results_none rfl _ _ _) rfl ?_
            exact ⟨⟨_, rfl⟩, .inr ⟨_, by rw [List.append_assoc, ← take_snoc HX.out]; exact evsOf_prefix HP.out, HJ4.out⟩⟩
        · obtain rfl : m = p.evs.length := by omega
          gi_wp2
          go_roundw
          case rel => exact ⟨k + 1, by omega, by go_num, Lib.hid (by rw [evsOf_succ HP.out]; simpa using HJ3.out), HK3⟩
          case measure => simp [intOf]; omega
    · obtain rfl : k = ps.length := by omega
      gi_wp2
      go_end0
      exact ⟨⟨_, rfl⟩, .inl ⟨_, rfl, by simpa using HJ.out⟩⟩
theorem events_gives (n : Nat) (hn : 1 ≤ n) (Bn n₀ bp : Nat) (A : Option Addr) (c : Nat) (ps : List Pm) (hpc : ps.length ≤ c ∧ c ≤ 9223372036854775807) (w : World)
    (hBn : Boxed w Bn 23 (.slice A ps.length c)) (hn0 : n₀ ≤ w.heap.size) (hbp : bp < w.heap.size) (hat : PtsAt w bp A ps) (hps : ∀ p ∈ ps, p.Ok w n₀) :
    Gives Fence.wide n Try.prog 51 #[.pointer (some ⟨Bn, 0, none⟩)] (fun x : Em => #[x.val]) (fun pre x => x ∈ evsOf ps ∧ pre ++ [x] <+: evsOf ps) (fun _ => KeepsE n₀ bp) (fun xs => xs = evsOf ps) (fun pre => pre <+: evsOf ps) True w := fun l J Jx W hW hJ _ hY h0 =>
  events_in n hn l Bn n₀ bp A c ps hpc J Jx W hJ (fun pre x W1 h1 h2 h3 => YieldAt.mono (hY pre x W1 h1 h2 h3) fun _ _ h => h.imp id And.right) ((hW.cell (p := ⟨Bn, 0, none⟩) hBn.lt).trans hBn.cell) (Nat.le_trans hn0 hW.size) (Nat.lt_of_lt_of_le hbp hW.size) (hat.keep (hW.block _ hbp)) (fun p hp => (hps p hp).below (hW.mono hn0)) h0

/-- trace.eventsOf, trace.argsOf: the points' slice is boxed; the function value has the box. -/
theorem eventsOf_any (A : Option Addr) (n c : Nat) (w : World) :
    Calls Try.prog 27 #[.slice A n c] w fun e w' => e = .returned (.func (.func 51) #[] #[.pointer (some ⟨w.heap.size, 0, none⟩)]) ∧ w' = w.alloc (.cells #[.slice A n c] 23) := by
  go_enter Try.func27, Try.ntmps27
  go_wp2_with fail
  go_ret
  exact ⟨rfl, rfl⟩
#print axioms events_in
end Go.Proofs.Ytlmpicfhbpnpbaa

namespace Go.Proofs.Ytlmpicfhbpnpbaa
open Go.RowKit Go.Shelf

attribute [local go_sem] Oper.semAt_some

/-- Between two rounds; behind one that leaves. -/
def CeI (sig : List Pr) (N : Nat) (A : Option Addr) (n c : Nat) (w : World) (pre : List Em) (W : World) : Prop :=
  (∀ e ∈ pre, eventT sig e.e = 0) ∧ Boxed W N 22 (.slice A n c) ∧ Boxed W (N + 2) 27 (.int .i64 0) ∧ KeepsE N (N + 3) w W
def CeX (sig : List Pr) (N : Nat) (w : World) (pre : List Em) (W : World) : Prop :=
  (∃ q x, pre = q ++ [x] ∧ (∀ e ∈ q, eventT sig e.e = 0) ∧ eventT sig x.e ≠ 0 ∧ Boxed W (N + 2) 27 (.int .i64 (eventT sig x.e))) ∧ Below N w W
theorem ceI_abides {sig : List Pr} {N n c m : Nat} {A : Option Addr} {w : World} (h : N + 3 < w.heap.size) (hm : w.heap.size ≤ m) : Abides m (CeI sig N A n c w) := by
  rintro pre X Y ⟨h1, h2, h3, h4⟩ hc
  exact ⟨h1, hc.boxed h2, hc.boxed h3, abides_below (β := Unit) (by omega) (by omega) () X Y h4.1 hc, (hc.low (N + 3) (by omega) (by have := h4.1.size; omega)).trans h4.2⟩
theorem ceX_abides {sig : List Pr} {N m : Nat} {w : World} (h : N + 3 < w.heap.size) (hm : w.heap.size ≤ m) : Abides m (CeX sig N w) := by
  rintro pre X Y ⟨⟨q, x, h1, h2, h3, h4⟩, h5⟩ hc
  exact ⟨⟨q, x, h1, h2, h3, hc.boxed h4⟩, abides_below (β := Unit) (by omega) (by omega) () X Y h5 hc⟩

set_option maxRecDepth 100000 in
set_option maxHeartbeats 2000000 in
theorem checkEvents_any (A : Option Addr) (c : Nat) (ds : List Pd) (p : Pm) (w : World) (hrow : PredRow w w.heap.size (.slice A ds.length c) ds) (hp : p.Ok w w.heap.size) :
    Calls Try.prog 25 #[.slice A ds.length c, p.val] w fun e w' => e = .returned (.int .i64 (whyE (ds.map (·.p)) p.p.evs)) ∧ Below w.heap.size w w' := by
  obtain ⟨hc1, hc2⟩ : ds.length ≤ c ∧ c ≤ 9223372036854775807 := by
    obtain ⟨A', c', hv, q1, q2⟩ := hrow.form
    injection hv with _ _ e3
    exact ⟨by omega, by omega⟩
  obtain ⟨-, hl1, hl2⟩ := hp.1.1.len
  have hml : p.p.evs.length = p.evs.length := List.length_map _
  obtain ⟨N, hN⟩ : ∃ N, w.heap.size = N := ⟨_, rfl⟩
  obtain ⟨w1, hw1⟩ : ∃ w1, ((w.alloc (.cells #[.slice A ds.length c] 22)).alloc (.cells #[.int .u64 p.tm, .slice p.A p.evs.length p.c] 39)).alloc (.cells #[.int .i64 0] 27) = w1 := ⟨_, rfl⟩
  have q1 : (w.alloc (.cells #[.slice A ds.length c] 22)).heap.size = N + 1 := by rw [World.size_alloc, hN]
  have q2 : ((w.alloc (.cells #[.slice A ds.length c] 22)).alloc (.cells #[.int .u64 p.tm, .slice p.A p.evs.length p.c] 39)).heap.size = N + 2 := by rw [World.size_alloc, q1]
  have s1 : w1.heap.size = N + 3 := by rw [← hw1, World.size_alloc, q2]
  have hbw : Below N w w1 := by rw [← hw1]; exact (((Below.refl _ _).alloc (by omega) _).alloc (by omega) _).alloc (by omega) _
  have hB0 : Boxed w1 N 22 (.slice A ds.length c) := by rw [← hw1, ← hN]; exact ((Boxed.new w _ _).alloc _).alloc _
  have hB2 : Boxed w1 (N + 2) 27 (.int .i64 0) := by rw [← hw1, ← q2]; exact Boxed.new _ _ _
  have hH1 : Held w1 (N + 1) 39 #[.int .u64 p.tm, .slice p.A p.evs.length p.c] := by rw [← hw1, ← q1]; exact (Below.heap_alloc _ _ _ (by rw [World.size_alloc]; omega)).trans (heap_alloc_new _ _)
  have y0 := hH1.cell 0
  have y1 := hH1.cell 1
  simp at y0 y1
  have z0 := hB2.cell
  have f0 := hB2.frozen
  by_cases hgt : 1024 < p.evs.length
  · rw [whyE_many (by rw [hml]; exact hgt)]
    have hgi : (1024 : Int) < (p.evs.length : Int) := by omega
    have hce := (hB2.set (.int .i64 6)).cell
    have HB := Lib.hid (fun u => hbw.trans ((Below.refl N w1).setCell (p := ⟨N + 2, 0, none⟩) (by simp) u))
    clear hrow hp hB0 hB2 hH1 hbw
    go_enter Try.func25, Try.ntmps25
    go_wp2_with fail
    refine bodyPost_ret (v := .int .i64 6) (by simp [results, Try.results25, go_sem, hce]) rfl ⟨rfl, HB.out _⟩
  · have hli : (p.evs.length : Int) ≤ 1024 := by omega
    have hfound := @whyE_found (ds.map (·.p)) p.p.evs (by omega)
    have hnone := @whyE_none (ds.map (·.p)) p.p.evs (by omega)
    generalize whyE (ds.map (·.p)) p.p.evs = R at hfound hnone ⊢
    generalize hsg : ds.map (·.p) = sig at hfound hnone
    have HEV := Lib.hid (fun (x : Em) (W : World) h1 h2 => event_any A c ds x W h1 h2)
    rw [hsg] at HEV
    rw [hN] at hrow hp
    have HROW := Lib.hid hrow
    have HOK := Lib.hid hp
    have HF := Lib.hid (fun r (hr : r < p.p.evs.length) => hfound hr)
    have HNO := Lib.hid hnone
    have hb4 : Below N w (w1.alloc (.cells #[.int .u64 p.tm, .slice p.A p.evs.length p.c] 39)) := hbw.alloc (by omega) _
    clear hrow hp hfound hnone hgt hsg z0 f0
    refine (callsIn_wide (n := 9)).1 ?_
    refine callsIn_of_wp_marks Try.func25 rfl trivial ?_ rfl
    simp only [Try.ntmps25, List.size_toArray, List.length_cons, List.length_nil, Nat.reduceAdd, Nat.reduceSub, Array.replicate_succ, Array.replicate_zero, List.push_toArray, List.append_toArray, List.nil_append, List.cons_append]
    gi_wp2_with (refine ⟨trivial, ?_⟩; gi_at_call 27; refine (callsIn_wide.2 (eventsOf_any _ _ _ _)).mono ?_; rintro e w' ⟨rfl, rfl⟩)
    obtain ⟨w2, hw2⟩ : ∃ w2, (w1.alloc (.cells #[.int .u64 p.tm, .slice p.A p.evs.length p.c] 39)).alloc (.cells #[.slice (some ⟨N + 3, 0, none⟩) 1 1] 23) = w2 := ⟨_, rfl⟩
    have q4 : (w1.alloc (.cells #[.int .u64 p.tm, .slice p.A p.evs.length p.c] 39)).heap.size = N + 4 := by rw [World.size_alloc, s1]
    have s2 : w2.heap.size = N + 5 := by rw [← hw2, World.size_alloc, q4]
    have hbw2 : Below N w w2 := by rw [← hw2]; exact hb4.alloc (by omega) _
    have hC0 : Boxed w2 N 22 (.slice A ds.length c) := by rw [← hw2]; exact (hB0.alloc _).alloc _
    have hC2 : Boxed w2 (N + 2) 27 (.int .i64 0) := by rw [← hw2]; exact (hB2.alloc _).alloc _
    have hC4 : Boxed w2 (N + 4) 23 (.slice (some ⟨N + 3, 0, none⟩) 1 1) := by rw [← hw2, ← q4]; exact Boxed.new _ _ _
    have hH3 : Held w2 (N + 3) 39 #[.int .u64 p.tm, .slice p.A p.evs.length p.c] := by rw [← hw2, ← s1]; exact (Below.heap_alloc _ _ _ (by rw [World.size_alloc]; omega)).trans (heap_alloc_new _ _)
    have x0 := hH3.cell 0
    have x1 := hH3.cell 1
    simp at x0 x1
    have hat : PtsAt w2 (N + 3) (some ⟨N + 3, 0, none⟩) [p] := by
      intro _
      refine ⟨0, rfl, fun i u hi => ?_⟩
      match i with
      | 0 => simp [flatN] at hi; rw [← hi]; exact x0
      | 1 => simp [flatN] at hi; rw [← hi]; exact x1
      | (k + 2) => simp [flatN] at hi
    have hevs : evsOf [p] = p.evs := by simp [evsOf]
    rw [hw2]
    clear hw1 hw2 q1 q2 q4 s1 hB0 hB2 hH1 y0 y1 hH3 x0 x1 hbw hb4
    have HBW2 := Lib.hid hbw2
    refine range_gives rfl (by omega) (gf := 51) (lb := #[.pointer (some ⟨N + 3 + 1, 0, none⟩)]) rfl trivial (enters_of Try.func51 (by kernel_rfl) rfl)
      (events_gives (9 - 1) (by omega) (N + 4) N (N + 3) (some ⟨N + 3, 0, none⟩) 1 [p] (by simp) w2 hC4 (by omega) (by omega) hat (fun d hd => by rw [List.mem_singleton.1 hd]; exact HOK.out.below hbw2)) (fun _ => rfl) (fun h k => h.trans k) (fun m W1 l1 o o' hl _ h hc => KeepsE.turn (w := w2) (by omega) (by omega) W1 l1 o o' hl h hc)
      (CeI sig N A ds.length c w2) (CeX sig N w2) (ceI_abides (by omega) (by omega)) (ceX_abides (by omega) (by omega)) ⟨by simp, hC0, hC2, KeepsE.refl _ _ _⟩
      (fun pre x a' W => (∃ q, a' = { tmps := #[.slice A ds.length c, p.val, .pointer (some ⟨N, 0, none⟩), .pointer (some ⟨N + 1, 0, none⟩), .pointer (some ⟨N + 2, 0, none⟩), .pointer (some ⟨q, 0, none⟩), undef, .pointer (some ⟨N + 1, 1, none⟩), .slice p.A p.evs.length p.c, .int .i64 p.evs.length, .bool (decide (1024 < (p.evs.length : Int))), .agg #[.int .u64 p.tm, .slice p.A p.evs.length p.c], .slice (some ⟨N + 3, 0, none⟩) 1 1, .func (.func 51) #[] #[.pointer (some ⟨N + 3 + 1, 0, none⟩)], x.val, undef, undef, undef, undef, undef, undef], defers := [] } ∧ Held W q 42 #[.int .i64 x.p, .slice x.A x.args.length x.c] ∧ N + 5 ≤ q) ∧ CeI sig N A ds.length c w2 pre W ∧ x ∈ evsOf [p])
      (fun pre x a' => ?own) ?take ?body ?done ?stop
    case own =>
      rintro _ X Y ⟨⟨q, e, h1, h2⟩, h3, h4⟩ hc
      exact ⟨⟨q, e, hc.held h1, h2⟩, ceI_abides (by omega) (by omega) _ _ _ h3 hc, h4⟩
    case take =>
      rintro l2 m pre x W1 K hm hm1 hI hR hK
      have hzw := hI.2.2.2.1.size
      have hcl := Calm.alloc w2.heap.size W1 (.cells #[.int .i64 x.p, .slice x.A x.args.length x.c] 42)
      have HK := Lib.hid (hK _ _ ((KeepsOthers.alloc W1 _).from _) (KeepsE.alloc (by omega) (by omega) _) ⟨⟨W1.heap.size, rfl, heap_alloc_new W1 _, by omega⟩, ceI_abides (by omega) (by omega) _ _ _ hI hcl, hR.1⟩)
      clear hK hI hR hcl hC0 hC2 hC4 hat hbw2
      gi_wp2
      exact HK.out
    case body =>
      rintro l2 m pre x a' W1 hm hm1 ⟨⟨q, rfl, hq, hbq⟩, ⟨hz, hx0, hx2, hke⟩, hx⟩
      rw [hevs] at hx
      have hb1 := HBW2.out.trans hke.1
      have hz1 := hb1.size
      have hzk := hke.1.size
      have HE := Lib.hid (HEV.out x W1 ((HROW.out.below hb1).more (by omega)) (((HOK.out.1.2 x hx).below hb1).more (by omega)))
      obtain ⟨r, hr⟩ : ∃ r, eventT sig x.e = r := ⟨_, rfl⟩
      rw [hr] at HE
      have q0 := hq.cell 0
      have q1 := hq.cell 1
      simp at q0 q1
      have c0 := hx0.cell
      have HR := Lib.hid hr
      have HZ := Lib.hid hz
      have HX0 := Lib.hid hx0
      have HX2 := Lib.hid hx2
      have HKE := Lib.hid hke
      clear hx hz hx0 hx2 hke hr hq hb1 hC0 hC2 hC4 hat hbw2
      have HBX := Lib.hid (fun (W : World) (h : Below W1.heap.size W1 W) => (show Boxed W (N + 2) 27 (.int .i64 0) from (h.block _ HX2.out.lt).trans HX2.out))
      by_cases h0 : r = 0
      · subst h0
        gi_wp2_with (refine ⟨trivial, ?_⟩; gi_at_call 13; refine (callsIn_wide.2 HE.out).mono ?_; rintro e w' ⟨rfl, hb5⟩)
        have hz5 := hb5.size
        have hlow : ∀ k, k < W1.heap.size → _ := fun k hk => hb5.block k hk
        refine ⟨⟨hz5, fun k o hk ho _ => (hlow k (Array.getElem?_eq_some_iff.1 ho).1).trans ho⟩, ⟨hb5.mono (by omega), hlow _ (by omega)⟩, ?_, (hlow _ HX0.out.lt).trans HX0.out, HBX.out _ hb5, HKE.out.trans ⟨hb5.mono (by omega), hlow _ (by omega)⟩⟩
        intro e he
        rcases List.mem_append.1 he with he | he
        · exact HZ.out e he
        · rw [List.mem_singleton.1 he]
          exact HR.out
      · have h1 : (r == 0) = false := beq_eq_false_iff_ne.2 h0
        have h2 : (r != 0) = true := bne_iff_ne.2 h0
        have H0 := Lib.hid h0
        clear h0
        gi_wp2_with (refine ⟨trivial, ?_⟩; gi_at_call 13; refine (callsIn_wide.2 HE.out).mono ?_; rintro e w' ⟨rfl, hb5⟩; have hx5 := HBX.out _ hb5; have hc5 := hx5.cell; have hf5 := hx5.frozen)
        have hz5 := hb5.size
        refine ⟨trivial, ?_, ⟨pre, x, rfl, HZ.out, by rw [HR.out]; exact H0.out, by rw [HR.out]; exact hx5.set _⟩, (HKE.out.1.trans (hb5.mono (by omega))).setCell (p := ⟨N + 2, 0, none⟩) (by simp) _⟩
        refine KeepsFrom.trans (Y := w') ⟨hz5, fun k o hk ho _ => (hb5.block k (Array.getElem?_eq_some_iff.1 ho).1).trans ho⟩ ((KeepsOthers.setCell _ _ _).from _)
    case done =>
      rintro D ys V hD rfl ⟨hz, hx0, hx2, hke⟩ hK
      have hR : R = 0 := HNO.out fun j hj => by
        rw [List.length_map] at hj
        obtain ⟨e, he⟩ : ∃ e, p.evs[j]? = some e := ⟨_, List.getElem?_eq_getElem hj⟩
        rw [getD_of (at_ev he)]
        exact hz e (by rw [hevs]; exact List.mem_of_getElem? he)
      have hst := hx2.set (.int .i64 0)
      have c2 := hx2.cell
      have f2 := hx2.frozen
      have hbl : Below N w (V.setCell ⟨N + 2, 0, none⟩ (.int .i64 0)) := (HBW2.out.trans hke.1).setCell (p := ⟨N + 2, 0, none⟩) (by simp) _
      have hKD : (V.setCell ⟨N + 2, 0, none⟩ (.int .i64 0)).heap[D]? = some (.deferred (some [])) := (Below.heap_setCell _ _ _ _ (by simp only; omega)).trans hK
      clear hz hx0 hx2 hke hC0 hC2 hC4 hat hbw2
      gi_wp2
      generalize V.setCell ⟨N + 2, 0, none⟩ (.int .i64 0) = V3 at hst hbl hKD ⊢
      refine ⟨by simp, .inl ⟨_, _, rfl, run_takeDeferred hKD, ?_⟩⟩
      have hce : (V3.putObj D (.deferred none)).cell? ⟨N + 2, 0, none⟩ = some (.int .i64 0) := (World.cell?_of_block (a := ⟨N + 2, 0, none⟩) (World.putObj_heap_other (by simp only; omega))).trans hst.cell
      exact ⟨.int .i64 0, by simp [results, Try.results25, go_sem, hce], by rw [hR], by rw [hN]; exact hbl.trans ((Below.refl N V3).grown (grownBy_putObj' V3 D (.deferred none)) (by have := (Array.getElem?_eq_some_iff.1 hKD).1; omega) (fun k e => by cases e; omega))⟩
    case stop =>
      rintro D pre V hD hS ⟨⟨q, x, rfl, hz, hne, hst⟩, hbl⟩ hKD
      rw [hevs] at hS
      have hR : R = eventT sig x.e := by
        have hx : p.evs[q.length]? = some x := by
          obtain ⟨t, ht⟩ := hS
          rw [← ht]
          simp
        have hl := (List.getElem?_eq_some_iff.1 hx).1
        have := HF.out q.length (by rw [List.length_map]; exact hl) (fun j hj => ?_) (by rw [getD_of (at_ev hx)]; exact hne)
        · rw [this, getD_of (at_ev hx)]
        · obtain ⟨e, he⟩ : ∃ e, q[j]? = some e := ⟨_, List.getElem?_eq_getElem hj⟩
          have he2 : p.evs[j]? = some e := by
            obtain ⟨t, ht⟩ := hS
            rw [← ht, List.append_assoc, List.getElem?_append_left hj]
            exact he
          rw [getD_of (at_ev he2)]
          exact hz e (List.mem_of_getElem? he)
      rw [← hR] at hst
      have hbn := HBW2.out.trans hbl
      clear hz hne hS hC0 hC2 hC4 hat hbw2 hbl
      gi_wp2
      refine ⟨by simp, .inl ⟨_, _, rfl, run_takeDeferred hKD, ?_⟩⟩
      have hce : (V.putObj D (.deferred none)).cell? ⟨N + 2, 0, none⟩ = some (.int .i64 R) := (World.cell?_of_block (a := ⟨N + 2, 0, none⟩) (World.putObj_heap_other (by simp only; omega))).trans hst.cell
      exact ⟨.int .i64 R, by simp [results, Try.results25, go_sem, hce], rfl, by rw [hN]; exact hbn.trans ((Below.refl N V).grown (grownBy_putObj' V D (.deferred none)) (by have := (Array.getElem?_eq_some_iff.1 hKD).1; omega) (fun k e => by cases e; omega))⟩
#print axioms checkEvents_any
end Go.Proofs.Ytlmpicfhbpnpbaa

namespace Go.Proofs.Ytlmpicfhbpnpbaa
open Go.RowKit Go.Shelf

set_option maxRecDepth 100000 in
set_option maxHeartbeats 2000000 in
theorem tcheck_any (A : Option Addr) (c : Nat) (ds : List Pd) (T : Option Addr) (ct : Nat) (ps : List Pm) (w : World) (hrow : PredRow w w.heap.size (.slice A ds.length c) ds) (ht : TrRow w w.heap.size (.slice T ps.length ct) ps) :
    Calls Try.prog 9 #[.slice A ds.length c, .slice T ps.length ct] w fun e w' => e = .returned (.tuple #[.int .i64 (checkT (ds.map (·.p)) (ps.map (·.p))).1, .int .i64 (checkT (ds.map (·.p)) (ps.map (·.p))).2]) ∧ Below w.heap.size w w' := by
  obtain ⟨-, hc1, hc2⟩ := ht.1.len
  have HCK := Lib.hid (scheck_any A c ds w hrow)
  have hsig := @checkT_sig (ds.map (·.p)) (ps.map (·.p))
  have hfound := @checkT_found (ds.map (·.p)) (ps.map (·.p))
  have hnone := @checkT_none (ds.map (·.p)) (ps.map (·.p))
  have HEV := Lib.hid (fun (p : Pm) (W : World) h1 h2 => checkEvents_any A c ds p W h1 h2)
  generalize checkT (ds.map (·.p)) (ps.map (·.p)) = R at hsig hfound hnone ⊢
  generalize ds.map (·.p) = sig at hsig hfound hnone HCK HEV
  obtain ⟨s, hs⟩ : ∃ s, checkP sig = s := ⟨_, rfl⟩
  rw [hs] at hsig hfound hnone HCK
  have HROW := Lib.hid hrow
  have HTR := Lib.hid ht
  clear hrow ht
  by_cases h0 : s = 0
  case neg =>
    have HR := Lib.hid (hsig h0)
    have h1 : (s == 0) = false := beq_eq_false_iff_ne.2 h0
    have h2 : (s != 0) = true := bne_iff_ne.2 h0
    clear h0 hsig hfound hnone
    go_enter Try.func9, Try.ntmps9
    go_wp2_with fail
    refine HCK.out.mono ?_
    rintro e w1 ⟨rfl, hb1⟩
    go_wp2_with fail
    exact bodyPost_ret (v := .tuple #[.int .i64 s, .int .i64 0]) (by simp [results, Try.results9, go_sem]) rfl ⟨by rw [HR.out], hb1⟩
  subst h0
  have HF := Lib.hid (fun r (hr : r < (ps.map (·.p)).length) => hfound rfl hr)
  have HNO := Lib.hid (hnone rfl)
  clear hsig hfound hnone hs
  go_enter Try.func9, Try.ntmps9
  go_wp2_with fail
  refine HCK.out.mono ?_
  rintro e w1 ⟨rfl, hb1⟩
  have HB1 := Lib.hid hb1
  clear hb1
  go_wp2_with fail
  go_loopg [17] ps.length (fun gk i wr => ∃ k : Nat, k ≤ ps.length ∧ i = .int .i64 k ∧ Hid (ps.length - k = gk) ∧ Hid (∀ j, j < k → whyT sig (ps.map (·.p)) j = 0) ∧ Hid (Below w.heap.size w wr))
  case atStart => exact ⟨0, Nat.zero_le _, rfl, Lib.hid rfl, Lib.hid (fun j h => absurd h (Nat.not_lt_zero _)), HB1⟩
  case round =>
    obtain ⟨k, hk, rfl, HGK, HJ, HB⟩ := hrel
    by_cases hlt : k < ps.length
    · obtain ⟨d, hd⟩ : ∃ d, ps[k]? = some d := ⟨_, List.getElem?_eq_getElem hlt⟩
      have hz := HB.out.size
      obtain ⟨b, o, rfl, hb, x0, x1, hok, hl1, hl2⟩ := (HTR.out.below HB.out).at hd
      have hfd := hok.2
      unfold Pm.Fits at hfd
      obtain ⟨w4, hw4⟩ : ∃ w4, wr.alloc (.cells #[.int .u64 d.tm, .slice d.A d.evs.length d.c] 39) = w4 := ⟨_, rfl⟩
      have s4 : w4.heap.size = wr.heap.size + 1 := by rw [← hw4, World.size_alloc]
      have hb4 : Below wr.heap.size wr w4 := by rw [← hw4]; exact (Below.refl _ _).alloc (Nat.le_refl _) _
      have hh4 : Held w4 wr.heap.size 39 #[.int .u64 d.tm, .slice d.A d.evs.length d.c] := by rw [← hw4]; exact heap_alloc_new wr _
      have HB4 := Lib.hid (HB.out.trans (hb4.mono hz))
      have y0 := hh4.cell 0
      have y1 := hh4.cell 1
      simp at y0 y1
      have HOK := Lib.hid hok
      have HD := Lib.hid hd
      obtain ⟨r, hr⟩ : ∃ r, whyE sig d.p.evs = r := ⟨_, rfl⟩
      have HE := Lib.hid (fun (W : World) (hb : Below w4.heap.size w4 W) => HEV.out d W ((HROW.out.below (HB4.out.trans (hb.mono (by omega)))).more (by have := hb.size; omega)) ((hok.below ((hb4.mono hz).trans (hb.mono (by omega)))).more (by have := hb.size; omega)))
      rw [hr] at HE
      have HRR := Lib.hid hr
      clear hok hd hr hh4
      by_cases hk0 : 0 < k
      · obtain ⟨e, he⟩ : ∃ e, ps[k - 1]? = some e := ⟨_, List.getElem?_eq_getElem (by omega)⟩
        obtain ⟨b', o', ee, hb', z0, _, hoe, _⟩ := (HTR.out.below HB.out).at he
        have hfe := hoe.2
        unfold Pm.Fits at hfe
        injection ee with ee
        injection ee with e1 e2 _
        subst e1 e2
        have z4 := (hb4.cell (p := ⟨b, o + (k - 1) * 2, none⟩) (by simp only; omega)).trans z0
        obtain ⟨j, hj⟩ : ∃ j, k - 1 = j := ⟨_, rfl⟩
        have hkj : k = j + 1 := by omega
        rw [hj] at z4
        rw [hj] at he
        have HE1 := Lib.hid he
        clear he hoe z0 hj
        have hki : (k : Int) - 1 = (j : Int) := by omega
        have hek : (ps.map (·.p)).getD k default = d.p := getD_of (at_pn HD.out)
        have hej : (ps.map (·.p)).getD (k - 1) default = e.p := by rw [show k - 1 = j by omega]; exact getD_of (at_pn HE1.out)
        by_cases htm : d.tm < e.tm
        · have hw : whyT sig (ps.map (·.p)) k = 8 := whyT_order ⟨hk0, by rw [hek, hej]; exact htm⟩
          have HR := Lib.hid ((HF.out k (by rw [List.length_map]; exact hlt) HJ.out (by rw [hw]; decide)).trans (by rw [hw]))
          clear hw hkj hek hej
          go_wp2_with fail
          go_quiet (fail)
          go_wp2_with fail
          exact bodyPost_ret (v := .tuple #[.int .i64 8, .int .i64 k]) (by simp [results, Try.results9, go_sem]) rfl ⟨by rw [HR.out], HB4.out.trans (drewN_low _ _ _)⟩
        · have hw : whyT sig (ps.map (·.p)) k = r := by
            rw [whyT_else (by rw [hek, hej]; exact fun h => htm h.2), hek]
            exact HRR.out
          have hge : e.tm ≤ d.tm := by omega
          have HW := Lib.hid hw
          clear hw hkj htm hek hej
          go_wp2_with fail
          go_quiet (fail)
          go_wp2_with fail
          refine (HE.out _ (drewN_low _ _ _)).mono ?_
          rintro e5 w5 ⟨rfl, hb5⟩
          have HB5 := Lib.hid (HB4.out.trans ((drewN_low w4 _ _).trans (hb5.mono (show w.heap.size ≤ w4.heap.size by omega))))
          clear hb5
          by_cases h0 : r = 0
          · subst h0
            have HJ2 := Lib.hid (step_lt (P := fun j => whyT sig (ps.map (·.p)) j = 0) HJ.out HW.out)
            go_wp2_with fail
            go_roundg (ps.length - (k + 1))
            case measure => have := HGK.out; omega
            case rel => exact ⟨k + 1, by omega, by go_num, Lib.hid rfl, HJ2, HB5⟩
          · have HR := Lib.hid ((HF.out k (by rw [List.length_map]; exact hlt) HJ.out (by rw [HW.out]; exact h0)).trans (by rw [HW.out]))
            have h1 : (r == 0) = false := beq_eq_false_iff_ne.2 h0
            have h2 : (r != 0) = true := bne_iff_ne.2 h0
            clear h0
            go_wp2_with fail
            exact bodyPost_ret (v := .tuple #[.int .i64 r, .int .i64 k]) (by simp [results, Try.results9, go_sem]) rfl ⟨by rw [HR.out], HB5.out⟩
      · have hw : whyT sig (ps.map (·.p)) k = r := by
          rw [whyT_else (fun h => hk0 h.1), getD_of (at_pn HD.out)]
          exact HRR.out
        have HW := Lib.hid hw
        have hkd : decide (0 < (k : Int)) = false := decide_eq_false (by omega)
        clear hw
        go_wp2_with fail
        go_quiet (fail)
        go_wp2_with fail
        refine (HE.out _ (drewN_low _ _ _)).mono ?_
        rintro e5 w5 ⟨rfl, hb5⟩
        have HB5 := Lib.hid (HB4.out.trans ((drewN_low w4 _ _).trans (hb5.mono (show w.heap.size ≤ w4.heap.size by omega))))
        clear hb5
        by_cases h0 : r = 0
        · subst h0
          have HJ2 := Lib.hid (step_lt (P := fun j => whyT sig (ps.map (·.p)) j = 0) HJ.out HW.out)
          go_wp2_with fail
          go_roundg (ps.length - (k + 1))
          case measure => have := HGK.out; omega
          case rel => exact ⟨k + 1, by omega, by go_num, Lib.hid rfl, HJ2, HB5⟩
        · have HR := Lib.hid ((HF.out k (by rw [List.length_map]; exact hlt) HJ.out (by rw [HW.out]; exact h0)).trans (by rw [HW.out]))
          have h1 : (r == 0) = false := beq_eq_false_iff_ne.2 h0
          have h2 : (r != 0) = true := bne_iff_ne.2 h0
          clear h0
          go_wp2_with fail
          exact bodyPost_ret (v := .tuple #[.int .i64 r, .int .i64 k]) (by simp [results, Try.results9, go_sem]) rfl ⟨by rw [HR.out], HB5.out⟩
    · obtain rfl : k = ps.length := by omega
      have HR := Lib.hid (HNO.out (fun j hj => HJ.out j (by rwa [List.length_map] at hj)))
      go_wp2_with fail
      exact bodyPost_ret (v := .tuple #[.int .i64 0, .int .i64 0]) (by simp [results, Try.results9, go_sem]) rfl ⟨by rw [HR.out], HB.out⟩
#print axioms tcheck_any
end Go.Proofs.Ytlmpicfhbpnpbaa
