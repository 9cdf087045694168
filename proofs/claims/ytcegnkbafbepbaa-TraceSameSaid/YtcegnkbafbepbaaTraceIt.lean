/-
  trace.eventsOf, trace.argsOf: what may be ranged over hands on events, arguments, in order.
-/
import Derived.Test.YtcegnkbafbepbaaGives
import Derived.Test.YtcegnkbafbepbaaTraceRows
import Derived.RangeFuncCalls
import Derived.RangeFuncBound
import Derived.Shelf.Abstract
import Derived.OwnWalkIn
import Derived.TacticsInMore
import Derived.LoopNIn
import Derived.LoopIn
import Derived.Lib.Hide
import Derived.Outline
namespace Go.Proofs.Ytcegnkbafbepbaa
open Go.RowKit Go.Shelf

attribute [local go_sem] Oper.semAt_some

/-- All events of points; all arguments of events. -/
def evsOf (l : List Pm) : List Em := l.flatMap (·.evs)
def agsOf (l : List Em) : List Ag := l.flatMap (·.args)
theorem evsOf_succ {ps : List Pm} {k : Nat} {p : Pm} (h : ps[k]? = some p) : evsOf (ps.take (k + 1)) = evsOf (ps.take k) ++ p.evs := by
  rw [List.take_add_one, h]
  simp [evsOf]
theorem agsOf_snoc (pre : List Em) (x : Em) : agsOf (pre ++ [x]) = agsOf pre ++ x.args := by simp [agsOf]
theorem take_snoc {α : Type} {l : List α} {m : Nat} {x : α} (h : l[m]? = some x) : l.take (m + 1) = l.take m ++ [x] := by rw [List.take_add_one, h]; rfl
theorem mem_evsOf {ps : List Pm} {k m : Nat} {p : Pm} {x : Em} (h : ps[k]? = some p) (hx : p.evs[m]? = some x) : x ∈ evsOf ps := List.mem_flatMap.2 ⟨p, List.mem_of_getElem? h, List.mem_of_getElem? hx⟩
theorem evsOf_prefix {ps : List Pm} {k m : Nat} {p : Pm} (h : ps[k]? = some p) : evsOf (ps.take k) ++ p.evs.take m <+: evsOf ps := by
  have e : evsOf ps = evsOf (ps.take k) ++ (p.evs ++ evsOf (ps.drop (k + 1))) := by
    rw [← List.append_assoc, ← evsOf_succ h]
    conv => lhs; rw [← List.take_append_drop (k + 1) ps]
    simp only [evsOf, List.flatMap_append]
  rw [e]
  exact List.prefix_append_right_inj _ |>.2 ((List.take_prefix m p.evs).trans (List.prefix_append _ _))

/-- What a round keeps: what lies below n₀, and the block of the points. -/
def KeepsE (n₀ bp : Nat) (w w' : World) : Prop := Below n₀ w w' ∧ w'.heap[bp]? = w.heap[bp]?
theorem KeepsE.refl (n₀ bp : Nat) (w : World) : KeepsE n₀ bp w w := ⟨Below.refl _ _, rfl⟩
theorem KeepsE.trans {n₀ bp : Nat} {a b c : World} (h : KeepsE n₀ bp a b) (k : KeepsE n₀ bp b c) : KeepsE n₀ bp a c := ⟨h.1.trans k.1, k.2.trans h.2⟩
theorem KeepsE.alloc {n₀ bp : Nat} {w : World} (h1 : n₀ ≤ w.heap.size) (h2 : bp < w.heap.size) (o : Obj) : KeepsE n₀ bp w (w.alloc o) := ⟨(Below.refl _ _).alloc h1 _, Below.heap_alloc _ _ _ h2⟩
theorem KeepsE.turn {n₀ bp : Nat} {w : World} (hn : n₀ ≤ w.heap.size) (hB : bp < w.heap.size) (W : World) (l : Nat) (o o' : Obj) (hl : w.heap.size ≤ l) (h : W.heap[l]? = some o) (_ : o.isCells = false) : KeepsE n₀ bp W (W.putObj l o') :=
  ⟨(Below.refl n₀ W).grown (grownBy_putObj' W l o') (by have := (Array.getElem?_eq_some_iff.1 h).1; omega) (fun k e => by cases e; omega), World.putObj_heap_other (by omega)⟩
/-- The points lie in block bp. -/
def PtsAt (w : World) (bp : Nat) (A : Option Addr) (ps : List Pm) : Prop := 0 < ps.length → ∃ o, A = some ⟨bp, o, none⟩ ∧ ∀ i u, (flatN ps)[i]? = some u → w.cell? ⟨bp, o + i, none⟩ = some u
theorem PtsAt.keep {w w' : World} {bp : Nat} {A : Option Addr} {ps : List Pm} (h : PtsAt w bp A ps) (hk : w'.heap[bp]? = w.heap[bp]?) : PtsAt w' bp A ps := fun hn => by
  obtain ⟨o, e, hc⟩ := h hn
  exact ⟨o, e, fun i u hi => (World.cell?_of_block (a := ⟨bp, o + i, none⟩) hk).trans (hc i u hi)⟩
theorem PtsAt.at {w : World} {bp : Nat} {A : Option Addr} {ps : List Pm} (h : PtsAt w bp A ps) {k : Nat} {p : Pm} (hp : ps[k]? = some p) : ∃ o, A = some ⟨bp, o, none⟩ ∧ w.cell? ⟨bp, o + k * 2, none⟩ = some (.int .u64 p.tm) ∧ w.cell? ⟨bp, o + k * 2 + 1, none⟩ = some (.slice p.A p.evs.length p.c) := by
  have hlt := (List.getElem?_eq_some_iff.1 hp).1
  obtain ⟨o, e, hc⟩ := h (by omega)
  obtain ⟨f0, f1⟩ := flatN_at ps k p hp
  exact ⟨o, e, hc _ _ f0, hc _ _ f1⟩

set_option maxRecDepth 100000 in
set_option maxHeartbeats 2000000 in
theorem events_in (n : Nat) (hn : 1 ≤ n) (l Bn n₀ bp : Nat) (A : Option Addr) (c : Nat) (ps : List Pm) (hpc : ps.length ≤ c ∧ c ≤ 9223372036854775807) (J Jx : List Em → World → Prop) (W : World) (hJ : Abides W.heap.size J)
    (hY : ∀ pre x W1, J pre W1 → (x ∈ evsOf ps ∧ pre ++ [x] <+: evsOf ps) → W.heap.size ≤ W1.heap.size → YieldAt Fence.wide (n - 1) Try.prog l #[x.val] W1 fun e W' => (e = .returned (.bool true) ∧ J (pre ++ [x]) W' ∧ KeepsE n₀ bp W1 W') ∨ (e = .returned (.bool false) ∧ Jx (pre ++ [x]) W'))
    (hBn : W.cell? ⟨Bn, 0, none⟩ = some (.slice A ps.length c)) (hn0 : n₀ ≤ W.heap.size) (hbp : bp < W.heap.size) (hat : PtsAt W bp A ps) (hps : ∀ p ∈ ps, p.Ok W n₀) (h0 : J [] W) :
    CallsIn Fence.wide n Try.prog 34 #[.func (.yield l) #[] #[], .pointer (some ⟨Bn, 0, none⟩)] W fun e W' => (∃ v, e = .returned v) ∧ ((∃ xs, xs = evsOf ps ∧ J xs W') ∨ (∃ pre, pre <+: evsOf ps ∧ Jx pre W')) := by
  refine callsIn_of_wp Try.func34 rfl trivial ?_ rfl
  simp only [Try.ntmps34, List.size_toArray, List.length_cons, List.length_nil, Nat.reduceAdd, Nat.reduceSub, Array.replicate_succ, Array.replicate_zero, List.push_toArray, List.append_toArray, List.nil_append, List.cons_append]
  have HAT := Lib.hid hat
  have HPS := Lib.hid hps
  have HY := Lib.hid hY
  have HJA := Lib.hid hJ
  have HH0 := Lib.hid h0
  obtain ⟨hpc1, hpc2⟩ := hpc
  clear hat hps hY hJ h0
  gi_wp2
  gi_loopw [9] (fun i wr => ∃ k : Nat, k ≤ ps.length ∧ i = .int .i64 k ∧ Hid (J (evsOf (ps.take k)) wr) ∧ Hid (KeepsE n₀ bp W wr)) (fun i _ => ps.length - (intOf i).toNat)
  case atStart => exact ⟨0, Nat.zero_le _, rfl, Lib.hid (by simpa [evsOf] using HH0.out), Lib.hid (KeepsE.refl _ _ _)⟩
  case round =>
    obtain ⟨k, hk, rfl, HJ, HK⟩ := hrel
    by_cases hlt : k < ps.length
    · obtain ⟨p, hp⟩ : ∃ p, ps[k]? = some p := ⟨_, List.getElem?_eq_getElem hlt⟩
      obtain ⟨o, rfl, x0, x1⟩ := (HAT.out.keep HK.out.2).at hp
      have hok := HPS.out p (List.mem_of_getElem? hp)
      obtain ⟨_, hl1, hl2⟩ := hok.1.1.len
      have hzr := HK.out.1.size
      have HP := Lib.hid hp
      have HOK := Lib.hid hok
      have hj2 := HJA.out _ _ _ HJ.out (Calm.alloc _ wr (.cells #[.int .u64 p.tm, .slice p.A p.evs.length p.c] 39))
      have hk2 := HK.out.trans (KeepsE.alloc (by omega) (by omega) (.cells #[.int .u64 p.tm, .slice p.A p.evs.length p.c] 39))
      have HJ2 := Lib.hid hj2
      have HK2 := Lib.hid hk2
      clear hp hok hj2 hk2 HJ HK
      obtain ⟨wx, hwx⟩ : ∃ wx, wx = wr := ⟨_, rfl⟩
      subst hwx
      gi_wp2
      gi_loopw [16] (fun i wr => ∃ m : Nat, m ≤ p.evs.length ∧ i = .int .i64 m ∧ Hid (J (evsOf (ps.take k) ++ p.evs.take m) wr) ∧ Hid (KeepsE n₀ bp W wr)) (fun i _ => p.evs.length - (intOf i).toNat)
      case atStart => exact ⟨0, Nat.zero_le _, rfl, Lib.hid (by simpa using HJ2.out), HK2⟩
      case round =>
        obtain ⟨m, hm, rfl, HJ3, HK3⟩ := hrel
        clear HJ2 HK2 x0 x1 hzr
        have hzr := HK3.out.1.size
        by_cases hml : m < p.evs.length
        · obtain ⟨x, hx⟩ : ∃ x, p.evs[m]? = some x := ⟨_, List.getElem?_eq_getElem hml⟩
          obtain ⟨pA, hpA⟩ : ∃ pA, p.A = pA := ⟨_, rfl⟩
          have hea := (HOK.out.below HK3.out.1).1
          rw [hpA] at hea ⊢
          obtain ⟨b2, o2, rfl, hb2, y0, y1, _, hl3, hl4⟩ := hea.at hx
          obtain ⟨fn, tmps, assign, body, hy, hR⟩ := HY.out _ x _ (HJA.out _ _ _ HJ3.out (Calm.alloc _ wr (.cells #[.int .i64 x.p, .slice x.A x.args.length x.c] 42))) ⟨mem_evsOf HP.out hx, by rw [List.append_assoc, ← take_snoc hx]; exact evsOf_prefix HP.out⟩ (by simp; omega)
          dsimp only [Em.val] at hy
          have HX := Lib.hid hx
          have HKA := Lib.hid (HK3.out.trans (KeepsE.alloc (by omega) (by omega) (.cells #[.int .i64 x.p, .slice x.A x.args.length x.c] 42)))
          have HR := Lib.hid hR
          clear hx hea hpA hR
          gi_wp2
          refine HR.out.mono ?_
          rintro e W3 (⟨rfl, hJ3, hk3⟩ | ⟨rfl, hJx3⟩)
          · have HJ4 := Lib.hid hJ3
            have HK4 := Lib.hid (HKA.out.trans hk3)
            clear hJ3 hk3 hy HR
            gi_wp2
            go_roundw
            case rel => exact ⟨m + 1, by omega, by go_num, Lib.hid (by rw [take_snoc HX.out, ← List.append_assoc]; exact HJ4.out), HK4⟩
            case measure => simp [intOf]; omega
          · have HJ4 := Lib.hid hJx3
            clear hJx3 hy HR
            gi_wp2
            refine bodyPost_ret (results_none rfl _ _ _) rfl ?_
            exact ⟨⟨_, rfl⟩, .inr ⟨_, by rw [List.append_assoc, ← take_snoc HX.out]; exact evsOf_prefix HP.out, HJ4.out⟩⟩
        · obtain rfl : m = p.evs.length := by omega
          gi_wp2
          go_roundw
          case rel => exact ⟨k + 1, by omega, by go_num, Lib.hid (by rw [evsOf_succ HP.out]; simpa using HJ3.out), HK3⟩
          case measure => simp [intOf]; omega
    · obtain rfl : k = ps.length := by omega
      gi_wp2
      go_end0
      exact ⟨⟨_, rfl⟩, .inl ⟨_, rfl, by simpa using HJ.out⟩⟩
theorem events_gives (n : Nat) (hn : 1 ≤ n) (Bn n₀ bp : Nat) (A : Option Addr) (c : Nat) (ps : List Pm) (hpc : ps.length ≤ c ∧ c ≤ 9223372036854775807) (w : World)
    (hBn : Boxed w Bn 23 (.slice A ps.length c)) (hn0 : n₀ ≤ w.heap.size) (hbp : bp < w.heap.size) (hat : PtsAt w bp A ps) (hps : ∀ p ∈ ps, p.Ok w n₀) :
    Gives Fence.wide n Try.prog 34 #[.pointer (some ⟨Bn, 0, none⟩)] (fun x : Em => #[x.val]) (fun pre x => x ∈ evsOf ps ∧ pre ++ [x] <+: evsOf ps) (fun _ => KeepsE n₀ bp) (fun xs => xs = evsOf ps) (fun pre => pre <+: evsOf ps) True w := fun l J Jx W hW hJ _ hY h0 =>
  events_in n hn l Bn n₀ bp A c ps hpc J Jx W hJ (fun pre x W1 h1 h2 h3 => YieldAt.mono (hY pre x W1 h1 h2 h3) fun _ _ h => h.imp id And.right) ((hW.cell (p := ⟨Bn, 0, none⟩) hBn.lt).trans hBn.cell) (Nat.le_trans hn0 hW.size) (Nat.lt_of_lt_of_le hbp hW.size) (hat.keep (hW.block _ hbp)) (fun p hp => (hps p hp).below (hW.mono hn0)) h0

/-- trace.eventsOf, trace.argsOf: the points' slice is boxed; the function value has the box. -/
theorem eventsOf_any (A : Option Addr) (n c : Nat) (w : World) :
    Calls Try.prog 21 #[.slice A n c] w fun e w' => e = .returned (.func (.func 34) #[] #[.pointer (some ⟨w.heap.size, 0, none⟩)]) ∧ w' = w.alloc (.cells #[.slice A n c] 23) := by
  go_enter Try.func21, Try.ntmps21
  go_wp2_with fail
  go_ret
  exact ⟨rfl, rfl⟩
#print axioms events_in
end Go.Proofs.Ytcegnkbafbepbaa
