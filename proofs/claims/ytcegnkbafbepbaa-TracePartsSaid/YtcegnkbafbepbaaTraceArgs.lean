/-
  trace.argsOf: what may be ranged over hands on arguments; it ranges over events itself.
-/
import Derived.Test.YtcegnkbafbepbaaTraceIt
namespace Go.Proofs.Ytcegnkbafbepbaa
open Go.RowKit Go.Shelf

attribute [local go_sem] Oper.semAt_some

theorem argsOf_any (A : Option Addr) (n c : Nat) (w : World) :
    Calls Try.prog 22 #[.slice A n c] w fun e w' => e = .returned (.func (.func 35) #[] #[.pointer (some ⟨w.heap.size, 0, none⟩)]) ∧ w' = w.alloc (.cells #[.slice A n c] 23) := by
  go_enter Try.func22, Try.ntmps22
  go_wp2_with fail
  go_ret
  exact ⟨rfl, rfl⟩

/-- What a round keeps that goes on: what a round keeps, and what lies from m on. -/
def KeepsG (n₀ bp m : Nat) (w w' : World) : Prop := KeepsE n₀ bp w w' ∧ ∀ k, m ≤ k → k < w.heap.size → w'.heap[k]? = w.heap[k]?
theorem KeepsG.refl (n₀ bp m : Nat) (w : World) : KeepsG n₀ bp m w w := ⟨KeepsE.refl _ _ _, fun _ _ _ => rfl⟩
theorem KeepsG.trans {n₀ bp m : Nat} {a b c : World} (h : KeepsG n₀ bp m a b) (k : KeepsG n₀ bp m b c) : KeepsG n₀ bp m a c :=
  ⟨h.1.trans k.1, fun i h1 h2 => (k.2 i h1 (Nat.lt_of_lt_of_le h2 h.1.1.size)).trans (h.2 i h1 h2)⟩
theorem KeepsG.alloc {n₀ bp m : Nat} {w : World} (h1 : n₀ ≤ w.heap.size) (h2 : bp < w.heap.size) (o : Obj) : KeepsG n₀ bp m w (w.alloc o) := ⟨KeepsE.alloc h1 h2 o, fun _ _ h => Below.heap_alloc _ _ _ h⟩
theorem mem_agsOf {l : List Em} {x : Em} {j : Nat} {a : Ag} (h : x ∈ l) (ha : x.args[j]? = some a) : a ∈ agsOf l := List.mem_flatMap.2 ⟨x, h, List.mem_of_getElem? ha⟩

/-- Between two rounds; in one. -/
def AgI (n₀ bp q0 : Nat) (l : Nat) (J : List Ag → World → Prop) (w : World) (pre : List Em) (W : World) : Prop :=
  J (agsOf pre) W ∧ Boxed W q0 78 (.func (.yield l) #[] #[]) ∧ KeepsE n₀ bp w W
def AgA (n₀ bp q0 : Nat) (l : Nat) (J : List Ag → World → Prop) (w : World) (ps : List Pm) (fr : Em → Nat → Act) (pre : List Em) (x : Em) (a : Act) (W : World) : Prop :=
  ∃ q, a = fr x q ∧ Held W q 42 #[.int .i64 x.p, .slice x.A x.args.length x.c] ∧ AgI n₀ bp q0 l J w pre W ∧ x ∈ evsOf ps
theorem agI_abides {n₀ bp q0 l m : Nat} {J : List Ag → World → Prop} {w v : World} (hJ : Abides w.heap.size J) (h0 : n₀ ≤ w.heap.size) (hb : bp < w.heap.size) (hm : w.heap.size ≤ m) (_ : v = w) : Abides m (AgI n₀ bp q0 l J w) := by
  rintro pre A B ⟨h1, h2, h3, h4⟩ hc
  exact ⟨hJ _ _ _ h1 (hc.mono hm), hc.boxed h2, abides_below (β := Unit) (by omega) h0 () A B h3 hc, (hc.low bp (by omega) (by have := h3.size; omega)).trans h4⟩

set_option maxRecDepth 100000 in
set_option maxHeartbeats 2000000 in
theorem args_in (n : Nat) (hn : 5 ≤ n) (l Bn n₀ bp : Nat) (A : Option Addr) (c : Nat) (ps : List Pm) (hpc : ps.length ≤ c ∧ c ≤ 9223372036854775807) (J : List Ag → World → Prop) (W : World) (hJ : Abides W.heap.size J)
    (hY : ∀ pre x W1, J pre W1 → x ∈ agsOf (evsOf ps) → W.heap.size ≤ W1.heap.size → YieldAt Fence.wide (n - 1) Try.prog l #[x.val] W1 fun e W' => e = .returned (.bool true) ∧ J (pre ++ [x]) W' ∧ KeepsG n₀ bp W.heap.size W1 W')
    (hBn : Boxed W Bn 23 (.slice A ps.length c)) (hn0 : n₀ ≤ W.heap.size) (hbp : bp < W.heap.size) (hat : PtsAt W bp A ps) (hps : ∀ p ∈ ps, p.Ok W n₀) (h0 : J [] W) :
    CallsIn Fence.wide n Try.prog 35 #[.func (.yield l) #[] #[], .pointer (some ⟨Bn, 0, none⟩)] W fun e W' => (∃ v, e = .returned v) ∧ ∃ xs, xs = agsOf (evsOf ps) ∧ J xs W' := by
  have hn1 : 1 ≤ n := by omega
  have hn2 : 1 ≤ n - 1 := by omega
  have hn3 : 1 ≤ n - 1 - 1 := by omega
  refine callsIn_of_wp_marks Try.func35 rfl trivial ?_ rfl
  simp only [Try.ntmps35, List.size_toArray, List.length_cons, List.length_nil, Nat.reduceAdd, Nat.reduceSub, Array.replicate_succ, Array.replicate_zero, List.push_toArray, List.append_toArray, List.nil_append, List.cons_append]
  have hBc : (W.alloc (.cells #[.func (.yield l) #[] #[]] 78)).cell? ⟨Bn, 0, none⟩ = some (.slice A ps.length c) := ((Below.refl W.heap.size W).alloc (Nat.le_refl _) _).cell (p := ⟨Bn, 0, none⟩) hBn.lt |>.trans hBn.cell
  gi_wp2_with (refine ⟨trivial, ?_⟩; gi_at_call 21; refine (callsIn_wide.2 (eventsOf_any _ _ _ _)).mono ?_; rintro e w' ⟨rfl, rfl⟩)
  obtain ⟨V, hV⟩ : ∃ V, (W.alloc (.cells #[.func (.yield l) #[] #[]] 78)).alloc (.cells #[.slice A ps.length c] 23) = V := ⟨_, rfl⟩
  have hs0 : (W.alloc (.cells #[.func (.yield l) #[] #[]] 78)).heap.size = W.heap.size + 1 := World.size_alloc _ _
  have hs1 : V.heap.size = W.heap.size + 2 := by rw [← hV, World.size_alloc, hs0]
  have hbw : Below W.heap.size W V := by rw [← hV]; exact ((Below.refl _ _).alloc (Nat.le_refl _) _).alloc (by rw [hs0]; omega) _
  have hB0 : Boxed V W.heap.size 78 (.func (.yield l) #[] #[]) := by rw [← hV]; exact (Boxed.new W _ _).alloc _
  have hB1 : Boxed V (W.heap.size + 1) 23 (.slice A ps.length c) := by rw [← hV, ← hs0]; exact Boxed.new _ _ _
  try rw [hs0]
  rw [hV]
  clear hV hs0 hBc
  have hpv : ∀ p ∈ ps, p.Ok V n₀ := fun p hp => (hps p hp).below (hbw.mono hn0)
  have HPS := Lib.hid hps
  refine range_gives rfl (by omega) (gf := 34) (lb := #[.pointer (some ⟨W.heap.size + 1, 0, none⟩)]) rfl trivial (enters_of Try.func34 (by kernel_rfl) rfl)
    (events_gives (n - 1) (by omega) (W.heap.size + 1) n₀ bp A c ps hpc V hB1 (by omega) (by omega) (hat.keep (hbw.block _ hbp)) hpv) (fun _ => rfl) (fun h k => h.trans k) (fun m W1 l1 o o' hl _ h hc => KeepsE.turn (w := V) (by omega) (by omega) W1 l1 o o' hl h hc)
    (AgI n₀ bp W.heap.size l J W) (fun _ _ => False) (agI_abides hJ hn0 hbp (by omega) rfl) (fun _ _ _ h _ => h) ⟨hJ _ _ _ h0 (Calm.of_below hbw), hB0, hbw.mono hn0, hbw.block _ hbp⟩
    (AgA n₀ bp W.heap.size l J W ps (fun x q => { tmps := #[.func (.yield l) #[] #[], .pointer (some ⟨Bn, 0, none⟩), .pointer (some ⟨W.heap.size, 0, none⟩), .pointer (some ⟨q, 0, none⟩), undef, undef, .slice A ps.length c, .func (.func 34) #[] #[.pointer (some ⟨W.heap.size + 1, 0, none⟩)], x.val, undef, undef, undef, undef, undef, undef, undef, undef, undef, undef, undef, undef], defers := [] }))
    (fun pre x a' => ?own) ?take ?body ?done ?stop
  case own =>
    rintro _ X Y ⟨q, e, h1, h2, h3⟩ hc
    exact ⟨q, e, hc.held h1, agI_abides hJ hn0 hbp (by omega : W.heap.size ≤ V.heap.size) rfl _ _ _ h2 hc, h3⟩
  case take =>
    rintro l2 m pre x W1 K hm hm1 hI hR hK
    have ba : Below W1.heap.size W1 (W1.alloc (.cells #[.int .i64 x.p, .slice x.A x.args.length x.c] 42)) := (Below.refl _ _).alloc (Nat.le_refl _) _
    have HK := Lib.hid (hK ((fun (x : Em) (q : Nat) => ({ tmps := #[.func (.yield l) #[] #[], .pointer (some ⟨Bn, 0, none⟩), .pointer (some ⟨W.heap.size, 0, none⟩), .pointer (some ⟨q, 0, none⟩), undef, undef, .slice A ps.length c, .func (.func 34) #[] #[.pointer (some ⟨W.heap.size + 1, 0, none⟩)], x.val, undef, undef, undef, undef, undef, undef, undef, undef, undef, undef, undef, undef], defers := [] } : Act)) x W1.heap.size) _ ((KeepsOthers.alloc W1 _).from _) (KeepsE.alloc (by omega) (by omega) _)
      ⟨W1.heap.size, rfl, heap_alloc_new W1 _, agI_abides (m := W.heap.size) hJ hn0 hbp (Nat.le_refl _) rfl _ _ _ hI (Calm.of_below ba), hR⟩)
    clear hK ba hI hR hB0 hB1 hbw hpv hps hat hY hJ h0
    gi_wp2
    exact HK.out
  case body =>
    rintro l2 m pre x a' W1 hm hm1 ⟨q, rfl, hq, ⟨hj, hbx, hke⟩, hx⟩
    obtain ⟨p, hp, hxp⟩ := List.mem_flatMap.1 hx
    have hok := (HPS.out p hp).1.2 x hxp
    obtain ⟨_, hl1, hl2⟩ := hok.1.1.len
    have hc0 := hq.cell 0
    have hc1 := hq.cell 1
    simp at hc0 hc1
    have HOK := Lib.hid hok
    have HX := Lib.hid hx
    have HJ := Lib.hid hj
    have HBX := Lib.hid hbx
    have HKE := Lib.hid hke
    have HY := Lib.hid hY
    have HJA := Lib.hid hJ
    have hq0 := hbx.lt
    clear hp hxp hok hx hj hbx hke hY hJ hq hB0 hB1 hbw hpv hps hat h0
    gi_wp2
    gi_loopw [12] (fun i wr => ∃ k : Nat, k ≤ x.args.length ∧ i = .int .i64 k ∧ Hid (J (agsOf pre ++ x.args.take k) wr) ∧ Hid (KeepsG n₀ bp W.heap.size W1 wr)) (fun i _ => x.args.length - (intOf i).toNat)
    case atStart => exact ⟨0, Nat.zero_le _, rfl, Lib.hid (by simpa using HJ.out), Lib.hid (KeepsG.refl _ _ _ _)⟩
    case round =>
      obtain ⟨k, hk, rfl, HJ3, HK3⟩ := hrel
      have hzr := HK3.out.1.1.size
      by_cases hlt : k < x.args.length
      · obtain ⟨a, ha⟩ : ∃ a, x.args[k]? = some a := ⟨_, List.getElem?_eq_getElem hlt⟩
        obtain ⟨xA, hxA⟩ : ∃ xA, x.A = xA := ⟨_, rfl⟩
        have hga := (HOK.out.below (HKE.out.1.trans HK3.out.1.1)).1
        rw [hxA] at hga ⊢
        obtain ⟨b2, o2, rfl, hb2, y0, y1, y2, _⟩ := hga.at ha
        obtain ⟨fn, tmps, assign, body, hy, hR⟩ := YieldAt.all (HY.out _ a _ (HJA.out _ _ _ HJ3.out (Calm.alloc _ wr (.cells #[.int .i64 a.t, .int .i64 a.n, .string (strOfNums a.s)] 49))) (mem_agsOf HX.out ha) (by simp; omega)) l2
        dsimp only [Ag.val] at hy
        have hyb : (wr.alloc (.cells #[.int .i64 a.t, .int .i64 a.n, .string (strOfNums a.s)] 49)).cell? ⟨W.heap.size, 0, none⟩ = some (.func (.yield l) #[] #[]) := by
          refine (((Below.refl wr.heap.size wr).alloc (Nat.le_refl _) _).cell (p := ⟨W.heap.size, 0, none⟩) (by simp only; omega)).trans ?_
          exact (World.cell?_of_block (a := ⟨W.heap.size, 0, none⟩) (HK3.out.2 _ (Nat.le_refl _) hq0)).trans HBX.out.cell
        have HA := Lib.hid ha
        have HKA := Lib.hid (HK3.out.trans (KeepsG.alloc (m := W.heap.size) (by omega) (by omega) (.cells #[.int .i64 a.t, .int .i64 a.n, .string (strOfNums a.s)] 49)))
        have HR := Lib.hid hR
        clear ha hga hxA hR
        gi_wp2
        refine (HR.out _).mono ?_
        rintro e W3 ⟨rfl, hJ3, hk3⟩
        have HJ4 := Lib.hid hJ3
        have HK4 := Lib.hid (HKA.out.trans hk3)
        clear hJ3 hk3 hy HR hyb
        gi_wp2
        go_roundw
        case rel => exact ⟨k + 1, by omega, by go_num, Lib.hid (by rw [take_snoc HA.out, ← List.append_assoc]; exact HJ4.out), HK4⟩
        case measure => simp [intOf]; omega
      · obtain rfl : k = x.args.length := by omega
        gi_wp2
        exact ⟨⟨hzr, fun k o hk ho hc => (HK3.out.2 k (by omega) (Array.getElem?_eq_some_iff.1 ho).1).trans ho⟩, HK3.out.1, by rw [agsOf_snoc]; simpa using HJ3.out,
          (HK3.out.2 _ (Nat.le_refl _) hq0).trans HBX.out, HKE.out.trans HK3.out.1⟩
  case done =>
    rintro D ys V1 hD rfl ⟨hj, hbx, hke⟩ hK
    gi_wp2
    refine ⟨by simp, .inl ⟨_, _, rfl, run_takeDeferred hK, ?_⟩⟩
    exact ⟨_, results_none rfl _ _ _, ⟨_, rfl⟩, _, rfl, hJ _ _ _ hj (Calm.putObj _ hK rfl (by omega))⟩
  case stop =>
    rintro D pre V1 _ _ h _
    exact h.elim
theorem args_gives (n : Nat) (hn : 5 ≤ n) (Bn n₀ bp : Nat) (A : Option Addr) (c : Nat) (ps : List Pm) (hpc : ps.length ≤ c ∧ c ≤ 9223372036854775807) (w : World)
    (hBn : Boxed w Bn 23 (.slice A ps.length c)) (hn0 : n₀ ≤ w.heap.size) (hbp : bp < w.heap.size) (hat : PtsAt w bp A ps) (hps : ∀ p ∈ ps, p.Ok w n₀) :
    Gives Fence.wide n Try.prog 35 #[.pointer (some ⟨Bn, 0, none⟩)] (fun x : Ag => #[x.val]) (fun x => x ∈ agsOf (evsOf ps)) (KeepsG n₀ bp) (fun xs => xs = agsOf (evsOf ps)) (fun _ => True) False w := fun l J _ W hW hJ _ hY h0 =>
  (args_in n hn l Bn n₀ bp A c ps hpc J W hJ (fun pre x W1 h1 h2 h3 => YieldAt.mono (hY pre x W1 h1 h2 h3) fun _ _ h => h.elim id fun h => h.1.elim) ((hW.block _ hBn.lt).trans hBn) (Nat.le_trans hn0 hW.size) (Nat.lt_of_lt_of_le hbp hW.size) (hat.keep (hW.block _ hbp)) (fun p hp => (hps p hp).below (hW.mono hn0)) h0).mono
    fun _ _ h => ⟨h.1, .inl h.2⟩
#print axioms args_in
end Go.Proofs.Ytcegnkbafbepbaa
