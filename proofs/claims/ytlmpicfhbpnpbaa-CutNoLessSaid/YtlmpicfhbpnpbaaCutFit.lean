/-
  What cut's fit, Fits, the search by halves and greatest answer.
-/
import Derived.Test.YtlmpicfhbpnpbaaBlockCode
import Derived.Test.YtlmpicfhbpnpbaaPlainCut
namespace Go.Proofs.Ytlmpicfhbpnpbaa
open Go.RowKit Go.ChangeShapes Go.WideShapes
set_option linter.unusedVariables false

section
variable (A : Option Addr) (c : Nat) (ds : List Pd) (T : Option Addr) (ct : Nat) (ps : List Pm) (w : World)
set_option maxRecDepth 100000 in
set_option maxHeartbeats 1000000 in
theorem cfit_any (hrow : PredRow w w.heap.size (.slice A ds.length c) ds) (ht : TrRow w w.heap.size (.slice T ps.length ct) ps) :
    Calls Try.prog 75 #[.slice A ds.length c, .slice T ps.length ct] w fun e w' => e = .returned (.bool (fitB (ds.map (·.p)) ps)) ∧ Below w.heap.size w w' := by
  have HP := Lib.hid (blput_any A c ds T ct ps w hrow ht)
  unfold fitB
  generalize putB (ds.map (·.p)) ps = R at HP ⊢
  clear hrow ht
  by_cases h0 : R.2 = 0
  · rw [h0, decide_eq_true rfl]
    go_enter Try.func75, Try.ntmps75
    go_wp2_with fail
    refine HP.out.mono ?_
    rintro e w1 ⟨A1, c1, rfl, hown, hb1⟩
    rw [h0]
    clear hown
    go_wp2_with fail
    go_ret
    exact ⟨rfl, hb1⟩
  · have hne : (R.2 == 0) = false := beq_eq_false_iff_ne.2 h0
    rw [decide_eq_false h0]
    go_enter Try.func75, Try.ntmps75
    go_wp2_with fail
    refine HP.out.mono ?_
    rintro e w1 ⟨A1, c1, rfl, hown, hb1⟩
    clear hown
    go_wp2_with fail
    go_ret
    exact ⟨rfl, hb1⟩
#print axioms cfit_any

set_option maxRecDepth 100000 in
set_option maxHeartbeats 1000000 in
/-- The closure that Sizes hands on: its own argument, then what it captured. -/
theorem chold_any (sb tb k : Nat) (hs : Held w sb 22 #[.slice A ds.length c]) (hb : Held w tb 23 #[.slice T ps.length ct]) (hrow : PredRow w w.heap.size (.slice A ds.length c) ds) (ht : TrRow w w.heap.size (.slice T ps.length ct) ps) (hk : k ≤ ps.length) :
    Calls Try.prog 74 #[.int .i64 k, .pointer (some ⟨sb, 0, none⟩), .pointer (some ⟨tb, 0, none⟩)] w fun e w' => e = .returned (.bool (fitB (ds.map (·.p)) (ps.take k))) ∧ Below w.heap.size w w' := by
  obtain ⟨-, hc1, hc2⟩ := ht.1.len
  have hkl : (ps.take k).length = k := by rw [List.length_take]; omega
  have HF := Lib.hid (fun W (h : Below w.heap.size w W) => cfit_any A c ds T ct (ps.take k) W ((hrow.below h).more h.size) ((ht.take hk |>.below h).more h.size))
  rw [hkl] at HF
  have HS := Lib.hid (fun W (h : Below w.heap.size w W) => (hs.below h hs.lt).cell 0)
  have HT := Lib.hid (fun W (h : Below w.heap.size w W) => (hb.below h hb.lt).cell 0)
  simp at HS HT
  generalize fitB (ds.map (·.p)) (ps.take k) = R at HF ⊢
  clear hrow ht hs hb hkl
  go_enter Try.func74, Try.ntmps74
  go_wp2_with fail
  go_region_held (fun W => W.cell? ⟨sb, 0, none⟩ = some (.slice A ds.length c) ∧ W.cell? ⟨tb, 0, none⟩ = some (.slice T ps.length ct))
    (first | exact ⟨HS.out _ (Below.refl _ _), HT.out _ (Below.refl _ _)⟩ | exact ⟨HS.out _ (Below.refl _ _).drew, HT.out _ (Below.refl _ _).drew⟩ | exact ⟨HS.out _ b2, HT.out _ b2⟩)
    (first | (go_at_call 75; (with_reducible refine (HF.out _ (Below.refl _ _).drew).mono ?_); rintro e w2 ⟨rfl, hb2⟩; have b2 : Below w.heap.size w w2 := (Below.refl w.heap.size w).drew.trans hb2))
  go_wp2_with fail
  go_ret
  exact ⟨rfl, b2⟩
#print axioms chold_any

set_option maxRecDepth 100000 in
set_option maxHeartbeats 1000000 in
theorem cfits_any (p : Pm) (hrow : PredRow w w.heap.size (.slice A ds.length c) ds) (hp : p.Ok w w.heap.size) :
    Calls Try.prog 91 #[.slice A ds.length c, p.val] w fun e w' => e = .returned (.bool (fitB (ds.map (·.p)) [p])) ∧ Below w.heap.size w w' := by
  obtain ⟨N, hN⟩ : ∃ N, w.heap.size = N := ⟨_, rfl⟩
  obtain ⟨u0, hu0⟩ : ∃ u, w.alloc (.cells #[.int .u64 p.tm, .slice p.A p.evs.length p.c] 39) = u := ⟨_, rfl⟩
  have s0 : u0.heap.size = N + 1 := by rw [← hu0, World.size_alloc, hN]
  have b0 : Below N w u0 := by rw [← hu0]; exact (Below.refl _ _).alloc (by omega) _
  have h0 : Held u0 N 39 #[.int .u64 p.tm, .slice p.A p.evs.length p.c] := by rw [← hu0, ← hN]; exact heap_alloc_new w _
  obtain ⟨u1, hu1⟩ : ∃ u, u0.alloc (.cells #[.int .u64 p.tm, .slice p.A p.evs.length p.c] 39) = u := ⟨_, rfl⟩
  have s1 : u1.heap.size = N + 1 + 1 := by rw [← hu1, World.size_alloc, s0]
  have b1 : Below (N + 1) u0 u1 := by rw [← hu1]; exact (Below.refl _ _).alloc (by omega) _
  have h1 : Held u1 (N + 1) 39 #[.int .u64 p.tm, .slice p.A p.evs.length p.c] := by rw [← hu1, ← s0]; exact heap_alloc_new u0 _
  have hb : Below N w u1 := b0.trans (b1.mono (by omega))
  rw [hN] at hrow hp
  have htr : TrRow u1 u1.heap.size (.slice (some ⟨N + 1, 0, none⟩) 1 1) [p] := ⟨ERow.held (us := flatN [p]) h1 (by omega) (by unfold maxLen; omega), fun d hd => by
    obtain rfl := List.mem_singleton.1 hd
    exact (hp.below hb).more (by omega)⟩
  have HF := Lib.hid (cfit_any A c ds (some ⟨N + 1, 0, none⟩) 1 [p] u1 ((hrow.below hb).more (by omega)) htr)
  have x0 := h0.cell 0
  have x1 := h0.cell 1
  simp at x0 x1
  have HB := Lib.hid hb
  generalize fitB (ds.map (·.p)) [p] = R at HF ⊢
  have HU := Lib.hid (And.intro hu0 hu1)
  clear hrow hp htr h0 h1 b0 b1 hb
  unfold Pm.val
  go_enter Try.func91, Try.ntmps91
  go_wp2_with fail
  refine HF.out.mono ?_
  rintro e w2 ⟨rfl, hb2⟩
  have HB2 := Lib.hid (HB.out.trans (hb2.mono (by omega)))
  go_wp2_with fail
  go_ret
  exact ⟨rfl, by rw [hN]; exact HB2.out⟩
#print axioms cfits_any
end
end Go.Proofs.Ytlmpicfhbpnpbaa
