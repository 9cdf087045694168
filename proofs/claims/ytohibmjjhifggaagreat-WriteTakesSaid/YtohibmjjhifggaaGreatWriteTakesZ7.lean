/-
  What the theorem of WriteTakes rests on, part 7 of 11.
-/
import Derived.WalkKit
import Derived.LoopTactic
import Derived.Deep.LoopGhost
import Derived.Deep.RegionHeld3
import Derived.Lib.Hide
import Derived.Lib.MinMax
import Derived.Test.YtohibmjjhifggaaGreatRows
import Derived.WalkSpells
import Derived.WalkLawsBesides
import Derived.Outline
import Derived.Laws.BitsAllLaws
import Derived.Lib.SliceRun
import Derived.Test.YtohibmjjhifggaaGreatWriteTakesZ6
namespace Go.Proofs.YtohibmjjhifggaaGreat
open Go.RowKit Go.ChangeShapes Go.WideShapes
set_option linter.unusedVariables false
section
variable (A : Option Addr) (c : Nat) (ds : List Pd) (T : Option Addr) (ct : Nat) (ps : List Pm) (w : World)
set_option maxRecDepth 100000 in
set_option maxHeartbeats 1000000 in
theorem cfit_any (hrow : PredRow w w.heap.size (.slice A ds.length c) ds) (ht : TrRow w w.heap.size (.slice T ps.length ct) ps) :
    Calls Tryz.prog 60 #[.slice A ds.length c, .slice T ps.length ct] w fun e w' => e = .returned (.bool (fitB (ds.map (·.p)) ps)) ∧ Below w.heap.size w w' := by
  have HP := Lib.hid (blput_any A c ds T ct ps w hrow ht)
  unfold fitB
  generalize putB (ds.map (·.p)) ps = R at HP ⊢
  clear hrow ht
  by_cases h0 : R.2 = 0
  · rw [h0, decide_eq_true rfl]
    go_enter Tryz.func60, Tryz.ntmps60
    go_wp2_with fail
    refine HP.out.mono ?_
    rintro e w1 ⟨A1, c1, rfl, hown, hb1⟩
    rw [h0]
    clear hown
    go_wp2_with fail
    go_ret
    exact ⟨rfl, hb1⟩
  · have hne : (R.2 == 0) = false := beq_eq_false_iff_ne.2 h0
    rw [decide_eq_false h0]
    go_enter Tryz.func60, Tryz.ntmps60
    go_wp2_with fail
    refine HP.out.mono ?_
    rintro e w1 ⟨A1, c1, rfl, hown, hb1⟩
    clear hown
    go_wp2_with fail
    go_ret
    exact ⟨rfl, hb1⟩
set_option maxRecDepth 100000 in
set_option maxHeartbeats 1000000 in
/-- The closure that Sizes hands on: its own argument, then what it captured. -/
theorem chold_any (sb tb k : Nat) (hs : Held w sb 22 #[.slice A ds.length c]) (hb : Held w tb 23 #[.slice T ps.length ct]) (hrow : PredRow w w.heap.size (.slice A ds.length c) ds) (ht : TrRow w w.heap.size (.slice T ps.length ct) ps) (hk : k ≤ ps.length) :
    Calls Tryz.prog 97 #[.int .i64 k, .pointer (some ⟨sb, 0, none⟩), .pointer (some ⟨tb, 0, none⟩)] w fun e w' => e = .returned (.bool (fitB (ds.map (·.p)) (ps.take k))) ∧ Below w.heap.size w w' := by
  obtain ⟨-, hc1, hc2⟩ := ht.1.len
  have hkl : (ps.take k).length = k := by rw [List.length_take]; omega
  have HF := Lib.hid (fun W (h : Below w.heap.size w W) => cfit_any A c ds T ct (ps.take k) W ((hrow.below h).more h.size) ((ht.take hk |>.below h).more h.size))
  rw [hkl] at HF
  have HS := Lib.hid (fun W (h : Below w.heap.size w W) => (hs.below h hs.lt).cell 0)
  have HT := Lib.hid (fun W (h : Below w.heap.size w W) => (hb.below h hb.lt).cell 0)
  simp at HS HT
  generalize fitB (ds.map (·.p)) (ps.take k) = R at HF ⊢
  clear hrow ht hs hb hkl
  go_enter Tryz.func97, Tryz.ntmps97
  go_wp2_with fail
  go_region_held (fun W => W.cell? ⟨sb, 0, none⟩ = some (.slice A ds.length c) ∧ W.cell? ⟨tb, 0, none⟩ = some (.slice T ps.length ct))
    (first | exact ⟨HS.out _ (Below.refl _ _), HT.out _ (Below.refl _ _)⟩ | exact ⟨HS.out _ (Below.refl _ _).drew, HT.out _ (Below.refl _ _).drew⟩ | exact ⟨HS.out _ b2, HT.out _ b2⟩)
    (first | (go_at_call 60; (with_reducible refine (HF.out _ (Below.refl _ _).drew).mono ?_); rintro e w2 ⟨rfl, hb2⟩; have b2 : Below w.heap.size w w2 := (Below.refl w.heap.size w).drew.trans hb2))
  go_wp2_with fail
  go_ret
  exact ⟨rfl, b2⟩
set_option maxRecDepth 100000 in
set_option maxHeartbeats 1000000 in
theorem cfits_any (p : Pm) (hrow : PredRow w w.heap.size (.slice A ds.length c) ds) (hp : p.Ok w w.heap.size) :
    Calls Tryz.prog 44 #[.slice A ds.length c, p.val] w fun e w' => e = .returned (.bool (fitB (ds.map (·.p)) [p])) ∧ Below w.heap.size w w' := by
  obtain ⟨N, hN⟩ : ∃ N, w.heap.size = N := ⟨_, rfl⟩
  obtain ⟨u0, hu0⟩ : ∃ u, w.alloc (.cells #[.int .u64 p.tm, .slice p.A p.evs.length p.c] 35) = u := ⟨_, rfl⟩
  have s0 : u0.heap.size = N + 1 := by rw [← hu0, World.size_alloc, hN]
  have b0 : Below N w u0 := by rw [← hu0]; exact (Below.refl _ _).alloc (by omega) _
  have h0 : Held u0 N 35 #[.int .u64 p.tm, .slice p.A p.evs.length p.c] := by rw [← hu0, ← hN]; exact heap_alloc_new w _
  obtain ⟨u1, hu1⟩ : ∃ u, u0.alloc (.cells #[.int .u64 p.tm, .slice p.A p.evs.length p.c] 35) = u := ⟨_, rfl⟩
  have s1 : u1.heap.size = N + 1 + 1 := by rw [← hu1, World.size_alloc, s0]
  have b1 : Below (N + 1) u0 u1 := by rw [← hu1]; exact (Below.refl _ _).alloc (by omega) _
  have h1 : Held u1 (N + 1) 35 #[.int .u64 p.tm, .slice p.A p.evs.length p.c] := by rw [← hu1, ← s0]; exact heap_alloc_new u0 _
  have hb : Below N w u1 := b0.trans (b1.mono (by omega))
  rw [hN] at hrow hp
  have htr : TrRow u1 u1.heap.size (.slice (some ⟨N + 1, 0, none⟩) 1 1) [p] := ⟨ERow.held (us := flatN [p]) h1 (by omega) (by unfold maxLen; omega), fun d hd => by
    obtain rfl := List.mem_singleton.1 hd
    exact (hp.below hb).more (by omega)⟩
  have HF := Lib.hid (cfit_any A c ds (some ⟨N + 1, 0, none⟩) 1 [p] u1 ((hrow.below hb).more (by omega)) htr)
  have x0 := h0.cell 0
  have x1 := h0.cell 1
  simp at x0 x1
  have HB := Lib.hid hb
  generalize fitB (ds.map (·.p)) [p] = R at HF ⊢
  have HU := Lib.hid (And.intro hu0 hu1)
  clear hrow hp htr h0 h1 b0 b1 hb
  unfold Pm.val
  go_enter Tryz.func44, Tryz.ntmps44
  go_wp2_with fail
  refine HF.out.mono ?_
  rintro e w2 ⟨rfl, hb2⟩
  have HB2 := Lib.hid (HB.out.trans (hb2.mono (by omega)))
  go_wp2_with fail
  go_ret
  exact ⟨rfl, by rw [hN]; exact HB2.out⟩
end
end Go.Proofs.YtohibmjjhifggaaGreat
namespace Go.Proofs.YtohibmjjhifggaaGreat
open Go.RowKit Go.ChangeShapes Go.WideShapes
set_option linter.unusedVariables false
section
variable (w : World) (hb sb : Nat)
set_option maxRecDepth 100000 in
set_option maxHeartbeats 1000000 in
/-- The first place below N at which p holds. -/
theorem search_any (N s : Nat) (p : Nat → Bool) (hN : N ≤ 1000000000) (hs : s ≤ N) (h1 : ∀ t, t < s → p t = false) (h2 : ∀ t, s ≤ t → t < N → p t = true)
    (hf : ∀ wr, Below w.heap.size w wr → ∀ i : Nat, i < N → Calls Tryz.prog 111 #[.int .i64 i, .pointer (some ⟨hb, 0, none⟩), .pointer (some ⟨sb, 0, none⟩)] wr fun e w' => e = .returned (.bool (p i)) ∧ Below wr.heap.size wr w') :
    Calls Tryz.prog 110 #[.int .i64 N, .func (.func 111) #[] #[.pointer (some ⟨hb, 0, none⟩), .pointer (some ⟨sb, 0, none⟩)]] w fun e w' => e = .returned (.int .i64 s) ∧ Below w.heap.size w w' := by
  have HF := Lib.hid hf
  have H1 := Lib.hid h1
  have H2 := Lib.hid h2
  clear hf h1 h2
  go_enter Tryz.func110, Tryz.ntmps110
  go_wp2_with fail
  go_loopg [5, 6] N (fun gk lo hi wr => ∃ a b : Nat, lo = .int .i64 a ∧ hi = .int .i64 b ∧ a ≤ s ∧ s ≤ b ∧ b ≤ N ∧ Hid (b - a = gk) ∧ Hid (Below w.heap.size w wr))
  case atStart => exact ⟨0, N, rfl, rfl, Nat.zero_le _, hs, Nat.le_refl _, Lib.hid rfl, Lib.hid (Below.refl _ _)⟩
  case round =>
    obtain ⟨a, b, rfl, rfl, ha, hb2, hbN, HGK, HB⟩ := hrel
    by_cases hlt : a < b
    · have hc := HF.out wr HB.out ((a + b) / 2) (by omega)
      rw [show (((a + b) / 2 : Nat) : Int) = ((a : Int) + (b : Int)) / 2 by omega] at hc
      by_cases hms : (a + b) / 2 < s
      · rw [H1.out _ hms] at hc
        have HC := Lib.hid hc
        clear hc
        go_wp2_with fail
        refine HC.out.mono ?_
        rintro e w2 ⟨rfl, hb2'⟩
        have HB2 := Lib.hid (HB.out.trans (hb2'.mono HB.out.size))
        clear hb2'
        go_wp2_with fail
        go_roundg (b - ((a + b) / 2 + 1))
        case measure => have := HGK.out; omega
        case rel => exact ⟨(a + b) / 2 + 1, b, by rw [show (((a + b) / 2 + 1 : Nat) : Int) = ((a : Int) + (b : Int)) / 2 + 1 by omega], rfl, by omega, hb2, hbN, Lib.hid rfl, HB2⟩
      · rw [H2.out _ (by omega) (by omega)] at hc
        have HC := Lib.hid hc
        clear hc
        go_wp2_with fail
        refine HC.out.mono ?_
        rintro e w2 ⟨rfl, hb2'⟩
        have HB2 := Lib.hid (HB.out.trans (hb2'.mono HB.out.size))
        clear hb2'
        go_wp2_with fail
        go_roundg ((a + b) / 2 - a)
        case measure => have := HGK.out; omega
        case rel => exact ⟨a, (a + b) / 2, rfl, by rw [show (((a + b) / 2 : Nat) : Int) = ((a : Int) + (b : Int)) / 2 by omega], ha, by omega, by omega, Lib.hid rfl, HB2⟩
    · obtain rfl : b = a := by omega
      obtain rfl : b = s := by omega
      go_wp2_with fail
      go_ret
      exact ⟨rfl, HB.out⟩
set_option maxRecDepth 100000 in
set_option maxHeartbeats 1000000 in
theorem cmore_any (qb tb s i : Nat) (r : Bool) (hh : Held w hb 155 #[.func (.func 97) #[] #[.pointer (some ⟨qb, 0, none⟩), .pointer (some ⟨tb, 0, none⟩)]]) (hs : Held w sb 3 #[.int .i64 s]) (hi : s + 1 + i ≤ 1000000000)
    (hf : Calls Tryz.prog 97 #[.int .i64 (s + 1 + i : Nat), .pointer (some ⟨qb, 0, none⟩), .pointer (some ⟨tb, 0, none⟩)] w fun e w' => e = .returned (.bool r) ∧ Below w.heap.size w w') :
    Calls Tryz.prog 111 #[.int .i64 i, .pointer (some ⟨hb, 0, none⟩), .pointer (some ⟨sb, 0, none⟩)] w fun e w' => e = .returned (.bool (!r)) ∧ Below w.heap.size w w' := by
  rw [show ((s + 1 + i : Nat) : Int) = (s : Int) + 1 + (i : Int) by omega] at hf
  have HF := Lib.hid hf
  have x0 := hh.cell 0
  have x1 := hs.cell 0
  simp at x0 x1
  clear hf hh hs
  go_enter Tryz.func111, Tryz.ntmps111
  go_wp2_with fail
  refine HF.out.mono ?_
  rintro e w2 ⟨rfl, hb2⟩
  go_wp2_with fail
  go_ret
  exact ⟨rfl, hb2⟩
set_option maxRecDepth 100000 in
set_option maxHeartbeats 1000000 in
theorem cgreatest_any (qb tb m : Nat) (p : Nat → Bool) (hm : 1 ≤ m) (hm2 : m ≤ 1000000) (hp1 : p 1 = true) (hmono : ∀ a b, 1 ≤ a → a ≤ b → b ≤ m → p b = true → p a = true)
    (hf : ∀ wr, Below w.heap.size w wr → ∀ n : Nat, 1 ≤ n → n ≤ m → Calls Tryz.prog 97 #[.int .i64 n, .pointer (some ⟨qb, 0, none⟩), .pointer (some ⟨tb, 0, none⟩)] wr fun e w' => e = .returned (.bool (p n)) ∧ Below wr.heap.size wr w') :
    Calls Tryz.prog 96 #[.int .i64 m, .func (.func 97) #[] #[.pointer (some ⟨qb, 0, none⟩), .pointer (some ⟨tb, 0, none⟩)]] w fun e w' => e = .returned (.int .i64 (topP p m : Nat)) ∧ Below w.heap.size w w' := by
  obtain ⟨N, hN⟩ : ∃ N, w.heap.size = N := ⟨_, rfl⟩
  obtain ⟨F, hF⟩ : ∃ F : Value, F = .func (.func 97) #[] #[.pointer (some ⟨qb, 0, none⟩), .pointer (some ⟨tb, 0, none⟩)] := ⟨_, rfl⟩
  obtain ⟨u0, hu0⟩ : ∃ u, w.alloc (.cells #[F] 155) = u := ⟨_, rfl⟩
  have s0 : u0.heap.size = N + 1 := by rw [← hu0, World.size_alloc, hN]
  have b0 : Below N w u0 := by rw [← hu0]; exact (Below.refl _ _).alloc (by omega) _
  have h0 : Held u0 N 155 #[F] := by rw [← hu0, ← hN]; exact heap_alloc_new w _
  obtain ⟨u1, hu1⟩ : ∃ u, u0.alloc (.cells #[.int .i64 1] 3) = u := ⟨_, rfl⟩
  have s1 : u1.heap.size = N + 1 + 1 := by rw [← hu1, World.size_alloc, s0]
  have b1 : Below (N + 1) u0 u1 := by rw [← hu1]; exact (Below.refl _ _).alloc (by omega) _
  have h1 : Held u1 (N + 1) 3 #[.int .i64 1] := by rw [← hu1, ← s0]; exact heap_alloc_new u0 _
  have k0 : Held u1 N 155 #[F] := h0.below b1 (by omega)
  have hbb : Below N w u1 := b0.trans (b1.mono (by omega))
  have HS := Lib.hid (And.intro k0 (And.intro h1 (And.intro hbb s1)))
  rw [hN] at hf
  have HF := Lib.hid hf
  have HM := Lib.hid hmono
  obtain ⟨R, hR⟩ : ∃ R, topP p m = R := ⟨_, rfl⟩
  rw [hR]
  have HR := Lib.hid hR
  subst hF
  clear b0 h0 b1 h1 k0 hbb hf hmono hR
  go_enter Tryz.func96, Tryz.ntmps96
  go_wp2_with fail
  go_loopg [] m (fun gk wr => ∃ s : Nat, 1 ≤ s ∧ s ≤ m ∧ p s = true ∧ Hid (m - s ≤ gk) ∧ Hid (Held wr N 155 #[.func (.func 97) #[] #[.pointer (some ⟨qb, 0, none⟩), .pointer (some ⟨tb, 0, none⟩)]] ∧ Held wr (N + 1) 3 #[.int .i64 s] ∧ Below N w wr))
  case atStart => exact ⟨1, Nat.le_refl _, hm, hp1, Lib.hid (Nat.sub_le _ _), Lib.hid (by obtain ⟨q0, q1, q2, _⟩ := HS.out; exact ⟨q0, q1, q2⟩)⟩
  case round =>
    obtain ⟨s, hs1, hsm, hps, HGK, HST⟩ := hrel
    obtain ⟨q0, q1, q2⟩ := HST.out
    have x0 := q0.cell 0
    have x1 := q1.cell 0
    have x2 := q1.frozen 0
    simp at x0 x1
    have zr := q1.lt
    by_cases hh : s ≤ m / 2
    · have hh2 : (s : Int) ≤ (m : Int) / 2 := by omega
      have hc := HF.out wr q2 (2 * s) (by omega) (by omega)
      rw [show ((2 * s : Nat) : Int) = 2 * (s : Int) by omega] at hc
      cases hp2 : p (2 * s) with
      | true =>
        rw [hp2] at hc
        have HC := Lib.hid hc
        have HP2 := Lib.hid hp2
        clear hc hp2 q0 q1 q2
        go_wp2_with fail
        refine HC.out.mono ?_
        rintro e w2 ⟨rfl, hb2⟩
        obtain ⟨q0, q1, q2⟩ := HST.out
        have y0 := q0.below hb2 q0.lt
        have y1 := q1.below hb2 q1.lt
        have y2 := q2.trans (hb2.mono (by omega))
        have z1 := y1.cell 0
        have z2 := y1.frozen 0
        simp at z1
        have HW2 := Lib.hid (And.intro y0 (And.intro y1 y2))
        clear q0 q1 q2 y0 y1 y2 x0 x1 x2 hb2
        go_wp2_with fail
        have hW3 : Held (w2.setCell ⟨N + 1, 0, none⟩ (.int .i64 ((s : Int) * 2))) N 155 #[.func (.func 97) #[] #[.pointer (some ⟨qb, 0, none⟩), .pointer (some ⟨tb, 0, none⟩)]] ∧ Held (w2.setCell ⟨N + 1, 0, none⟩ (.int .i64 ((s : Int) * 2))) (N + 1) 3 #[.int .i64 ((s : Int) * 2)] ∧ Below N w (w2.setCell ⟨N + 1, 0, none⟩ (.int .i64 ((s : Int) * 2))) := by
          obtain ⟨y0, y1, y2⟩ := HW2.out
          refine ⟨y0.other_put (by omega) _, by simpa using y1.put 0 _, y2.trans (below_put _ (by omega))⟩
        go_roundg (m - 2 * s)
        case measure => have := HGK.out; omega
        case rel => exact ⟨2 * s, by omega, by omega, HP2.out, Lib.hid (Nat.le_refl _), Lib.hid (by rw [show ((2 * s : Nat) : Int) = (s : Int) * 2 by omega]; exact hW3)⟩
      | false =>
        rw [hp2] at hc
        have HC := Lib.hid hc
        have HNO := Lib.hid (show ∀ j, min (2 * s - 1) m < j → j ≤ m → p j = false from fun j h1 h2 => by
          cases hj : p j with
          | false => rfl
          | true => rw [HM.out (2 * s) j (by omega) (by omega) h2 hj] at hp2; cases hp2)
        clear hc hp2 q0 q1 q2
        go_wp2_with fail
        refine HC.out.mono ?_
        rintro e w2 ⟨rfl, hb2⟩
        obtain ⟨q0, q1, q2⟩ := HST.out
        have y0 := q0.below hb2 q0.lt
        have y1 := q1.below hb2 q1.lt
        have y2 := q2.trans (hb2.mono (by omega))
        have zr2 := y1.lt
        clear q0 q1 q2 x0 x1 x2 hb2 HST
        have hps' := hps
        have hRs : s ≤ R ∧ R ≤ min (2 * s - 1) m := by
          have h1 := topP_le p m
          rw [HR.out] at h1
          constructor
          · rcases Nat.lt_or_ge R s with h | h
            · have := topP_no (p := p) m s (by rw [HR.out]; exact h) hsm
              rw [hps'] at this
              cases this
            · exact h
          · rcases Nat.lt_or_ge (min (2 * s - 1) m) R with h | h
            · have h3 := HNO.out R h h1
              have h4 := topP_yes (p := p) m (by rw [HR.out]; omega)
              rw [HR.out, h3] at h4
              cases h4
            · exact h
        have HSR := Lib.hid (fun (X : World) (hX : Below w2.heap.size w2 X) => search_any X N (N + 1) (min (2 * s - 1) m - s) (R - s) (fun i => !(p (s + 1 + i))) (by omega) (by omega)
          (fun t ht => by
            have h4 := topP_yes (p := p) m (by rw [HR.out]; omega)
            rw [HR.out] at h4
            have h1 := topP_le p m
            rw [HR.out] at h1
            show (!(p (s + 1 + t))) = false
            rw [HM.out (s + 1 + t) R (by omega) (by omega) h1 h4]; rfl)
          (fun t h1 h2 => by
            show (!(p (s + 1 + t))) = true
            rw [topP_no (p := p) m (s + 1 + t) (by rw [HR.out]; omega) (by omega)]; rfl)
          (fun W hW i hi => cmore_any W N (N + 1) qb tb s i (p (s + 1 + i)) ((y0.below hX (by omega)).below hW (by have := hX.size; omega)) ((y1.below hX (by omega)).below hW (by have := hX.size; omega)) (by omega) (HF.out W ((y2.trans (hX.mono (by omega))).trans (hW.mono (by have := hX.size; omega))) (s + 1 + i) (by omega) (by omega))))
        have x1 := y1.cell 0
        simp at x1
        have HX1 := Lib.hid (fun W (h : Below w2.heap.size w2 W) => (y1.below h zr2).cell 0)
        simp at HX1
        have HY2 := Lib.hid y2
        obtain ⟨U, hU⟩ : ∃ U : Nat, min (2 * s - 1) m = U := ⟨_, rfl⟩
        rw [hU] at hRs HSR
        have HU := Lib.hid hU
        have hUi : min (2 * (s : Int) - 1) (m : Int) = (U : Int) := by omega
        obtain ⟨V, hV⟩ : ∃ V : Nat, U - s = V := ⟨_, rfl⟩
        rw [hV] at HSR
        have hVi : (U : Int) - (s : Int) = (V : Int) := by omega
        have HV := Lib.hid hV
        obtain ⟨D, hD⟩ : ∃ D : Nat, R - s = D := ⟨_, rfl⟩
        rw [hD] at HSR
        have hDi : (s : Int) + (D : Int) = (R : Int) := by omega
        have hw2 : N ≤ w2.heap.size := by omega
        have hwr : IntKind.i64.wrap (R : Int) = (R : Int) := IntWalk.i64_in _ (by omega)
        clear hU hV y0 y1 y2 hD
        go_wp2_with fail
        go_region_held3 (fun W => W.cell? ⟨N + 1, 0, none⟩ = some (.int .i64 s))
          (first | exact x1 | exact HX1.out _ (Below.refl _ _) | exact HX1.out _ (Below.refl _ _).drew | exact HX1.out _ b3)
          (first | (go_at_call 110; (with_reducible refine (HSR.out _ (Below.refl _ _).drew).mono ?_); rintro e w3 ⟨rfl, hb3⟩; have b3 : Below w2.heap.size w2 w3 := (Below.refl w2.heap.size w2).drew.trans hb3))
        go_wp2_with fail
        go_ret
        exact ⟨rfl, by rw [hN]; exact HY2.out.trans (b3.mono hw2)⟩
    · have hh2 : ¬ (s : Int) ≤ (m : Int) / 2 := by omega
      have HNO := Lib.hid (show ∀ j, min (2 * s - 1) m < j → j ≤ m → p j = false from fun j h1 h2 => by omega)
      obtain ⟨w2, hw2⟩ : ∃ w2, w2 = wr := ⟨_, rfl⟩
      subst hw2
      obtain ⟨y0, y1, y2⟩ := HST.out
      have zr2 := y1.lt
      clear q0 q1 q2 HST
      have hps' := hps
      have hRs : s ≤ R ∧ R ≤ min (2 * s - 1) m := by
        have h1 := topP_le p m
        rw [HR.out] at h1
        constructor
        · rcases Nat.lt_or_ge R s with h | h
          · have := topP_no (p := p) m s (by rw [HR.out]; exact h) hsm
            rw [hps'] at this
            cases this
          · exact h
        · rcases Nat.lt_or_ge (min (2 * s - 1) m) R with h | h
          · have h3 := HNO.out R h h1
            have h4 := topP_yes (p := p) m (by rw [HR.out]; omega)
            rw [HR.out, h3] at h4
            cases h4
          · exact h
      have HSR := Lib.hid (fun (X : World) (hX : Below w2.heap.size w2 X) => search_any X N (N + 1) (min (2 * s - 1) m - s) (R - s) (fun i => !(p (s + 1 + i))) (by omega) (by omega)
        (fun t ht => by
          have h4 := topP_yes (p := p) m (by rw [HR.out]; omega)
          rw [HR.out] at h4
          have h1 := topP_le p m
          rw [HR.out] at h1
          show (!(p (s + 1 + t))) = false
          rw [HM.out (s + 1 + t) R (by omega) (by omega) h1 h4]; rfl)
        (fun t h1 h2 => by
          show (!(p (s + 1 + t))) = true
          rw [topP_no (p := p) m (s + 1 + t) (by rw [HR.out]; omega) (by omega)]; rfl)
        (fun W hW i hi => cmore_any W N (N + 1) qb tb s i (p (s + 1 + i)) ((y0.below hX (by omega)).below hW (by have := hX.size; omega)) ((y1.below hX (by omega)).below hW (by have := hX.size; omega)) (by omega) (HF.out W ((y2.trans (hX.mono (by omega))).trans (hW.mono (by have := hX.size; omega))) (s + 1 + i) (by omega) (by omega))))
      have x1 := y1.cell 0
      simp at x1
      have HX1 := Lib.hid (fun W (h : Below w2.heap.size w2 W) => (y1.below h zr2).cell 0)
      simp at HX1
      have HY2 := Lib.hid y2
      obtain ⟨U, hU⟩ : ∃ U : Nat, min (2 * s - 1) m = U := ⟨_, rfl⟩
      rw [hU] at hRs HSR
      have HU := Lib.hid hU
      have hUi : min (2 * (s : Int) - 1) (m : Int) = (U : Int) := by omega
      obtain ⟨V, hV⟩ : ∃ V : Nat, U - s = V := ⟨_, rfl⟩
      rw [hV] at HSR
      have hVi : (U : Int) - (s : Int) = (V : Int) := by omega
      have HV := Lib.hid hV
      obtain ⟨D, hD⟩ : ∃ D : Nat, R - s = D := ⟨_, rfl⟩
      rw [hD] at HSR
      have hDi : (s : Int) + (D : Int) = (R : Int) := by omega
      have hw2 : N ≤ w2.heap.size := by omega
      have hwr : IntKind.i64.wrap (R : Int) = (R : Int) := IntWalk.i64_in _ (by omega)
      clear hU hV y0 y1 y2 hD
      go_wp2_with fail
      go_region_held3 (fun W => W.cell? ⟨N + 1, 0, none⟩ = some (.int .i64 s))
        (first | exact x1 | exact HX1.out _ (Below.refl _ _) | exact HX1.out _ (Below.refl _ _).drew | exact HX1.out _ b3)
        (first | (go_at_call 110; (with_reducible refine (HSR.out _ (Below.refl _ _).drew).mono ?_); rintro e w3 ⟨rfl, hb3⟩; have b3 : Below w2.heap.size w2 w3 := (Below.refl w2.heap.size w2).drew.trans hb3))
      go_wp2_with fail
      go_ret
      exact ⟨rfl, by rw [hN]; exact HY2.out.trans (b3.mono hw2)⟩
end
end Go.Proofs.YtohibmjjhifggaaGreat
namespace Go.Proofs.YtohibmjjhifggaaGreat
open Go.RowKit Go.ChangeShapes Go.WideShapes
set_option linter.unusedVariables false
theorem aloneC_no {sig : List Pr} {l : List Pm} {k : Nat} {p : Pm} (h : l[k]? = some p) (hf : fitB sig [p] = false) : aloneC sig l = false := by
  cases ha : aloneC sig l with
  | false => rfl
  | true =>
    have := List.all_eq_true.1 ha p (List.mem_of_getElem? h)
    rw [hf] at this
    cases this
theorem aloneC_yes {sig : List Pr} {l : List Pm} (h : ∀ (j : Nat) (p : Pm), l[j]? = some p → fitB sig [p] = true) : aloneC sig l = true := List.all_eq_true.2 fun p hp => by
  obtain ⟨j, hj⟩ := List.mem_iff_getElem?.1 hp
  exact h j p hj
section
variable (A : Option Addr) (c : Nat) (ds : List Pd) (T : Option Addr) (ct : Nat) (ps : List Pm) (most : Int) (w : World)
set_option maxRecDepth 100000 in
set_option maxHeartbeats 1000000 in
theorem ccheck_any (hrow : PredRow w w.heap.size (.slice A ds.length c) ds) (ht : TrRow w w.heap.size (.slice T ps.length ct) ps) :
    Calls Tryz.prog 95 #[.slice A ds.length c, .slice T ps.length ct, .int .i64 most] w fun e w' => e = .returned (.int .i64 (whyC (ds.map (·.p)) ps most)) ∧ Below w.heap.size w w' := by
  obtain ⟨-, hc1, hc2⟩ := ht.1.len
  unfold whyC
  by_cases h0 : most < 1
  · rw [if_pos h0]
    clear hrow ht
    go_enter Tryz.func95, Tryz.ntmps95
    go_wp2_with fail
    go_ret
    exact ⟨rfl, Below.refl _ _⟩
  · rw [if_neg h0]
    have HCK := Lib.hid (tcheck_any A c ds T ct ps w hrow ht)
    by_cases h1 : (checkT (ds.map (·.p)) (ps.map (·.p))).1 = 0
    · rw [if_neg (fun h => h h1)]
      rw [h1] at HCK
      generalize (checkT (ds.map (·.p)) (ps.map (·.p))).2 = C2 at HCK
      have HROW := Lib.hid hrow
      have HTR := Lib.hid ht
      obtain ⟨R, hR⟩ : ∃ R : Int, (if aloneC (ds.map (·.p)) ps = true then (0 : Int) else 6) = R := ⟨_, rfl⟩
      rw [hR]
      have HR := Lib.hid hR
      clear hrow ht h1 hR
      obtain ⟨n, hn⟩ : ∃ n, ps.length = n := ⟨_, rfl⟩
      rw [hn] at HCK HTR hc1 ⊢
      have HN := Lib.hid hn
      clear hn
      go_enter Tryz.func95, Tryz.ntmps95
      go_wp2_with fail
      refine HCK.out.mono ?_
      rintro e w1 ⟨rfl, hb1⟩
      have HB1 := Lib.hid hb1
      clear hb1
      go_wp2_with fail
      go_loopg [24] n (fun gk i wr => ∃ k : Nat, i = .int .i64 k ∧ k ≤ n ∧ Hid (n - k = gk) ∧ Hid (∀ j p, j < k → ps[j]? = some p → fitB (ds.map (·.p)) [p] = true) ∧ Hid (Below w.heap.size w wr))
      case atStart => exact ⟨0, rfl, Nat.zero_le _, Lib.hid rfl, Lib.hid (fun j p hj _ => absurd hj (Nat.not_lt_zero _)), HB1⟩
      case round =>
        obtain ⟨k, rfl, hk, HGK, HALL, HB⟩ := hrel
        by_cases hlt : k < n
        · obtain ⟨d, hd⟩ : ∃ d, ps[k]? = some d := ⟨_, List.getElem?_eq_getElem (by rw [HN.out]; exact hlt)⟩
          have hz := HB.out.size
          obtain ⟨b, o, rfl, hb, x0, x1, hok, hl1, hl2⟩ := (HTR.out.below HB.out).at hd
          obtain ⟨w4, hw4⟩ : ∃ w4, wr.alloc (.cells #[.int .u64 d.tm, .slice d.A d.evs.length d.c] 35) = w4 := ⟨_, rfl⟩
          have s4 : w4.heap.size = wr.heap.size + 1 := by rw [← hw4, World.size_alloc]
          have hb4 : Below wr.heap.size wr w4 := by rw [← hw4]; exact (Below.refl _ _).alloc (Nat.le_refl _) _
          have hh4 : Held w4 wr.heap.size 35 #[.int .u64 d.tm, .slice d.A d.evs.length d.c] := by rw [← hw4]; exact heap_alloc_new wr _
          have y0 := hh4.cell 0
          have y1 := hh4.cell 1
          simp at y0 y1
          have hB4 := HB.out.trans (hb4.mono hz)
          have HF := Lib.hid (cfits_any A c ds w4 d ((HROW.out.below hB4).more (by omega)) ((hok.below (hb4.mono hz)).more (by omega)))
          have HB4 := Lib.hid hB4
          have HD := Lib.hid hd
          unfold Pm.val at HF
          clear hok hd hh4 hb4 hB4
          cases hf : fitB (ds.map (·.p)) [d] with
          | true =>
            rw [hf] at HF
            have HF1 := Lib.hid hf
            clear hf
            go_wp2_with fail
            refine HF.out.mono ?_
            rintro e w5 ⟨rfl, hb5⟩
            have HB5 := Lib.hid (HB4.out.trans (hb5.mono (by omega)))
            clear hb5 hw4 x0 x1 y0 y1
            go_wp2_with fail
            go_roundg (n - (k + 1))
            case measure => have := HGK.out; omega
            case rel => exact ⟨k + 1, by go_num, by omega, Lib.hid rfl, Lib.hid (fun j p hj hp => by
              by_cases hjk : j = k
              · subst hjk
                rw [HD.out] at hp
                injection hp with hp
                rw [← hp]
                exact HF1.out
              · exact HALL.out j p (by omega) hp), HB5⟩
          | false =>
            rw [hf] at HF
            have hR6 : R = 6 := by rw [← HR.out, aloneC_no HD.out hf]; rfl
            have HR6 := Lib.hid hR6
            clear hf hR6
            go_wp2_with fail
            refine HF.out.mono ?_
            rintro e w5 ⟨rfl, hb5⟩
            have HB5 := Lib.hid (HB4.out.trans (hb5.mono (by omega)))
            clear hb5 hw4 x0 x1 y0 y1
            go_wp2_with fail
            go_ret
            exact ⟨by rw [HR6.out]; rfl, HB5.out⟩
        · obtain rfl : n = k := by omega
          have hR0 : R = 0 := by rw [← HR.out, aloneC_yes (fun j p hp => HALL.out j p (by rw [← HN.out]; exact (List.getElem?_eq_some_iff.1 hp).1) hp)]; rfl
          have HR0 := Lib.hid hR0
          clear hR0
          go_wp2_with fail
          go_ret
          exact ⟨by rw [HR0.out]; rfl, HB.out⟩
    · rw [if_pos h1]
      have hne : ((checkT (ds.map (·.p)) (ps.map (·.p))).1 != 0) = true := bne_iff_ne.2 h1
      generalize checkT (ds.map (·.p)) (ps.map (·.p)) = C at HCK h1 hne ⊢
      clear hrow ht h1
      go_enter Tryz.func95, Tryz.ntmps95
      go_wp2_with fail
      refine HCK.out.mono ?_
      rintro e w1 ⟨rfl, hb1⟩
      go_wp2_with fail
      go_ret
      exact ⟨rfl, hb1⟩
end
end Go.Proofs.YtohibmjjhifggaaGreat
namespace Go.Proofs.YtohibmjjhifggaaGreat
open Go.RowKit Go.ChangeShapes Go.WideShapes
set_option linter.unusedVariables false
def szVs (l : List Nat) : List Value := l.map fun k => .int .i64 (k : Nat)
theorem szVs_at {l : List Nat} {i n : Nat} (h : l[i]? = some n) : (szVs l)[i]? = some (.int .i64 n) := by unfold szVs; rw [List.getElem?_map, h]; rfl
theorem szVs_snoc (l : List Nat) (n : Nat) : szVs l ++ [.int .i64 (n : Nat)] = szVs (l ++ [n]) := by unfold szVs; rw [List.map_append]; rfl
/-- Sizes' answer. -/
def sizesR (sig : List Pr) (l : List Pm) (most : Int) : List Nat × Int := if whyC sig l most = 0 then (sizesC sig l most, 0) else ([], whyC sig l most)
def SzGot (w : World) (r : List Nat × Int) (e : Ending) (W' : World) : Prop :=
  ∃ A c, e = .returned (.tuple #[.slice A r.1.length c, .int .i64 r.2]) ∧ W'.ownsRow w.heap.size 3 1 (.slice A r.1.length c) r.1.length (szVs r.1) ∧ Below w.heap.size w W'
/-- The two boxes, behind an append. -/
theorem sizes_step {N k base : Nat} {t1 t2 e : TypeId} {cs1 cs2 : Array Value} {w W X : World} {v : Value} {us : List Value} (h : Held W N t1 cs1 ∧ Held W (N + 1) t2 cs2 ∧ Below N w W) (ho : W.ownsRow base e 1 v k us) (hg : W.grownBy X v.ownBlock) (hb : N + 1 < base) :
    Held X N t1 cs1 ∧ Held X (N + 1) t2 cs2 ∧ Below N w X := by
  obtain ⟨q0, q1, q2⟩ := h
  have hn : ∀ j, j < base → some j ≠ v.ownBlock := fun j hj e => by have := (World.ownsRow.lt ho j e.symm).1; omega
  exact ⟨q0.grown hg (hn _ (by omega)), q1.grown hg (hn _ (by omega)), q2.grown hg (by have := q1.lt; omega) (fun j e => by have := (World.ownsRow.lt ho j e).1; omega)⟩
/-- What holds at the loop's head: the points that are left, and the sizes so far. -/
def SzRel (w : World) (N n : Nat) (A : Option Addr) (c : Nat) (ds : List Pd) (most : Int) (L : List Nat) (gk : Nat) (sv : Value) (wr : World) : Prop :=
  ∃ (qs : List Pm) (cr : Nat) (A2 : Option Addr) (ks : List Nat) (cc : Nat) (A1 : Option Addr), sv = .slice A1 ks.length cc ∧ qs.length ≤ cr ∧ cr ≤ 9223372036854775807 ∧ Hid (qs.length ≤ gk) ∧ Hid (ks.length + qs.length ≤ n) ∧ Hid (Held wr N 22 #[.slice A ds.length c] ∧ Held wr (N + 1) 23 #[.slice A2 qs.length cr] ∧ Below N w wr) ∧ Hid (wr.ownsRow (N + 1 + 1) 3 1 (.slice A1 ks.length cc) ks.length (szVs ks)) ∧ Hid (TrRow w N (.slice A2 qs.length cr) qs) ∧ Hid (COk (ds.map (·.p)) qs most) ∧ Hid (L = ks ++ sizesC (ds.map (·.p)) qs most)
theorem SzRel.next {w w3 : World} {N n c cr z c3 r4 c4 : Nat} {A A2 A3 A4 : Option Addr} {ds : List Pd} {most : Int} {L ks : List Nat} {qs : List Pm}
    (hst : Held w3 N 22 #[.slice A ds.length c] ∧ Held w3 (N + 1) 23 #[.slice A2 qs.length cr] ∧ Below N w w3) (hown : w3.ownsRow (N + 1 + 1) 3 1 (.slice A3 (ks.length + 1) c3) (ks.length + 1) (szVs (ks ++ [z])))
    (htq : TrRow w N (.slice A2 qs.length cr) qs) (hcq : COk (ds.map (·.p)) qs most) (hl : 0 < qs.length) (hkn : ks.length + qs.length ≤ n) (hlq : L = ks ++ sizesC (ds.map (·.p)) qs most) (hz : firstC (ds.map (·.p)) qs most = z)
    (h1 : r4 = qs.length - z) (h2 : c4 = cr - z) (hA : cr = z ∨ A4 = A2.map (fun x => x.add (z * 2))) :
    SzRel w N n A c ds most L (qs.length - z) (.slice A3 (ks.length + 1) c3) (w3.setCell ⟨N + 1, 0, none⟩ (.slice A4 r4 c4)) := by
  obtain ⟨q0, q1, q2⟩ := hst
  have hf := hcq.first hl
  rw [hz] at hf
  have hsz := hcq.sizes hl
  rw [hz] at hsz
  have hdl : (qs.drop z).length = r4 := by rw [List.length_drop]; omega
  obtain ⟨-, hc1, hc2⟩ := htq.1.len
  subst h1 h2
  have htd := htq.drop (k := z) (A' := A4) hf.2.1 hA
  refine ⟨qs.drop z, cr - z, A4, ks ++ [z], c3, A3, by rw [List.length_append]; rfl, by omega, by omega, Lib.hid (by omega), Lib.hid (by rw [List.length_append, hdl]; simp; omega), Lib.hid ⟨q0.other_put (by omega) _, ?_, q2.trans (below_put _ (by omega))⟩, Lib.hid ?_, Lib.hid (by rw [hdl]; exact htd), Lib.hid (hcq.drop z), Lib.hid (by rw [hlq, hsz, List.append_assoc]; rfl)⟩
  · rw [hdl]; simpa using q1.put 0 (.slice A4 (qs.length - z) (cr - z))
  · have h : (ks ++ [z]).length = ks.length + 1 := by simp
    rw [h]
    exact own_put1 hown (by omega)
section
variable (A : Option Addr) (c : Nat) (ds : List Pd) (T : Option Addr) (ct : Nat) (ps : List Pm) (most : Int) (w : World)
set_option maxRecDepth 100000 in
set_option maxHeartbeats 2000000 in
theorem csizes_any (hrow : PredRow w w.heap.size (.slice A ds.length c) ds) (ht : TrRow w w.heap.size (.slice T ps.length ct) ps) (hlen : ps.length ≤ 4398046510976) :
    Calls Tryz.prog 75 #[.slice A ds.length c, .slice T ps.length ct, .int .i64 most] w (SzGot w (sizesR (ds.map (·.p)) ps most)) := by
  obtain ⟨-, hc1, hc2⟩ := ht.1.len
  obtain ⟨N, hN⟩ : ∃ N, w.heap.size = N := ⟨_, rfl⟩
  obtain ⟨u0, hu0⟩ : ∃ u, w.alloc (.cells #[.slice A ds.length c] 22) = u := ⟨_, rfl⟩
  have s0 : u0.heap.size = N + 1 := by rw [← hu0, World.size_alloc, hN]
  have b0 : Below N w u0 := by rw [← hu0]; exact (Below.refl _ _).alloc (by omega) _
  have h0 : Held u0 N 22 #[.slice A ds.length c] := by rw [← hu0, ← hN]; exact heap_alloc_new w _
  obtain ⟨u1, hu1⟩ : ∃ u, u0.alloc (.cells #[.slice T ps.length ct] 23) = u := ⟨_, rfl⟩
  have s1 : u1.heap.size = N + 1 + 1 := by rw [← hu1, World.size_alloc, s0]
  have b1 : Below (N + 1) u0 u1 := by rw [← hu1]; exact (Below.refl _ _).alloc (by omega) _
  have h1 : Held u1 (N + 1) 23 #[.slice T ps.length ct] := by rw [← hu1, ← s0]; exact heap_alloc_new u0 _
  have k0 : Held u1 N 22 #[.slice A ds.length c] := h0.below b1 (by omega)
  have hbb : Below N w u1 := b0.trans (b1.mono (by omega))
  rw [hN] at hrow ht
  have HCK := Lib.hid (ccheck_any A c ds T ct ps most u1 ((hrow.below hbb).more (by omega)) ((ht.below hbb).more (by omega)))
  have HROW := Lib.hid hrow
  have HTR := Lib.hid ht
  have HS := Lib.hid (And.intro k0 (And.intro h1 hbb))
  have x0 := k0.cell 0
  have x1 := h1.cell 0
  simp at x0 x1
  unfold SzGot sizesR
  rw [hN]
  by_cases hw : whyC (ds.map (·.p)) ps most = 0
  · rw [if_pos hw]
    rw [hw] at HCK
    have HC := Lib.hid (cok_of hw ht.fits)
    obtain ⟨L, hL⟩ : ∃ L, sizesC (ds.map (·.p)) ps most = L := ⟨_, rfl⟩
    rw [hL]
    have HL := Lib.hid hL
    obtain ⟨n, hn⟩ : ∃ n, ps.length = n := ⟨_, rfl⟩
    have HN := Lib.hid hn
    rw [hn] at HCK HTR HS hc1 hlen x1 hu1 ⊢
    clear hrow ht b0 h0 b1 h1 k0 hbb hw hL hn
    go_enter Tryz.func75, Tryz.ntmps75
    go_wp2_with fail
    refine HCK.out.mono ?_
    rintro e w1 ⟨rfl, hb1⟩
    obtain ⟨k0, h1, hbb⟩ := HS.out
    have y0 := k0.below hb1 (by omega)
    have y1 := h1.below hb1 (by omega)
    have z1 := hb1.size
    have HB1 := Lib.hid (And.intro y0 (And.intro y1 (hbb.trans (hb1.mono (by omega)))))
    clear k0 h1 hbb y0 y1 hb1 x0 x1 hu0 hu1
    go_wp2_with fail
    obtain ⟨i0, hi, hy0, hy1, hy2⟩ := info_parts Tryz.infoIntB
    have CSTEP := @sizes_step
    go_loopg [9] n (fun gk sv wr => SzRel w N n A c ds most L gk sv wr)
    case atStart => exact ⟨ps, ct, T, [], 0, none, rfl, by rw [HN.out]; exact hc1, hc2, Lib.hid (by rw [HN.out]; exact Nat.le_refl _), Lib.hid (by rw [HN.out]; simp), Lib.hid (by rw [HN.out]; exact HB1.out), Lib.hid (World.ownsRow_nil _ _ _ _), Lib.hid (by rw [HN.out]; exact HTR.out), HC, Lib.hid (by rw [List.nil_append]; exact HL.out.symm)⟩
    case round =>
      obtain ⟨qs, cr, A2, ks, cc, A1, rfl, hq1, hq2, HGK, HKN, HST, HOW, HTQ, HCQ, HLQ⟩ := hrel
      obtain ⟨q0, q1, q2⟩ := HST.out
      have x1 := q1.cell 0
      simp at x1
      have zr := q1.lt
      by_cases hlt : 0 < qs.length
      · have hfi := HCQ.out.first hlt
        have hm1 := HCQ.out.most
        obtain ⟨M, hM⟩ : ∃ M, min (min most.toNat 1024) qs.length = M := ⟨_, rfl⟩
        have hg := cgreatest_any wr N (N + 1) M (fun j => fitB (ds.map (·.p)) (qs.take j)) (by omega) (by omega) (HCQ.out.one hlt)
          (fun a b h1 h2 h3 h4 => HCQ.out.ok.fewer h1 h2 (by omega) (by omega) h4)
          (fun W hW j h1 h2 => chold_any A c ds A2 cr qs W N (N + 1) j (q0.below hW q0.lt) (q1.below hW q1.lt) ((HROW.out.below (q2.trans (hW.mono (by omega)))).more (by have := hW.size; omega)) ((HTQ.out.below (q2.trans (hW.mono (by omega)))).more (by have := hW.size; omega)) (by omega))
        rw [← hM, show topP (fun j => fitB (ds.map (·.p)) (qs.take j)) (min (min most.toNat 1024) qs.length) = firstC (ds.map (·.p)) qs most from rfl, hM] at hg
        have HG := Lib.hid hg
        have hMi : (if (qs.length : Int) < (if (1024 : Int) < most then 1024 else most) then (qs.length : Int) else (if (1024 : Int) < most then 1024 else most)) = (M : Int) := by split <;> split <;> omega
        have HMM := Lib.hid hM
        clear hg q0 q1 q2 hM
        obtain ⟨z, hz⟩ : ∃ z, firstC (ds.map (·.p)) qs most = z := ⟨_, rfl⟩
        rw [hz] at HG hfi
        have HZ := Lib.hid hz
        have hzl := hfi.2.1
        have hz1 := hfi.1
        clear hz hfi
        have CNEXT := @SzRel.next w
        by_cases hcz : cr = z
        all_goals (
        go_wp2_with fail
        refine HG.out.mono ?_
        rintro e w2 ⟨rfl, hb2⟩
        have zz := hb2.size
        have HO := Lib.hid (own_below (own_below HOW.out hb2) ((Below.refl w2.heap.size w2).alloc (Nat.le_refl _) (.cells #[.int .i64 (z : Int)] 3)))
        have HER := Lib.hid (ERow.new w2 3 [.int .i64 (z : Int)] (n := 1) (by unfold maxLen; omega))
        have HST2 := Lib.hid (show Held (w2.alloc (.cells #[.int .i64 (z : Int)] 3)) N 22 #[.slice A ds.length c] ∧ Held (w2.alloc (.cells #[.int .i64 (z : Int)] 3)) (N + 1) 23 #[.slice A2 qs.length cr] ∧ Below N w (w2.alloc (.cells #[.int .i64 (z : Int)] 3)) from by
          obtain ⟨q0, q1, q2⟩ := HST.out
          have ba := (Below.refl w2.heap.size w2).alloc (Nat.le_refl _) (.cells #[.int .i64 (z : Int)] 3)
          exact ⟨(q0.below hb2 q0.lt).below ba (by have := q0.lt; omega), (q1.below hb2 q1.lt).below ba (by omega), (q2.trans (hb2.mono (by omega))).trans (ba.mono (by omega))⟩)
        clear hb2 x1
        go_wp2_with (at_builtin; refine wpList_append_erow _ rfl _ _ 49 3 rfl (N + 1 + 1) i0 (.int .i64 0) 1 8 Tryz.underlying49 hi hy0 hy1 hy2 rfl (by decide) (.slice A1 ks.length cc) ks.length (szVs ks) (by rfl) HO.out (w2.heap.size + 1) (.slice (some ⟨w2.heap.size, 0, none⟩) 1 1) 1 [.int .i64 (z : Int)] (by rfl) (by simpa using HER.out) rfl (by simp [Value.oneCell']) (by have := HKN.out; unfold maxLen; omega) (by have := HKN.out; omega) (by rw [World.size_alloc]; omega) (ks.length + 1) rfl (szVs (ks ++ [z])) (szVs_snoc _ _) ?_; intro A3 c3 w3 hown3 hg3 hat3; obtain ⟨HY0, HY1, HY2⟩ := CSTEP HST2.out HO.out hg3 (by omega); have x3 := HY1.cell 0; have x4 := HY1.frozen 0; simp at x3; have zl3 := HY1.lt; have HSY := Lib.hid (And.intro HY0 (And.intro HY1 HY2)); have HO3 := Lib.hid hown3; clear hown3 hg3 hat3 HY0 HY1 HY2))
        · go_roundg (qs.length - z)
          case measure => have := HGK.out; omega
          case rel => exact CNEXT HSY.out HO3.out HTQ.out HCQ.out hlt HKN.out HLQ.out HZ.out rfl (by omega) (Or.inl hcz)
        · go_roundg (qs.length - z)
          case measure => have := HGK.out; omega
          case rel => exact CNEXT HSY.out HO3.out HTQ.out HCQ.out hlt HKN.out HLQ.out HZ.out rfl rfl (Or.inr rfl)
      · have h0 : qs = [] := List.eq_nil_of_length_eq_zero (by omega)
        have hl : L = ks := by rw [HLQ.out, h0, sizesC_nil, List.append_nil]
        have HL2 := Lib.hid hl
        have HBX := Lib.hid q2
        subst h0
        clear hl q0 q1 q2 HST
        go_wp2_with fail
        go_ret2
        have hl := HL2.out
        subst hl
        exact ⟨A1, cc, rfl, own_base HOW.out (by omega), HBX.out⟩
  · rw [if_neg hw]
    have hne : (whyC (ds.map (·.p)) ps most != 0) = true := bne_iff_ne.2 hw
    generalize whyC (ds.map (·.p)) ps most = C at HCK hne ⊢
    clear hrow ht b0 h0 b1 h1 k0 hbb hw
    go_enter Tryz.func75, Tryz.ntmps75
    go_wp2_with fail
    refine HCK.out.mono ?_
    rintro e w1 ⟨rfl, hb1⟩
    obtain ⟨k0, h1, hbb⟩ := HS.out
    have HB1 := Lib.hid (hbb.trans (hb1.mono (by omega)))
    clear k0 h1 hbb hb1 x0 x1 hu0 hu1
    go_wp2_with fail
    go_ret2
    exact ⟨none, 0, rfl, World.ownsRow_nil _ _ _ _, HB1.out⟩
end
end Go.Proofs.YtohibmjjhifggaaGreat
namespace Go.Proofs.YtohibmjjhifggaaGreat
open Go.RowKit Go.ChangeShapes Go.WideShapes
set_option linter.unusedVariables false
theorem Tryz.infoPoints : (Tryz.prog.info? 23).map (fun i => (i.zero, i.size, i.bytes)) = some (some (.slice none 0 0), 1, 24) := by kernel_rfl
/-- A block: where its points lie, and what they are. -/
structure Bk where
  A : Option Addr
  c : Nat
  ps : List Pm
abbrev Bk.val (b : Bk) : Value := .slice b.A b.ps.length b.c
def bkVs (l : List Bk) : List Value := l.map (·.val)
theorem bkVs_at {l : List Bk} {i : Nat} {b : Bk} (h : l[i]? = some b) : (bkVs l)[i]? = some b.val := by unfold bkVs; rw [List.getElem?_map, h]; rfl
theorem bkVs_snoc (l : List Bk) (b : Bk) : bkVs l ++ [b.val] = bkVs (l ++ [b]) := by unfold bkVs; rw [List.map_append]; rfl
/-- Blocks of the call's own. -/
def OwnK (w : World) (n : Nat) (v : Value) (bs : List Bk) : Prop := w.ownsRow n 23 1 v bs.length (bkVs bs) ∧ ∀ b ∈ bs, OwnT w n b.val b.ps
theorem OwnK.nil (w : World) (n : Nat) : OwnK w n (.slice none 0 0) [] := ⟨World.ownsRow_nil _ _ _ _, by simp⟩
section
variable {w w' : World} {n m : Nat} {v u : Value}
theorem OwnT.grown {ps : List Pm} {f : TypeId} {j t : Nat} {vs : List Value} (h : OwnT w n u ps) (h2 : w.ownsRow m f t v j vs) (hf : 75 ≠ f) (hf2 : 73 ≠ f) (hf3 : 35 ≠ f) (hg : w.grownBy w' v.ownBlock) : OwnT w' n u ps :=
  ⟨World.ownsRow.kept h.1 hg (own_unlike h.1 h2 hf3), fun d hd => ⟨(h.2 d hd).1.grown h2 hf hf2 hg, (h.2 d hd).2⟩⟩
theorem OwnT.base {ps : List Pm} (h : OwnT w n v ps) (hm : m ≤ n) : OwnT w m v ps := ⟨own_base h.1 hm, fun d hd => ⟨(h.2 d hd).1.base hm, (h.2 d hd).2⟩⟩
theorem OwnK.below {bs : List Bk} (h : OwnK w n v bs) (hb : Below w.heap.size w w') : OwnK w' n v bs := ⟨own_below h.1 hb, fun b hd => (h.2 b hd).below hb⟩
/-- One more block. -/
theorem OwnK.more {bs : List Bk} {b : Bk} {A : Option Addr} {c : Nat} (h : OwnK w n v bs) (hb : OwnT w n b.val b.ps) (ho : w'.ownsRow n 23 1 (.slice A (bs.length + 1) c) (bs.length + 1) (bkVs (bs ++ [b]))) (hg : w.grownBy w' v.ownBlock) :
    OwnK w' n (.slice A (bs ++ [b]).length c) (bs ++ [b]) := by
  have e1 : 75 ≠ 23 := by decide
  have e2 : 73 ≠ 23 := by decide
  have e3 : 35 ≠ 23 := by decide
  refine ⟨by rw [List.length_append]; exact ho, fun x hx => ?_⟩
  rcases List.mem_append.1 hx with hx | hx
  · exact (h.2 x hx).grown h.1 e1 e2 e3 hg
  · obtain rfl := List.mem_singleton.1 hx
    exact hb.grown h.1 e1 e2 e3 hg
end
theorem TrFit.take {l : List Pm} (h : TrFit l) (k : Nat) : TrFit (l.take k) := ⟨by rw [List.length_take]; have := h.1; omega, fun d hd => h.2 d (List.mem_of_mem_take hd)⟩
theorem TrFit.drop {l : List Pm} (h : TrFit l) (k : Nat) : TrFit (l.drop k) := ⟨by rw [List.length_drop]; have := h.1; omega, fun d hd => h.2 d (List.mem_of_mem_drop hd)⟩
/-- Blocks' answer. -/
def blocksR (sig : List Pr) (l : List Pm) (most : Int) : List (List Pm) × Int := if whyC sig l most = 0 then (cutsOf (sizesC sig l most) l, 0) else ([], whyC sig l most)
def BkGot (w : World) (r : List (List Pm) × Int) (e : Ending) (W' : World) : Prop :=
  ∃ A c bs, e = .returned (.tuple #[.slice A bs.length c, .int .i64 r.2]) ∧ OwnK W' w.heap.size (.slice A bs.length c) bs ∧ bs.map (fun b => b.ps.map (·.p)) = r.1.map (List.map (·.p)) ∧ Below w.heap.size w W'
/-- What holds at the loop's head. -/
def BkRel (w : World) (N n m : Nat) (sig : List Pr) (most : Int) (As : Option Addr) (cs : Nat) (ks : List Nat) (R : List (List Pn)) (gk : Nat) (tv bv iv : Value) (wr : World) : Prop :=
  ∃ (qs : List Pm) (cr : Nat) (A2 : Option Addr) (bs : List Bk) (cc : Nat) (A1 : Option Addr) (k : Nat) (ms : List Nat), tv = .slice A2 qs.length cr ∧ bv = .slice A1 bs.length cc ∧ iv = .int .i64 k ∧ qs.length ≤ cr ∧ cr ≤ 9223372036854775807 ∧ k ≤ m ∧ Hid (m - k ≤ gk) ∧
    Hid (bs.length + qs.length ≤ n) ∧ Hid (ks.drop k = ms) ∧ Hid (CutC sig most qs ms) ∧ Hid (TrRow w N (.slice A2 qs.length cr) qs) ∧ Hid (TrFit qs) ∧ Hid (wr.ownsRow N 3 1 (.slice As m cs) m (szVs ks)) ∧ Hid (OwnK wr N (.slice A1 bs.length cc) bs) ∧
    Hid (bs.map (fun b => b.ps.map (·.p)) ++ (cutsOf ms qs).map (List.map (·.p)) = R) ∧ Hid (Below N w wr)
theorem BkRel.next {w w4 w5 : World} {N n m cr cs c5 k z cc r4 c4 : Nat} {sig : List Pr} {most : Int} {As A1 A2 A4 A5 : Option Addr} {ks ms : List Nat} {R : List (List Pn)} {qs : List Pm} {bs : List Bk} {b : Bk}
    (hq : qs.length ≤ cr) (hcr : cr ≤ 9223372036854775807) (hk : k < m) (hbn : bs.length + qs.length ≤ n) (hms : ks.drop k = z :: ms) (hz1 : 1 ≤ z) (hzl : z ≤ qs.length) (hct : CutC sig most (qs.drop z) ms)
    (htq : TrRow w N (.slice A2 qs.length cr) qs) (hft : TrFit qs) (hks : w4.ownsRow N 3 1 (.slice As m cs) m (szVs ks)) (hok : OwnK w4 N (.slice A1 bs.length cc) bs) (hob : OwnT w4 N b.val b.ps) (hbp : b.ps.map (·.p) = (qs.take z).map (·.p))
    (ho : w5.ownsRow N 23 1 (.slice A5 (bs.length + 1) c5) (bs.length + 1) (bkVs (bs ++ [b]))) (hg : w4.grownBy w5 (Value.slice A1 bs.length cc).ownBlock)
    (hr : bs.map (fun b => b.ps.map (·.p)) ++ (cutsOf (z :: ms) qs).map (List.map (·.p)) = R) (hb : Below N w w4) (hN : N ≤ w4.heap.size) (h1 : r4 = qs.length - z) (h2 : c4 = cr - z) (hA : cr = z ∨ A4 = A2.map (fun x => x.add (z * 2))) :
    BkRel w N n m sig most As cs ks R (m - (k + 1)) (.slice A4 r4 c4) (.slice A5 (bs.length + 1) c5) (.int .i64 ((k : Int) + 1)) w5 := by
  have hdl : (qs.drop z).length = r4 := by rw [List.length_drop]; omega
  have htd := htq.drop (k := z) (A' := A4) hzl hA
  have e1 : 3 ≠ 23 := by decide
  have hms2 : ks.drop (k + 1) = ms := by
    have : (ks.drop k).drop 1 = ms := by rw [hms]; rfl
    rwa [List.drop_drop] at this
  have hOK := hok.more hob ho hg
  subst h1 h2
  refine ⟨qs.drop z, cr - z, A4, bs ++ [b], c5, A5, k + 1, ms, by rw [hdl], by rw [List.length_append]; rfl, by go_num, by omega, by omega, by omega, Lib.hid (Nat.le_refl _), Lib.hid (by rw [List.length_append, hdl]; simp; omega), Lib.hid hms2, Lib.hid hct, Lib.hid (by rw [hdl]; exact htd), Lib.hid (hft.drop z),
    Lib.hid (World.ownsRow.kept hks hg (own_unlike hks hok.1 e1)), Lib.hid hOK, Lib.hid ?_, Lib.hid (hb.grown hg hN (fun j e => (World.ownsRow.lt hok.1 j e).1))⟩
  rw [← hr, cutsOf, List.map_cons, List.map_append, List.append_assoc, List.map_cons, List.map_nil, hbp]
  rfl
section
variable (A : Option Addr) (c : Nat) (ds : List Pd) (T : Option Addr) (ct : Nat) (ps : List Pm) (most : Int) (w : World)
set_option maxRecDepth 100000 in
set_option maxHeartbeats 2000000 in
theorem cblocks_any (hrow : PredRow w w.heap.size (.slice A ds.length c) ds) (ht : TrRow w w.heap.size (.slice T ps.length ct) ps) (hft : TrFit ps) :
    Calls Tryz.prog 50 #[.slice A ds.length c, .slice T ps.length ct, .int .i64 most] w (BkGot w (blocksR (ds.map (·.p)) ps most)) := by
  obtain ⟨-, hc1, hc2⟩ := ht.1.len
  have HSZ := csizes_any A c ds T ct ps most w hrow ht hft.1
  unfold sizesR at HSZ
  unfold BkGot blocksR
  by_cases hw : whyC (ds.map (·.p)) ps most = 0
  · rw [if_pos hw] at HSZ ⊢
    have hcut := COk.cut _ (cok_of hw ht.fits) rfl
    have hmn := COk.length (cok_of hw ht.fits) _ rfl
    obtain ⟨N, hN⟩ : ∃ N, w.heap.size = N := ⟨_, rfl⟩
    obtain ⟨ks, hks⟩ : ∃ ks, sizesC (ds.map (·.p)) ps most = ks := ⟨_, rfl⟩
    rw [hks] at HSZ hcut hmn ⊢
    obtain ⟨m, hm⟩ : ∃ m, ks.length = m := ⟨_, rfl⟩
    have HSZ2 : Calls Tryz.prog 75 #[.slice A ds.length c, .slice T ps.length ct, .int .i64 most] w fun e W' => ∃ As cs, e = .returned (.tuple #[.slice As m cs, .int .i64 0]) ∧ W'.ownsRow N 3 1 (.slice As m cs) m (szVs ks) ∧ Below N w W' := by rw [← hm, ← hN]; exact HSZ
    have HSZ := Lib.hid HSZ2
    obtain ⟨R, hR⟩ : ∃ R, (cutsOf ks ps).map (List.map (·.p)) = R := ⟨_, rfl⟩
    have hRR : ((cutsOf ks ps, (0 : Int)).1).map (List.map (·.p)) = R := hR
    rw [hN] at ht ⊢
    rw [hRR]
    obtain ⟨i1, hi1, hy0, hy1, hy2⟩ := info_parts Tryz.infoPoints
    have HTR := Lib.hid ht
    have HCUT := Lib.hid hcut
    have HFT := Lib.hid hft
    have HR := Lib.hid hR
    have HM := Lib.hid hm
    have hpl := hft.1
    have hwN : N ≤ w.heap.size := by omega
    obtain ⟨n, hn⟩ : ∃ n, ps.length = n := ⟨_, rfl⟩
    rw [hn] at HSZ HTR hc1 hpl ⊢
    rw [hm, hn] at hmn
    have HN := Lib.hid hn
    clear hrow ht hft hcut hw hks HSZ2 hR hRR hm hn hN
    go_enter Tryz.func50, Tryz.ntmps50
    go_wp2_with fail
    refine HSZ.out.mono ?_
    rintro e w1 ⟨As, cs, rfl, hown, hb1⟩
    have HOWN := Lib.hid hown
    have HB1 := Lib.hid hb1
    clear hown hb1
    go_wp2_with fail
    have BNEXT := @BkRel.next w
    go_loopg [1, 10, 25] m (fun gk tv bv iv wr => BkRel w N n m (ds.map (·.p)) most As cs ks R gk tv bv iv wr)
    case atStart => exact ⟨ps, ct, T, [], 0, none, 0, ks, by rw [HN.out], rfl, rfl, by rw [HN.out]; exact hc1, hc2, Nat.zero_le _, Lib.hid (Nat.le_refl _), Lib.hid (by rw [HN.out]; simp), Lib.hid rfl, HCUT, Lib.hid (by rw [HN.out]; exact HTR.out), HFT, HOWN, Lib.hid (OwnK.nil _ _), Lib.hid (by rw [List.map_nil, List.nil_append]; exact HR.out), HB1⟩
    case round =>
      obtain ⟨qs, cr, A2, bs, cc, A1, k, ms, rfl, rfl, rfl, hq, hcr, hkm, HGK, HBN, HMS, HCT, HTQ, HFQ, HKS, HOK, HRR, HB⟩ := hrel
      by_cases hlt : k < m
      · obtain ⟨z, hz⟩ : ∃ z, ks[k]? = some z := ⟨_, List.getElem?_eq_getElem (by rw [HM.out]; exact hlt)⟩
        obtain ⟨ms2, hms2⟩ : ∃ ms2, ms = z :: ms2 := ⟨ks.drop (k + 1), by
          rw [← HMS.out, List.drop_eq_getElem_cons (by rw [HM.out]; exact hlt)]
          rw [List.getElem?_eq_getElem (by rw [HM.out]; exact hlt)] at hz
          injection hz with hz
          rw [hz]⟩
        subst hms2
        obtain ⟨hcq, hl0, hfz, hct2⟩ := HCT.out.inv
        have hf := hcq.first hl0
        rw [hfz] at hf
        have hz1 := hf.1
        have hzl := hf.2.1
        have hzc : z ≤ cr := Nat.le_trans hzl hq
        have HCT2 := Lib.hid hct2
        obtain ⟨b, o, rfl, hb, hcell⟩ := (ERow.of_own HKS.out).block (by omega)
        have x0 := hcell k _ (szVs_at hz)
        have htl : (qs.take z).length = z := by rw [List.length_take]; omega
        have hnw : N ≤ wr.heap.size := Nat.le_trans hwN HB.out.size
        have hcl := tclone_any A2 cr (qs.take z) wr (((HTQ.out.take hzl).below HB.out).more hnw) (HFQ.out.take z)
        rw [htl] at hcl
        have HCL := Lib.hid hcl
        clear hcq hl0 hfz hct2 hf hcell hz htl hcl
        rcases (show z = cr ∨ ¬ cr = z by omega) with rfl | hcz
        all_goals (
        go_wp2_with fail
        refine HCL.out.mono ?_
        rintro e w2 ⟨A5, c5, es, rfl, hOT, hep, hb2⟩
        have zz := hb2.size
        have ba := (Below.refl w2.heap.size w2).alloc (Nat.le_refl _) (.cells #[.slice A5 es.length c5] 23)
        have HO := Lib.hid ((HOK.out.below hb2).below ba)
        have HKS2 := Lib.hid (own_below (own_below HKS.out hb2) ba)
        have HOT := Lib.hid ((hOT.base hnw).below ba)
        have HB2 := Lib.hid ((HB.out.trans (hb2.mono hnw)).trans (ba.mono (by omega)))
        have HEP := Lib.hid hep
        have HER := Lib.hid (ERow.new w2 23 [.slice A5 es.length c5] (n := 1) (by unfold maxLen; omega))
        clear hOT hep hb2 ba x0
        go_wp2_with (at_builtin; refine wpList_append_erow _ rfl _ _ 57 23 rfl N i1 (.slice none 0 0) 1 24 Tryz.underlying57 hi1 hy0 hy1 hy2 rfl (by decide) (.slice A1 bs.length cc) bs.length (bkVs bs) (by rfl) HO.out.1 (w2.heap.size + 1) (.slice (some ⟨w2.heap.size, 0, none⟩) 1 1) 1 [.slice A5 es.length c5] (by rfl) (by simpa using HER.out) rfl (by simp [Value.oneCell']) (by have := HBN.out; unfold maxLen; omega) (by have := HBN.out; omega) (by rw [World.size_alloc]; omega) (bs.length + 1) rfl (bkVs (bs ++ [⟨A5, c5, es⟩])) (bkVs_snoc bs ⟨A5, c5, es⟩) ?_; intro A6 c6 w6 hown6 hg6 hat6; have HO6 := Lib.hid hown6; have HG6 := Lib.hid hg6; clear hown6 hg6 hat6))
        · go_roundg (m - (k + 1))
          case measure => have := HGK.out; omega
          case rel => exact BNEXT (b := ⟨A5, c5, es⟩) hq hcr hlt HBN.out HMS.out hz1 hzl HCT2.out HTQ.out HFQ.out HKS2.out HO.out HOT.out HEP.out HO6.out HG6.out HRR.out HB2.out (by rw [World.size_alloc]; omega) (by omega) (by omega) (Or.inl rfl)
        · go_roundg (m - (k + 1))
          case measure => have := HGK.out; omega
          case rel => exact BNEXT (b := ⟨A5, c5, es⟩) hq hcr hlt HBN.out HMS.out hz1 hzl HCT2.out HTQ.out HFQ.out HKS2.out HO.out HOT.out HEP.out HO6.out HG6.out HRR.out HB2.out (by rw [World.size_alloc]; omega) rfl rfl (Or.inr rfl)
      · have hkm2 : m = k := by omega
        subst hkm2
        have h0 : ms = [] := by rw [← HMS.out, List.drop_of_length_le (by rw [HM.out]; exact Nat.le_refl _)]
        have hrr : bs.map (fun b => b.ps.map (·.p)) = R := by
          have := HRR.out
          rw [h0, cutsOf, List.map_nil, List.append_nil] at this
          exact this
        have HRF := Lib.hid hrr
        clear hrr h0
        go_wp2_with fail
        go_ret2
        exact ⟨A1, cc, bs, rfl, HOK.out, HRF.out, HB.out⟩
  · rw [if_neg hw] at HSZ ⊢
    have hne : (whyC (ds.map (·.p)) ps most != 0) = true := bne_iff_ne.2 hw
    generalize whyC (ds.map (·.p)) ps most = C at HSZ hne ⊢
    have HSZ2 : Calls Tryz.prog 75 #[.slice A ds.length c, .slice T ps.length ct, .int .i64 most] w fun e W' => ∃ As cs, e = .returned (.tuple #[.slice As 0 cs, .int .i64 C]) ∧ W'.ownsRow w.heap.size 3 1 (.slice As 0 cs) 0 [] ∧ Below w.heap.size w W' := HSZ
    have HSZ := Lib.hid HSZ2
    clear hrow ht hw HSZ2
    go_enter Tryz.func50, Tryz.ntmps50
    go_wp2_with fail
    refine HSZ.out.mono ?_
    rintro e w1 ⟨As, cs, rfl, hown, hb1⟩
    clear hown
    go_wp2_with fail
    go_ret2
    exact ⟨none, 0, [], rfl, OwnK.nil _ _, rfl, hb1⟩
end
end Go.Proofs.YtohibmjjhifggaaGreat

namespace Go.Proofs.YtohibmjjhifggaaGreat
open Go.RowKit Go.ChangeShapes Go.WideShapes
set_option maxRecDepth 100000 in
set_option maxHeartbeats 1000000 in
theorem rplace_any {w : World} {B : Nat} (A : Option Addr) (c : Nat) (L : List (List Int)) (s : List Int) (h : ERow w B (.slice A L.length c) L.length (strVs L)) (hx : TxOk L) (hs : TxB s) :
    Calls Tryz.prog 74 #[.slice A L.length c, .string (strOfNums s)] w fun e w' => e = .returned (.int .i64 (placeD L s)) ∧ w = w' := by
  obtain ⟨-, hc1, hc2⟩ := h.len
  have HR := Lib.hid h
  have HX := Lib.hid hx
  have HS := Lib.hid hs
  have HFD := Lib.hid (fun (r : Nat) (h : L[r]? = some s) => placeD_found (l := L) (x := s) (r := r) h)
  have HNO := Lib.hid (fun (h : s ∉ L) => placeD_none h)
  clear h hx hs
  obtain ⟨R, hR⟩ : ∃ R, placeD L s = R := ⟨_, rfl⟩
  rw [hR] at HNO ⊢
  simp only [hR] at HFD
  clear hR
  go_enter Tryz.func74, Tryz.ntmps74
  go_wp2_with fail
  go_loopg [5] L.length (fun gk i wr => ∃ k : Nat, k ≤ L.length ∧ i = .int .i64 k ∧ Hid (L.length - k = gk) ∧ Hid (∀ j, j < k → L[j]? ≠ some s) ∧ wr = w)
  case atStart => exact ⟨0, Nat.zero_le _, rfl, Lib.hid rfl, Lib.hid (fun j hj => absurd hj (Nat.not_lt_zero _)), rfl⟩
  case round =>
    obtain ⟨k, hk, rfl, HGK, HN, rfl⟩ := hrel
    by_cases hlt : k < L.length
    · obtain ⟨t, ht⟩ : ∃ t, L[k]? = some t := ⟨_, List.getElem?_eq_getElem hlt⟩
      obtain ⟨b, o, rfl, _, hcl⟩ := HR.out.block (by omega)
      have x1 := hcl k _ (strVs_at L ht)
      have hbt := (HX.out t (List.mem_of_getElem? ht)).2
      by_cases he : t = s
      · have heq : ((strOfNums t).toList == (strOfNums s).toList) = true := by rw [str_eq_dec hbt HS.out, decide_eq_true he]
        have HK := Lib.hid (HFD.out k (by rw [ht, he]) HN.out)
        clear hbt ht hcl he
        go_wp2_with fail
        go_ret
        exact ⟨by rw [HK.out]; rfl, rfl⟩
      · have heq : ((strOfNums t).toList == (strOfNums s).toList) = false := by rw [str_eq_dec hbt HS.out, decide_eq_false he]
        have HN2 := Lib.hid (show ∀ j, j < k + 1 → L[j]? ≠ some s from fun j hj => by
          rcases Nat.lt_or_ge j k with h | h
          · exact HN.out j h
          · obtain rfl : j = k := by omega
            rw [ht]
            exact fun e => he (by injection e))
        clear hbt ht hcl he
        go_wp2_with fail
        go_roundg (L.length - (k + 1))
        case measure => have := HGK.out; omega
        case rel => exact ⟨k + 1, by omega, by go_num, Lib.hid rfl, HN2, rfl⟩
    · obtain rfl : k = L.length := by omega
      have hno : s ∉ L := fun hm => by
        obtain ⟨i, hi⟩ := List.mem_iff_getElem?.1 hm
        exact HN.out i (List.getElem?_eq_some_iff.1 hi).1 hi
      have HK := Lib.hid (HNO.out hno)
      clear hno
      go_wp2_with fail
      go_ret
      exact ⟨by rw [HK.out]; rfl, rfl⟩
theorem putD_tx {L : List (List Int)} {s : List Int} (h : TxOk L) (hs : TxB s) (hl : s.length ≤ maxLen) : TxOk (putD L s).1 := fun t ht => by
  rcases putD_mem ht with h1 | rfl
  · exact h t h1
  · exact ⟨hl, hs⟩
/-- What the document's Put answers: the list as it was, or one in new memory. -/
def RPut (w : World) (n0 : Nat) (v : Value) (r : List (List Int) × Int) (e : Ending) (w' : World) : Prop :=
  ∃ v', e = .returned (.tuple #[v', .int .i64 r.2]) ∧ w'.ownsRow n0 9 1 v' r.1.length (strVs r.1) ∧ (v' = v ∨ w'.ownsRow w.heap.size 9 1 v' r.1.length (strVs r.1)) ∧ Below w.heap.size w w'
set_option maxRecDepth 100000 in
set_option maxHeartbeats 1000000 in
theorem rput13_any {w : World} {n0 : Nat} {v : Value} {L : List (List Int)} (h : w.ownsRow n0 9 1 v L.length (strVs L)) (hn0 : n0 ≤ w.heap.size) (hx : TxOk L) (s : List Int) (hs : TxB s) (hn : L.length ≤ 1000000000) :
    Calls Tryz.prog 94 #[v, .string (strOfNums s)] w (RPut w n0 v (putD L s)) := by
  obtain ⟨i0, hi, hz0, hz1, hz2⟩ := info_parts Tryz.infoTxt
  have her := ERow.of_own h
  obtain ⟨A, c, rfl, hc1, hc2⟩ := her.form
  have HPL := Lib.hid (rplace_any A c L s her hx hs)
  rcases placeD_ways L s with ⟨hp, hno⟩ | ⟨j, hj0, hp, _, _⟩
  · rw [putD_new hp]
    rw [hp] at HPL
    have HER := Lib.hid her
    have hl : (strVs L).length = L.length * 1 := by rw [strVs_length, Nat.mul_one]
    have HON := Lib.hid (strVs_one L)
    obtain ⟨n, hn'⟩ : ∃ n, L.length = n := ⟨_, rfl⟩
    have HN := Lib.hid hn'
    rw [hn'] at HPL HER hl hc1 hn ⊢
    clear h her hx hs hno hp hn'
    go_enter Tryz.func94, Tryz.ntmps94
    go_wp2_with fail
    refine HPL.out.mono ?_
    rintro e w1 ⟨rfl, rfl⟩
    go_wp2_with (first
      | (at_builtin; refine wpList_append_erow _ rfl _ _ 40 9 rfl w.heap.size i0 (.string ⟨#[]⟩) 1 16 Tryz.underlying40 hi hz0 hz1 hz2 rfl (by decide) (.slice (some ⟨w.heap.size, 0, none⟩) 0 0) 0 [] (by rfl) (own_none (Nat.le_refl _)) w.heap.size (.slice A n c) n (strVs L) (by rfl) (HER.out.below ((Below.refl _ _).alloc (Nat.le_refl _) _)) hl HON.out (by simp only [maxLen]; omega) (by omega) (by simp) n (Nat.zero_add n) (strVs L) rfl ?_; intro A2 c2 w2 hown2 hg2 hat2; have HO2 := Lib.hid hown2; have HG2 := Lib.hid hg2; clear hown2 hg2 hat2)
      | (at_builtin; refine wpList_append_erow _ rfl _ _ 40 9 rfl w.heap.size i0 (.string ⟨#[]⟩) 1 16 Tryz.underlying40 hi hz0 hz1 hz2 rfl (by decide) (.slice A2 n c2) n (strVs L) (by rfl) (HO2.out.alloc _) (w2.heap.size + 1) (.slice (some ⟨w2.heap.size, 0, none⟩) 1 1) 1 [.string (strOfNums s)] (by rfl) (ERow.held (t := 9) (heap_alloc_new w2 _) (Nat.lt_succ_self _) (by unfold maxLen; omega)) rfl (by simp [Value.oneCell']) (by simp only [maxLen]; omega) (by omega) (by have := HG2.out.size; simp at this ⊢; omega) (n + 1) rfl _ rfl ?_; intro A3 c3 w3 hown3 hg3 hat3; have HO3 := Lib.hid hown3; have HG3 := Lib.hid hg3; clear hown3 hg3 hat3))
    have hb2 : Below w.heap.size w w2 := ((Below.refl _ _).alloc (Nat.le_refl _) _).grown HG2.out (by simp) (fun k hk => by simp [Value.ownBlock] at hk; omega)
    have hz2' := hb2.size
    have hb3 : Below w.heap.size w w3 := (hb2.alloc hz2' _).grown HG3.out (by simp; omega) (fun k hk => (HO2.out.lt k hk).1)
    have ho3 := HO3.out
    have ho4 : w3.ownsRow w.heap.size 9 1 (.slice A3 (n + 1) c3) (L ++ [s]).length (strVs (L ++ [s])) := by
      rw [List.length_append, strVs_snoc, HN.out]
      exact ho3
    have hfin : RPut w n0 (.slice A n c) (L ++ [s], (n : Int)) (.returned (.tuple #[.slice A3 (n + 1) c3, .int .i64 n])) w3 := ⟨_, rfl, own_base ho4 hn0, .inr ho4, hb3⟩
    exact bodyPost_ret (v := .tuple #[.slice A3 (n + 1) c3, .int .i64 n]) (by simp [results, Tryz.results94, go_sem]) rfl hfin
  · rw [putD_old hp]
    rw [hp] at HPL
    have HF := Lib.hid (show RPut w n0 (.slice A L.length c) (L, (j : Int)) (.returned (.tuple #[.slice A L.length c, .int .i64 j])) w from ⟨_, rfl, h, .inl rfl, Below.refl _ _⟩)
    clear h her hx hp
    go_enter Tryz.func94, Tryz.ntmps94
    go_wp2_with fail
    refine HPL.out.mono ?_
    rintro e w1 ⟨rfl, rfl⟩
    go_wp2_with fail
    exact bodyPost_ret (v := .tuple #[.slice A L.length c, .int .i64 j]) (by simp [results, Tryz.results94, go_sem]) rfl HF.out
end Go.Proofs.YtohibmjjhifggaaGreat
namespace Go.Proofs.YtohibmjjhifggaaGreat
open Go.RowKit Go.ChangeShapes Go.WideShapes
/-- A list of texts of the call's own. -/
def ORow (w : World) (N : Nat) (v : Value) (L : List (List Int)) : Prop := w.ownsRow N 9 1 v L.length (strVs L) ∧ TxOk L
/-- Writing into a list of the call's own. -/
theorem own_store {w : World} {n c g m : Nat} {e : TypeId} {A : Option Addr} {us : List Value} {u0 : Value} (h : w.ownsRow n e 1 (.slice A g c) g us) (hm : m < g) (hu : us[m]? = some u0) :
    ∃ b, A = some ⟨b, 0, none⟩ ∧ n ≤ b ∧ w.cell? ⟨b, m, none⟩ = some u0 ∧ w.frozen? ⟨b, m, none⟩ = false ∧ ∀ u, (w.setCell ⟨b, m, none⟩ u).ownsRow n e 1 (.slice A g c) g (us.set m u) := by
  rcases h.2 with ⟨h1, h2⟩ | ⟨b, cap, cur, h1, hb, _⟩
  · omega
  · injection h1 with e1 _ e3
    subst e1 e3
    exact ⟨b, rfl, hb, (h.cellAt m (by omega)).trans hu, h.frozenAt m, fun u => (h.stored m u).1⟩
set_option maxRecDepth 100000 in
set_option maxHeartbeats 2000000 in
theorem rof13_any (A : Option Addr) (c : Nat) (ps : List Pm) (w : World) (hrow : TrRow w w.heap.size (.slice A ps.length c) ps) (hn : nT ps ≤ 1000000000) :
    Calls Tryz.prog 71 #[.slice A ps.length c] w fun e w' => ∃ v, e = .returned v ∧ ORow w' w.heap.size v (addT [] ps) ∧ Below w.heap.size w w' := by
  obtain ⟨-, hc1, hc2⟩ := hrow.1.len
  obtain ⟨N, hN⟩ : ∃ N, w.heap.size = N := ⟨_, rfl⟩
  have H0 := Lib.hid (show ORow (w.alloc (.cells #[] 9)) N (.slice (some ⟨N, 0, none⟩) 0 0) [] from ⟨by rw [← hN]; exact own_none (Nat.le_refl _), fun t h => by simp at h⟩)
  have HB0 := Lib.hid (show Below N w (w.alloc (.cells #[] 9)) from (Below.refl _ _).alloc (by omega) _)
  rw [hN] at hrow ⊢
  have HTR := Lib.hid hrow
  clear hrow
  go_enter Tryz.func71, Tryz.ntmps71
  go_wp2_with fail
  go_loopg [3, 4] ps.length (fun gk v0 i wr => ∃ (k : Nat) (v : Value), k ≤ ps.length ∧ v = v0 ∧ i = .int .i64 k ∧ Hid (ps.length - k = gk) ∧ Hid (ORow wr N v (addT [] (ps.take k))) ∧ Hid (Below N w wr))
  case atStart => exact ⟨0, _, Nat.zero_le _, rfl, rfl, Lib.hid rfl, (by first | exact H0 | (rw [hN]; exact H0)), HB0⟩
  case round =>
    obtain ⟨k, v1, hk, rfl, rfl, HGK, HD, HB⟩ := hrel
    by_cases hlt : k < ps.length
    · obtain ⟨d, hd⟩ : ∃ d, ps[k]? = some d := ⟨_, List.getElem?_eq_getElem hlt⟩
      obtain ⟨b, o, rfl, hb, x0, x1, hok, hl1, hl2⟩ := (HTR.out.below HB.out).at hd
      have HXX := Lib.hid (fun (W : World) (h : Below N w W) => (h.cell (p := ⟨b, o + k * 2 + 1, none⟩) hb).trans ((HB.out.cell (p := ⟨b, o + k * 2 + 1, none⟩) hb).symm.trans x1))
      have HOK := Lib.hid (fun (W : World) (h : Below N w W) => ((HTR.out.below h).2 d (List.mem_of_getElem? hd)).1)
      have HS := Lib.hid (addT_succ (L := []) hd)
      have hnk := nT_at ps k d hd
      have hlen := (addT_ok (ps.take k) []).high
      simp only [List.length_nil, Nat.zero_add] at hlen
      obtain ⟨M, hM⟩ : ∃ M, addT [] (ps.take k) = M := ⟨_, rfl⟩
      rw [hM] at hlen HS HD
      obtain ⟨dA, hdA⟩ : ∃ dA, d.A = dA := ⟨_, rfl⟩
      rw [hdA] at HXX HOK
      have HLE := Lib.hid hlen
      have HNK := Lib.hid hnk
      clear hok hd x0 x1 hM hlen hnk hdA
      go_wp2_with fail
      go_loopg [3, 5] d.evs.length (fun gm v0 i wr2 => ∃ (m : Nat) (v : Value), m ≤ d.evs.length ∧ v = v0 ∧ i = .int .i64 m ∧ Hid (d.evs.length - m = gm) ∧ Hid (ORow wr2 N v (addE M (d.evs.take m))) ∧ Hid (Below N w wr2))
      case atStart => exact ⟨0, _, Nat.zero_le _, rfl, rfl, Lib.hid rfl, HD, HB⟩
      case round =>
        obtain ⟨m, v2, hm, rfl, rfl, HGM, HD5, HB5⟩ := hrel
        have x1 := HXX.out _ HB5.out
        by_cases hml : m < d.evs.length
        · obtain ⟨x, hx⟩ : ∃ x, d.evs[m]? = some x := ⟨_, List.getElem?_eq_getElem hml⟩
          obtain ⟨b2, o2, e2, hb2, u0, u1, hokx, hl3, hl4⟩ := (HOK.out _ HB5.out).at hx
          rw [e2] at x1
          have HOX := Lib.hid (fun (W : World) (h : Below N w W) => (show GRow W N (.slice x.A x.args.length x.c) x.args from ((HOK.out _ h).2 x (List.mem_of_getElem? hx)).1))
          have hlm := (addE_ok (d.evs.take m) M).high
          have hna := nA_at d.evs m x hx
          have HQ := Lib.hid (addE_succ (L := M) hx)
          obtain ⟨Q, hQ⟩ : ∃ Q, addE M (d.evs.take m) = Q := ⟨_, rfl⟩
          rw [hQ] at hlm HQ HD5
          have HLQ := Lib.hid (show Q.length + x.args.length ≤ 1000000000 by have := HLE.out; have := HNK.out; omega)
          obtain ⟨xA, hxA⟩ : ∃ xA, x.A = xA := ⟨_, rfl⟩
          rw [hxA] at u1 HOX
          clear hx hokx e2 hxA hQ hlm hna
          go_wp2_with fail
          go_loopg [3, 7] x.args.length (fun gj v0 i wr3 => ∃ (j : Nat) (v : Value), j ≤ x.args.length ∧ v = v0 ∧ i = .int .i64 j ∧ Hid (x.args.length - j = gj) ∧ Hid (ORow wr3 N v (addA Q (x.args.take j))) ∧ Hid (Below N w wr3))
          case atStart => exact ⟨0, _, Nat.zero_le _, rfl, rfl, Lib.hid rfl, HD5, HB5⟩
          case round =>
            obtain ⟨j, v3, hj, rfl, rfl, HGJ, HD7, HB7⟩ := hrel
            clear u0 u1 x1
            by_cases hjl : j < x.args.length
            · obtain ⟨a, ha⟩ : ∃ a, x.args[j]? = some a := ⟨_, List.getElem?_eq_getElem hjl⟩
              obtain ⟨b3, o3, rfl, hb3, y0, y1, y2, hfit⟩ := (HOX.out _ HB7.out).at ha
              have HA := Lib.hid (addA_succ (L := Q) ha)
              have hz7 := HB7.out.size
              by_cases ht : a.t = 2
              · have hst : stepA (addA Q (x.args.take j)) a = (putD (addA Q (x.args.take j)) a.s).1 := if_pos ht
                have hp := rput13_any HD7.out.1 (by omega) HD7.out.2 a.s hfit.2.1 (by have := addA_le (L := Q) (l := x.args) j; have := HLQ.out; omega)
                have htx := putD_tx HD7.out.2 hfit.2.1 hfit.1
                rw [hst] at HA
                unfold RPut at hp
                rw [← HA.out] at hp htx
                have HP := Lib.hid hp
                have HTX := Lib.hid htx
                obtain ⟨at', hat⟩ : ∃ t, a.t = t := ⟨_, rfl⟩
                rw [hat] at y0 ht
                clear hp htx hst ha hfit hat
                subst ht
                go_wp2_with fail
                refine HP.out.mono ?_
                rintro e w5 ⟨v4, rfl, ho, _, hb⟩
                have HB8 := Lib.hid (HB7.out.trans (hb.mono (by omega)))
                have HO := Lib.hid ho
                clear ho hb
                go_wp2_with fail
                go_roundg (x.args.length - (j + 1))
                case measure => have := HGJ.out; omega
                case rel => exact ⟨j + 1, v4, by omega, rfl, by go_num, Lib.hid rfl, Lib.hid ⟨HO.out, HTX.out⟩, HB8⟩
              · have hst : stepA (addA Q (x.args.take j)) a = addA Q (x.args.take j) := if_neg ht
                rw [hst] at HA
                rw [← HA.out] at HD7
                have hne : (a.t == 2) = false := beq_eq_false_iff_ne.2 ht
                clear hst ha hfit ht
                go_wp2_with fail
                go_roundg (x.args.length - (j + 1))
                case measure => have := HGJ.out; omega
                case rel => exact ⟨j + 1, _, by omega, rfl, by go_num, Lib.hid rfl, HD7, HB7⟩
            · obtain rfl : j = x.args.length := by omega
              have HJ := HD7
              rw [List.take_length, ← HQ.out] at HJ
              go_wp2_with fail
              go_roundg (d.evs.length - (m + 1))
              case measure => have := HGM.out; omega
              case rel => exact ⟨m + 1, _, by omega, rfl, by go_num, Lib.hid rfl, HJ, HB7⟩
        · obtain rfl : m = d.evs.length := by omega
          have HJ := HD5
          rw [List.take_length, ← HS.out] at HJ
          go_wp2_with fail
          go_roundg (ps.length - (k + 1))
          case measure => have := HGK.out; omega
          case rel => exact ⟨k + 1, _, by omega, rfl, by go_num, Lib.hid rfl, HJ, HB5⟩
    · obtain rfl : k = ps.length := by omega
      have HJ := HD
      rw [List.take_length] at HJ
      go_wp2_with fail
      go_ret
      exact ⟨_, rfl, HJ.out, HB.out⟩
end Go.Proofs.YtohibmjjhifggaaGreat

namespace Go.Proofs.YtohibmjjhifggaaGreat
open Go.RowKit
theorem st_even {m : Nat} (h : m % 2 = 0) : st m = m / 2 := by unfold st; rw [if_neg (by omega), Nat.xor_zero]
theorem st_odd {m : Nat} (h : m % 2 = 1) : st m = m / 2 ^^^ 3988292384 := by unfold st; rw [if_pos h]; rfl
theorem it_next (k m : Nat) : it (k + 1) m = it k (st m) := rfl
set_option maxRecDepth 100000 in
set_option maxHeartbeats 1000000 in
theorem shifted_any (n : Nat) (hn : n < 4294967296) (w : World) :
    Calls Tryz.prog 114 #[.int .u32 n] w fun e w' => e = .returned (.int .u32 (it 8 n : Nat)) ∧ w = w' := by
  go_enter Tryz.func114, Tryz.ntmps114
  go_wp2
  go_loop [0, 4] (fun s i => ∃ k m : Nat, k ≤ 8 ∧ m < 4294967296 ∧ i = .int .i64 k ∧ s = .int .u32 m ∧ Hid (it (8 - k) m = it 8 n)) (fun _ i => 8 - (intOf i).toNat)
  case atStart => exact ⟨0, n, by omega, hn, rfl, rfl, Lib.hid rfl⟩
  case round =>
    obtain ⟨k, m, hk, hm, rfl, rfl, HI⟩ := hrel
    by_cases hlt : k < 8
    · have hnx : it (8 - (k + 1)) (st m) = it 8 n := by rw [← HI.out, ← it_next]; congr 1; omega
      have hsl := st_lt hm
      have hand := u32_and_nat m 1 hm (by omega)
      rw [nat_mask1] at hand
      rcases Nat.mod_two_eq_zero_or_one m with ho | ho
      · rw [ho] at hand
        rw [st_even ho] at hnx hsl
        have HN := Lib.hid hnx; clear hnx
        clear ho
        simp only [Int.natCast_one] at hand
        go_wp2_with fail
        go_round
        case rel => exact ⟨k + 1, m / 2, by omega, hsl, by go_num, by go_num, HN⟩
        case measure => simp [intOf]; omega
      · rw [ho] at hand
        rw [st_odd ho] at hnx hsl
        have hxor : bits .xor .u32 ((m : Int) / 2) 3988292384 = ((m / 2 ^^^ 3988292384 : Nat) : Int) := u32_xor_nat (m / 2) 3988292384 (by omega) (by omega)
        have HN := Lib.hid hnx; clear hnx
        clear ho
        simp only [Int.natCast_one] at hand
        go_wp2_with fail
        go_round
        case rel => exact ⟨k + 1, m / 2 ^^^ 3988292384, by omega, hsl, by go_num, by go_num, HN⟩
        case measure => simp [intOf]; omega
    · obtain rfl : k = 8 := by omega
      have he : m = it 8 n := HI.out
      have HE := Lib.hid he; clear he
      go_wp2_with fail
      go_ret
      exact ⟨by rw [HE.out]; rfl, rfl⟩
/-- Where the document's loop over bits stands. -/
def XInv (a b k x y o u : Nat) : Prop := x = a / 2 ^ k ∧ y = b / 2 ^ k ∧ o = (a ^^^ b) % 2 ^ k ∧ u = 2 ^ k % 4294967296
theorem XInv.start (a b : Nat) : XInv a b 0 a b 0 1 := ⟨by simp, by simp, by simp [Nat.mod_one], rfl⟩
theorem XInv.done {a b x y o u : Nat} (ha : a < 4294967296) (hb : b < 4294967296) (h : XInv a b 32 x y o u) : o = a ^^^ b := by
  obtain ⟨_, _, h3, _⟩ := h
  rw [h3]
  exact Nat.mod_eq_of_lt (Nat.xor_lt_two_pow (n := 32) ha hb)
theorem XInv.step {a b k x y o u : Nat} (ha : a < 4294967296) (hb : b < 4294967296) (hk : k < 32) (h : XInv a b k x y o u) :
    x < 4294967296 ∧ y < 4294967296 ∧ o + u < 4294967296 ∧ u ≤ 2147483648 ∧ (x % 2 = y % 2 → XInv a b (k + 1) (x / 2) (y / 2) o (2 * u % 4294967296)) ∧ (x % 2 ≠ y % 2 → XInv a b (k + 1) (x / 2) (y / 2) (o + u) (2 * u % 4294967296)) := by
  obtain ⟨h1, h2, h3, h4⟩ := h
  have hp : 2 ^ k ≤ 2147483648 := Nat.pow_le_pow_right (n := 2) (by omega) (show k ≤ 31 by omega)
  have hu : u = 2 ^ k := by rw [h4]; exact Nat.mod_eq_of_lt (by omega)
  have hx : x ≤ a := by rw [h1]; exact Nat.div_le_self _ _
  have hy : y ≤ b := by rw [h2]; exact Nat.div_le_self _ _
  have ho : o < 2 ^ k := by rw [h3]; exact Nat.mod_lt _ (Nat.two_pow_pos k)
  have e1 : x / 2 = a / 2 ^ (k + 1) := by rw [h1, Nat.pow_succ, Nat.div_div_eq_div_mul]
  have e2 : y / 2 = b / 2 ^ (k + 1) := by rw [h2, Nat.pow_succ, Nat.div_div_eq_div_mul]
  have e3 : (a ^^^ b) % 2 ^ (k + 1) = o + 2 ^ k * ((x + y) % 2) := by
    rw [Nat.pow_succ, Nat.mod_mul, ← h3, Nat.xor_div_two_pow, ← h1, ← h2, odd_xor, ← Nat.add_mod]
  have e4 : 2 * u % 4294967296 = 2 ^ (k + 1) % 4294967296 := by rw [hu, Nat.pow_succ, Nat.mul_comm]
  refine ⟨by omega, by omega, by omega, by omega, fun he => ⟨e1, e2, ?_, e4⟩, fun he => ⟨e1, e2, ?_, e4⟩⟩
  · rw [e3, show (x + y) % 2 = 0 by omega]; simp
  · rw [e3, show (x + y) % 2 = 1 by omega, hu]; simp
set_option maxRecDepth 100000 in
set_option maxHeartbeats 1000000 in
theorem rxor_any (a b : Nat) (ha : a < 4294967296) (hb : b < 4294967296) (w : World) :
    Calls Tryz.prog 77 #[.int .u32 a, .int .u32 b] w fun e w' => e = .returned (.int .u32 (a ^^^ b : Nat)) ∧ w = w' := by
  go_enter Tryz.func77, Tryz.ntmps77
  go_wp2
  go_loop [0, 1, 5, 6, 7] (fun s0 s1 s5 s6 s7 => ∃ k x y o u : Nat, k ≤ 32 ∧ s7 = .int .i64 k ∧ s0 = .int .u32 x ∧ s1 = .int .u32 y ∧ s5 = .int .u32 o ∧ s6 = .int .u32 u ∧ Hid (XInv a b k x y o u)) (fun _ _ _ _ i => 32 - (intOf i).toNat)
  case atStart => exact ⟨0, a, b, 0, 1, by omega, rfl, rfl, rfl, rfl, rfl, Lib.hid (XInv.start a b)⟩
  case round =>
    obtain ⟨k, x, y, o, u, hk, rfl, rfl, rfl, rfl, rfl, HI⟩ := hrel
    by_cases hlt : k < 32
    · obtain ⟨q1, q2, q3, q4, q5, q6⟩ := HI.out.step ha hb hlt
      have t1 : (x : Int).tmod 2 = (x : Int) % 2 := by rw [Int.tmod_eq_emod_of_nonneg (by omega)]
      have t2 : (y : Int).tmod 2 = (y : Int) % 2 := by rw [Int.tmod_eq_emod_of_nonneg (by omega)]
      have t3 : IntKind.u32.wrap (2 * (u : Int)) = ((2 * u % 4294967296 : Nat) : Int) := by rw [IntKind.wrap_u32]; omega
      have t4 : IntKind.u32.wrap ((o : Int) + (u : Int)) = ((o + u : Nat) : Int) := by rw [IntKind.wrap_u32]; omega
      by_cases he : x % 2 = y % 2
      · have HN := Lib.hid (q5 he)
        have ht : ((x : Int) % 2 != (y : Int) % 2) = false := by simp; omega
        clear q5 q6 he
        go_wp2_with fail
        go_round
        case rel => exact ⟨k + 1, x / 2, y / 2, o, 2 * u % 4294967296, by omega, by go_num, by go_num, by go_num, rfl, rfl, HN⟩
        case measure => simp [intOf]; omega
      · have HN := Lib.hid (q6 he)
        have ht : ((x : Int) % 2 != (y : Int) % 2) = true := by simp; omega
        clear q5 q6 he
        go_wp2_with fail
        go_round
        case rel => exact ⟨k + 1, x / 2, y / 2, o + u, 2 * u % 4294967296, by omega, by go_num, by go_num, by go_num, rfl, rfl, HN⟩
        case measure => simp [intOf]; omega
    · obtain rfl : k = 32 := by omega
      have he := HI.out.done ha hb
      have HE := Lib.hid he; clear he
      go_wp2_with fail
      go_ret
      exact ⟨by rw [← HE.out]; rfl, rfl⟩
set_option maxRecDepth 100000 in
set_option maxHeartbeats 1000000 in
/-- The document's eight shifts. -/
theorem rshift_any (n : Nat) (hn : n < 4294967296) (w : World) :
    Calls Tryz.prog 76 #[.int .u32 n] w fun e w' => e = .returned (.int .u32 (it 8 n : Nat)) ∧ w = w' := by
  go_enter Tryz.func76, Tryz.ntmps76
  go_wp2
  go_loop [0, 3] (fun s i => ∃ k m : Nat, k ≤ 8 ∧ m < 4294967296 ∧ i = .int .i64 k ∧ s = .int .u32 m ∧ Hid (it (8 - k) m = it 8 n)) (fun _ i => 8 - (intOf i).toNat)
  case atStart => exact ⟨0, n, by omega, hn, rfl, rfl, Lib.hid rfl⟩
  case round =>
    obtain ⟨k, m, hk, hm, rfl, rfl, HI⟩ := hrel
    by_cases hlt : k < 8
    · have hnx : it (8 - (k + 1)) (st m) = it 8 n := by rw [← HI.out, ← it_next]; congr 1; omega
      have hsl := st_lt hm
      have t1 : (m : Int).tmod 2 = (m : Int) % 2 := by rw [Int.tmod_eq_emod_of_nonneg (by omega)]
      rcases Nat.mod_two_eq_zero_or_one m with ho | ho
      · rw [st_even ho] at hnx hsl
        have HN := Lib.hid hnx; clear hnx
        have hb : ((m : Int) % 2 == 1) = false := beq_eq_false_iff_ne.2 (by omega)
        have HO := Lib.hid ho; clear ho
        go_wp2_with fail
        go_round
        case rel => exact ⟨k + 1, m / 2, by omega, hsl, by go_num, by go_num, HN⟩
        case measure => simp [intOf]; omega
      · rw [st_odd ho] at hnx hsl
        have hx := rxor_any (m / 2) 3988292384 (by omega) (by omega)
        rw [show ((m / 2 : Nat) : Int) = (m : Int) / 2 by omega] at hx
        have HX := Lib.hid hx; clear hx
        have HN := Lib.hid hnx; clear hnx
        have hb : ((m : Int) % 2 == 1) = true := beq_iff_eq.2 (by omega)
        have HO := Lib.hid ho; clear ho
        go_wp2_with fail
        refine (HX.out _).mono ?_
        rintro e w1 ⟨rfl, rfl⟩
        go_wp2_with fail
        go_round
        case rel => exact ⟨k + 1, m / 2 ^^^ 3988292384, by omega, hsl, by go_num, by go_num, HN⟩
        case measure => simp [intOf]; omega
    · obtain rfl : k = 8 := by omega
      have he : m = it 8 n := HI.out
      have HE := Lib.hid he; clear he
      go_wp2_with fail
      go_ret
      exact ⟨by rw [HE.out]; rfl, rfl⟩
end Go.Proofs.YtohibmjjhifggaaGreat
namespace Go.Proofs.YtohibmjjhifggaaGreat
open Go.RowKit
/-- Bytes as natural numbers. -/
def toN (xs : List Int) : List Nat := xs.map Int.toNat
theorem toN_append (xs ys : List Int) : toN (xs ++ ys) = toN xs ++ toN ys := List.map_append
theorem toN_byte {xs : List Int} (hb : ∀ x ∈ xs, 0 ≤ x ∧ x < 256) : ∀ x ∈ toN xs, x < 256 := by
  intro x hx
  obtain ⟨y, hy, rfl⟩ := List.mem_map.1 hx
  have := hb y hy
  omega
theorem state_next (n : Nat) (xs : List Int) {k : Nat} (hk : k < xs.length) : stateI n (toN (xs.take (k + 1))) = it 8 (stateI n (toN (xs.take k)) ^^^ (xs.getD k 0).toNat) := by
  have h : xs.take (k + 1) = xs.take k ++ [xs.getD k 0] := by rw [List.take_succ_eq_append_getElem hk]; simp [List.getD, List.getElem?_eq_getElem hk]
  rw [h, toN_append, state_append]
  rfl
theorem compl_xor {n : Nat} (hn : n < 4294967296) : 4294967295 - n = 4294967295 ^^^ n := by
  have h := congrArg BitVec.toNat (BitVec.allOnes_xor (x := BitVec.ofNat 32 n))
  rw [BitVec.toNat_xor, BitVec.toNat_not, BitVec.toNat_ofNat, BitVec.toNat_allOnes, Nat.mod_eq_of_lt (by omega)] at h
  exact h.symm
theorem max_xor (n : Nat) (hn : n < 4294967296) : bits .xor .u32 IntKind.u32.max (n : Int) = ((4294967295 ^^^ n : Nat) : Int) := u32_xor_nat 4294967295 n (by omega) hn
/-- The sum of bytes. -/
def sumX (xs : List Int) : Nat := sumI (toN xs)
set_option maxRecDepth 100000 in
set_option maxHeartbeats 1000000 in
theorem more_any (n : Nat) (hn : n < 4294967296) (A : Option Addr) (c : Nat) (xs : List Int) (w : World) (hrow : Row w w.heap.size (.slice A xs.length c) xs) (hb : ∀ x ∈ xs, 0 ≤ x ∧ x < 256) :
    Calls Tryz.prog 113 #[.int .u32 n, .slice A xs.length c] w fun e w' => e = .returned (.int .u32 (4294967295 ^^^ stateI (4294967295 ^^^ n) (toN xs) : Nat)) ∧ w = w' := by
  obtain ⟨A', c', hv, hlc, hcm, _, hcells⟩ := hrow
  injection hv with h1 h2 h3
  subst h1 h3
  unfold maxLen at hcm
  have hsz : xs.length ≤ 9223372036854775807 := by omega
  have HC := Lib.hid hcells; clear hcells
  have HB := Lib.hid hb; clear hb
  have hst : (4294967295 ^^^ n) < 4294967296 := Nat.xor_lt_two_pow (n := 32) (by omega) hn
  have hm0 := max_xor n hn
  generalize 4294967295 ^^^ n = n0 at hst hm0 ⊢
  go_enter Tryz.func113, Tryz.ntmps113
  go_wp2
  go_loop [5, 12] (fun s i => ∃ k m : Nat, k ≤ xs.length ∧ m < 4294967296 ∧ i = .int .i64 k ∧ s = .int .u32 m ∧ Hid (m = stateI n0 (toN (xs.take k)))) (fun _ i => xs.length - (intOf i).toNat)
  case atStart => exact ⟨0, n0, Nat.zero_le _, hst, rfl, rfl, Lib.hid rfl⟩
  case round =>
    obtain ⟨k, m, hk, hm, rfl, rfl, HI⟩ := hrel
    by_cases hlt : k < xs.length
    · obtain ⟨b, o, rfl, _, hc⟩ := HC.out (by omega)
      have hck := hc k (by omega)
      clear hc
      have hin : xs.getD k 0 ∈ xs := by rw [List.getD, List.getElem?_eq_getElem (by omega)]; simp
      obtain ⟨y0, y1⟩ := HB.out _ hin
      clear hin
      have hnx := state_next n0 xs hlt
      rw [← HI.out] at hnx
      obtain ⟨y, hy⟩ := Int.eq_ofNat_of_zero_le y0
      rw [hy] at hck hnx y1
      rw [Int.toNat_natCast] at hnx
      clear hy y0
      have hxor := u32_xor_nat m y hm (by omega)
      have hms : m ^^^ y < 4294967296 := Nat.xor_lt_two_pow (n := 32) hm (by omega)
      generalize m ^^^ y = z at hnx hxor hms
      have HN := Lib.hid hnx; clear hnx HI
      have hz := it_lt 8 hms
      go_wp2_with fail
      refine (shifted_any z hms _).mono ?_
      rintro e w1 ⟨rfl, rfl⟩
      go_wp2_with fail
      go_round
      case rel => exact ⟨k + 1, it 8 z, by omega, hz, by go_num, rfl, Lib.hid HN.out.symm⟩
      case measure => simp [intOf]; omega
    · obtain rfl : k = xs.length := by omega
      have he : m = stateI n0 (toN xs) := by rw [HI.out, List.take_length]
      have hmx := max_xor m hm
      have HE := Lib.hid he
      clear he HI hm hm0
      go_wp2_with fail
      go_ret
      exact ⟨by rw [← HE.out]; rfl, rfl⟩
/-- The slice of slices v reads as the parts xss. -/
def Parts (w : World) (B : Nat) (v : Value) (xss : List (List Int)) : Prop :=
  ∃ us, VRow w B v us ∧ us.length = xss.length ∧ ∀ (i : Nat) (u : Value) (xs : List Int), us[i]? = some u → xss[i]? = some xs → Row w B u xs
theorem Parts.one {w : World} {B g : Nat} {u : Value} {xs : List Int} (hg : g < B) (hc : w.cell? ⟨g, 0, none⟩ = some u) (h : Row w B u xs) : Parts w B (.slice (some ⟨g, 0, none⟩) 1 1) [xs] :=
  ⟨[u], ⟨_, 1, rfl, Nat.le_refl _, by simp [maxLen], by simp, fun _ => ⟨g, 0, rfl, hg, fun i u' hi => by
    match i with
    | 0 => simp at hi; subst hi; exact hc
    | i + 1 => simp at hi⟩⟩, rfl, fun i u' ys h1 h2 => by
    match i with
    | 0 => simp at h1 h2; subst h1 h2; exact h
    | i + 1 => simp at h1⟩
theorem sumX_more (xs ys : List Int) : sumX (xs ++ ys) = 4294967295 ^^^ stateI (4294967295 ^^^ sumX xs) (toN ys) := by
  unfold sumX
  rw [toN_append, sum_more]
theorem sumX_lt {xs : List Int} (hb : ∀ x ∈ xs, 0 ≤ x ∧ x < 256) : sumX xs < 4294967296 := sum_lt (toN_byte hb)
theorem sumX_nil : sumX [] = 0 := by decide
set_option maxRecDepth 100000 in
set_option maxHeartbeats 1000000 in
theorem sum_any (v : Value) (xss : List (List Int)) (w : World) (h : Parts w w.heap.size v xss) (hb : ∀ xs ∈ xss, ∀ x ∈ xs, 0 ≤ x ∧ x < 256) :
    Calls Tryz.prog 109 #[v] w fun e w' => e = .returned (.int .u32 (sumX xss.flatten : Nat)) ∧ w = w' := by
  obtain ⟨us, ⟨A, c, rfl, hlc, hcm, _, hcells⟩, hul, hrow⟩ := h
  unfold maxLen at hcm
  have hsz : us.length ≤ 9223372036854775807 := by omega
  have HC := Lib.hid hcells; clear hcells
  have HB := Lib.hid hb; clear hb
  have HR := Lib.hid hrow; clear hrow
  have HU := Lib.hid hul; clear hul
  go_enter Tryz.func109, Tryz.ntmps109
  go_wp2
  go_loop [3, 8] (fun s i => ∃ k m : Nat, k ≤ us.length ∧ m < 4294967296 ∧ i = .int .i64 k ∧ s = .int .u32 m ∧ Hid (m = sumX (xss.take k).flatten)) (fun _ i => us.length - (intOf i).toNat)
  case atStart => exact ⟨0, 0, Nat.zero_le _, by omega, rfl, rfl, Lib.hid (by simp [sumX_nil])⟩
  case round =>
    obtain ⟨k, m, hk, hm, rfl, rfl, HI⟩ := hrel
    by_cases hlt : k < us.length
    · obtain ⟨b, o, rfl, _, hc⟩ := HC.out (by omega)
      have hue : us[k]? = some us[k] := List.getElem?_eq_getElem hlt
      have hck := hc k _ hue
      clear hc
      have hlx : k < xss.length := by rw [← HU.out]; exact hlt
      have hxe : xss[k]? = some xss[k] := List.getElem?_eq_getElem hlx
      have hr := HR.out k _ _ hue hxe
      have hbx := HB.out xss[k] (List.getElem_mem hlx)
      have hnx : sumX (xss.take (k + 1)).flatten = 4294967295 ^^^ stateI (4294967295 ^^^ m) (toN xss[k]) := by
        rw [List.take_succ_eq_append_getElem hlx, List.flatten_append, HI.out, ← sumX_more]
        simp
      clear hue hxe
      generalize us[k] = u at *
      generalize xss[k] = xs at *
      obtain ⟨A2, c2, rfl, _⟩ := id hr
      have HM := Lib.hid (more_any m hm A2 c2 xs w hr hbx)
      have hlt2 : sumX (xss.take (k + 1)).flatten < 4294967296 := sumX_lt (fun x hx => by
        obtain ⟨ys, hys, hx⟩ := List.mem_flatten.1 hx
        exact HB.out ys (List.mem_of_mem_take hys) x hx)
      rw [← hnx] at HM
      clear hnx HI hr hbx
      obtain ⟨m2, HS⟩ : ∃ m2, Hid (m2 = sumX (xss.take (k + 1)).flatten) := ⟨_, Lib.hid rfl⟩
      rw [← HS.out] at HM hlt2
      go_wp2_with fail
      refine HM.out.mono ?_
      rintro e w1 ⟨rfl, rfl⟩
      go_wp2_with fail
      go_round
      case rel => exact ⟨k + 1, m2, by omega, hlt2, by go_num, rfl, Lib.hid HS.out⟩
      case measure => simp [intOf]; omega
    · obtain rfl : k = us.length := by omega
      have he : m = sumX xss.flatten := by rw [HI.out, HU.out, List.take_length]
      have HE := Lib.hid he
      clear he HI
      go_wp2_with fail
      go_ret
      exact ⟨by rw [← HE.out]; rfl, rfl⟩
end Go.Proofs.YtohibmjjhifggaaGreat
namespace Go.Proofs.YtohibmjjhifggaaGreat
open Go.RowKit
/-- A sum's four bytes, the lowest first. -/
def le4 (n : Nat) : List Int := [(n : Int) % 256, (n : Int) / 256 % 256, (n : Int) / 65536 % 256, (n : Int) / 16777216]
theorem le4_length (n : Nat) : (le4 n).length = 4 := rfl
/-- The same as an array's value. -/
def le4V (n : Nat) : Value := .agg #[.int .u8 ((n : Int) % 256), .int .u8 ((n : Int) / 256 % 256), .int .u8 ((n : Int) / 65536 % 256), .int .u8 ((n : Int) / 16777216)]
set_option maxRecDepth 100000 in
set_option maxHeartbeats 1000000 in
theorem four_any (n : Nat) (hn : n < 4294967296) (w : World) :
    Calls Tryz.prog 108 #[.int .u32 n] w fun e w' => e = .returned (le4V n) ∧ Below w.heap.size w w' := by
  go_enter Tryz.func108, Tryz.ntmps108
  go_wp2
  exact bodyPost_ret (v := le4V n) (by simp [results, Tryz.results108, go_sem, le4V]) rfl ⟨rfl, (Below.refl _ _).alloc (Nat.le_refl _) _⟩
/-- string([]byte{..}), of a slice of four cells, wherever that lies. -/
theorem conv_four (W : World) (b : Nat) (x0 x1 x2 x3 : Int) (h0 : W.cell? ⟨b, 0, none⟩ = some (.int .u8 x0)) (h1 : W.cell? ⟨b, 1, none⟩ = some (.int .u8 x1)) (h2 : W.cell? ⟨b, 2, none⟩ = some (.int .u8 x2)) (h3 : W.cell? ⟨b, 3, none⟩ = some (.int .u8 x3)) :
    (convert 38 9 (.slice (some ⟨b, 0, none⟩) 4 4)).run Tryz.prog W = .ok (.string (strOfNums [x0, x1, x2, x3])) W := by
  refine run_convert_bytes_arg (P := Tryz.prog) W 38 5 Tryz.underlying38 Tryz.underlying5 b 0 4 4 [x0, x1, x2, x3] rfl ?_ 9 Tryz.underlying9
  intro i hi
  rcases (by omega : i = 0 ∨ i = 1 ∨ i = 2 ∨ i = 3) with rfl | rfl | rfl | rfl
  · simpa using h0
  · simpa using h1
  · simpa using h2
  · simpa using h3
set_option maxRecDepth 100000 in
set_option maxHeartbeats 1000000 in
theorem rfour_any (n : Nat) (hn : n < 4294967296) (w : World) :
    Calls Tryz.prog 54 #[.int .u32 n] w fun e w' => e = .returned (.string (strOfNums (le4 n))) ∧ Below w.heap.size w w' := by
  have hcv := fun W b => conv_four W b ((n : Int) % 256) ((n : Int) / 256 % 256) ((n : Int) / 65536 % 256) ((n : Int) / 16777216)
  go_enter Tryz.func54, Tryz.ntmps54
  go_wp2
  go_ret
  exact ⟨rfl, (Below.refl _ _).alloc (Nat.le_refl _) _⟩
set_option maxRecDepth 100000 in
set_option maxHeartbeats 1000000 in
theorem rsum_any (xs : List Int) (hb : ∀ x ∈ xs, 0 ≤ x ∧ x < 256) (hl : xs.length ≤ 9223372036854775807) (w : World) :
    Calls Tryz.prog 55 #[.string (strOfNums xs)] w fun e w' => e = .returned (.int .u32 (sumX xs : Nat)) ∧ w = w' := by
  have hsz := strOfNums_size xs
  have HB := Lib.hid hb; clear hb
  have hlt2 : ∀ k, stateI 4294967295 (toN (xs.take k)) < 4294967296 := fun k => state_lt _ (by omega) (toN_byte (fun x hx => HB.out x (List.mem_of_mem_take hx)))
  have HL := Lib.hid hlt2; clear hlt2
  go_enter Tryz.func55, Tryz.ntmps55
  go_wp2
  go_loop [3, 4] (fun s i => ∃ k m : Nat, k ≤ xs.length ∧ m < 4294967296 ∧ i = .int .i64 k ∧ s = .int .u32 m ∧ Hid (m = stateI 4294967295 (toN (xs.take k)))) (fun _ i => xs.length - (intOf i).toNat)
  case atStart => exact ⟨0, 4294967295, Nat.zero_le _, by omega, rfl, rfl, Lib.hid rfl⟩
  case round =>
    obtain ⟨k, m, hk, hm, rfl, rfl, HI⟩ := hrel
    by_cases hlt : k < xs.length
    · have hin : xs.getD k 0 ∈ xs := by rw [List.getD, List.getElem?_eq_getElem (by omega)]; simp
      obtain ⟨y0, y1⟩ := HB.out _ hin
      clear hin
      have hat := str_at xs HB.out k hlt (by omega)
      have hnx := state_next 4294967295 xs hlt
      rw [← HI.out] at hnx
      obtain ⟨y, hy⟩ := Int.eq_ofNat_of_zero_le y0
      rw [hy] at hat hnx y1
      rw [Int.toNat_natCast] at hnx
      clear hy y0
      have hms : m ^^^ y < 4294967296 := Nat.xor_lt_two_pow (n := 32) hm (by omega)
      have HX := Lib.hid (rxor_any m y hm (by omega))
      generalize m ^^^ y = z at hnx HX hms
      have HN := Lib.hid hnx; clear hnx HI
      have hz := it_lt 8 hms
      go_wp2_with fail
      refine (HX.out _).mono ?_
      rintro e w1 ⟨rfl, rfl⟩
      go_wp2_with fail
      refine (rshift_any z hms _).mono ?_
      rintro e w2 ⟨rfl, rfl⟩
      go_wp2_with fail
      go_round
      case rel => exact ⟨k + 1, it 8 z, by omega, hz, by go_num, rfl, Lib.hid HN.out.symm⟩
      case measure => simp [intOf]; omega
    · obtain rfl : k = xs.length := by omega
      have he : 4294967295 - m = sumX xs := by rw [compl_xor hm, HI.out, List.take_length]; rfl
      have hw : IntKind.u32.wrap (4294967295 - (m : Int)) = ((sumX xs : Nat) : Int) := by rw [IntKind.wrap_u32, ← he]; omega
      clear HI he
      go_wp2_with fail
      go_ret
      exact ⟨rfl, rfl⟩
end Go.Proofs.YtohibmjjhifggaaGreat

namespace Go.Proofs.YtohibmjjhifggaaGreat
/-- What a frame begins with. -/
def markL : List Int := [199, 84, 71, 1]
/-- A frame from its kind on, without its sum. -/
def bodyL (k : Int) (p : List Int) : List Int := k :: encT p
/-- A frame's bytes. -/
def encFr (k : Int) (p : List Int) : List Int := markL ++ (bodyL k p ++ le4 (sumX (bodyL k p)))
theorem encFr_length (k : Int) (p : List Int) : (encFr k p).length = 9 + (encI p.length).length + p.length := by
  simp only [encFr, markL, bodyL, encT, le4, List.length_append, List.length_cons, List.length_nil]
  omega
end Go.Proofs.YtohibmjjhifggaaGreat

namespace Go.Proofs.YtohibmjjhifggaaGreat
/-- What sigbin's Frame answers. -/
def frameS (l : List Pr) : List Int × Int := if checkP l = 0 then (encFr 1 (encS l), 0) else ([], checkP l)
/-- What block's Frame answers. -/
def frameB (sig : List Pr) (l : List Pm) : List Int × Int := if (putB sig l).2 = 0 then (encFr 2 (putB sig l).1, 0) else ([], (putB sig l).2)
end Go.Proofs.YtohibmjjhifggaaGreat
namespace Go.Proofs.YtohibmjjhifggaaGreat
/-- A block's bytes. -/
def frB (sig : List Pr) (b : List Pm) : List Int := (frameB sig b).1
/-- The frames' bytes, the signature's first. -/
def partsW (sig : List Pr) (l : List Pm) (most : Int) : List (List Int) := (frameS sig).1 :: (cutsC sig l most).map (frB sig)
def partsR (sig : List Pr) (l : List Pm) (most : Int) : List (List Int) × Int := if whyC sig l most = 0 then (partsW sig l most, 0) else ([], whyC sig l most)
/-- All bytes, and those that are sure. -/
def bytesW (sig : List Pr) (l : List Pm) (most : Int) : List Int := (partsW sig l most).flatten
def sureW (sig : List Pr) (l : List Pm) (most : Int) : List Int := ((partsW sig l most).take (max ((partsW sig l most).length - 1) 1)).flatten
section
variable {sig : List Pr} {l : List Pm} {q : Pm} {most : Int} {L : List (List Pm)} {b : List Pm}
theorem sureW_nil (sig : List Pr) (most : Int) : sureW sig [] most = (frameS sig).1 ∧ bytesW sig [] most = (frameS sig).1 := by
  unfold sureW bytesW partsW
  rw [cutsC_nil]
  simp
theorem sureW_last (h : cutsC sig l most = L ++ [b]) : sureW sig l most = (frameS sig).1 ++ (L.map (frB sig)).flatten ∧ bytesW sig l most = sureW sig l most ++ frB sig b := by
  have h1 : sureW sig l most = (frameS sig).1 ++ (L.map (frB sig)).flatten := by
    unfold sureW partsW
    rw [h, List.map_append, List.length_cons, List.length_append, List.length_map, List.map_cons, List.length_cons, List.map_nil, List.length_nil,
      show max (L.length + (0 + 1) + 1 - 1) 1 = L.length + 1 by omega, List.take_succ_cons, List.flatten_cons]
    rw [List.take_append_of_le_length (by simp), List.take_of_length_le (by simp)]
  refine ⟨h1, ?_⟩
  rw [h1]
  unfold bytesW partsW
  rw [h]
  simp
theorem frB_length (sig : List Pr) (b : List Pm) : (frB sig b).length ≤ 4200 := by
  unfold frB frameB
  by_cases h : (putB sig b).2 = 0
  · rw [if_pos h, encFr_length]
    obtain ⟨_, h2, h3⟩ := putB_ok h
    rw [h3]
    have := (encI_ten (n := (payB b).length) (by omega)).2
    dsimp only
    omega
  · rw [if_neg h]; simp
theorem frameS_length (sig : List Pr) : (frameS sig).1.length ≤ 4200 := by
  unfold frameS
  by_cases h : checkP sig = 0
  · rw [if_pos h, encFr_length]
    have h2 := (encS_le h).2
    have := (encI_ten (n := (encS sig).length) (by omega)).2
    omega
  · rw [if_neg h]; simp
end
end Go.Proofs.YtohibmjjhifggaaGreat
