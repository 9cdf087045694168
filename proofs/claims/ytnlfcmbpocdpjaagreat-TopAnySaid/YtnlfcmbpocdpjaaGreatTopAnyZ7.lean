/-
  What the theorem of TopAny rests on, part 7 of 16.
-/
import Derived.WalkKit
import Derived.LoopTactic
import Derived.Deep.LoopGhost
import Derived.Deep.RegionHeld3
import Derived.Lib.Hide
import Derived.Lib.MinMax
import Derived.Test.YtnlfcmbpocdpjaaGreatRows
import Derived.WalkSpells
import Derived.WalkLawsBesides
import Derived.Outline
import Derived.Laws.BitsAllLaws
import Derived.Lib.SliceRun
import Derived.Maps.AppendAt
import Derived.Shelf.RegionOpen
import Derived.RegionIn
import Derived.Test.YtnlfcmbpocdpjaaGreatTopAnyZ6
set_option maxRecDepth 100000
set_option maxHeartbeats 16000000
namespace Go.Proofs.YtnlfcmbpocdpjaaGreat
open Lib (hid)
open Go.RowKit Go.ChangeShapes Go.WideShapes
set_option linter.unusedVariables false
section
variable (A : Option Addr) (c : Nat) (ds : List Pd) (T : Option Addr) (ct : Nat) (ps : List Pm) (w : World)
theorem cfit_any (hrow : PredRow w w.heap.size (.slice A ds.length c) ds) (ht : TrRow w w.heap.size (.slice T ps.length ct) ps) :
  Calls Tryz.prog 180 #[.slice A ds.length c, .slice T ps.length ct] w fun e w' => e = .returned (.bool (fitB (ds.map (·.p)) ps)) ∧ Below w.heap.size w w' := by
 have HP := hid (blput_any A c ds T ct ps w hrow ht)
 unfold fitB
 generalize putB (ds.map (·.p)) ps = R at HP ⊢
 clear hrow ht
 by_cases h0 : R.2 = 0
 ·rw [h0, decide_eq_true rfl]
  go_enter Tryz.func180, Tryz.ntmps180
  go_wp2_with fail
  refine HP.out.mono ?_
  rintro e w1 ⟨A1, c1, rfl, hown, hb1⟩
  rw [h0]
  clear hown
  go_wp2_with fail
  go_ret
  exact ⟨rfl, hb1⟩
 ·have hne : (R.2 == 0) = false := beq_eq_false_iff_ne.2 h0
  rw [decide_eq_false h0]
  go_enter Tryz.func180, Tryz.ntmps180
  go_wp2_with fail
  refine HP.out.mono ?_
  rintro e w1 ⟨A1, c1, rfl, hown, hb1⟩
  clear hown
  go_wp2_with fail
  go_ret
  exact ⟨rfl, hb1⟩
theorem chold_any (sb tb k : Nat) (hs : Held w sb 24 #[.slice A ds.length c]) (hb : Held w tb 25 #[.slice T ps.length ct]) (hrow : PredRow w w.heap.size (.slice A ds.length c) ds) (ht : TrRow w w.heap.size (.slice T ps.length ct) ps) (hk : k ≤ ps.length) :
  Calls Tryz.prog 179 #[.int .i64 k, .pointer (some ⟨sb, 0, none⟩), .pointer (some ⟨tb, 0, none⟩)] w fun e w' => e = .returned (.bool (fitB (ds.map (·.p)) (ps.take k))) ∧ Below w.heap.size w w' := by
 obtain ⟨-, hc1, hc2⟩ := ht.1.len
 have hkl : (ps.take k).length = k := by rw [List.length_take]; omega
 have HF := hid (fun W (h : Below w.heap.size w W) => cfit_any A c ds T ct (ps.take k) W ((hrow.below h).more h.size) ((ht.take hk |>.below h).more h.size))
 rw [hkl] at HF
 have HS := hid (fun W (h : Below w.heap.size w W) => (hs.below h hs.lt).cell 0)
 have HT := hid (fun W (h : Below w.heap.size w W) => (hb.below h hb.lt).cell 0)
 simp at HS HT
 generalize fitB (ds.map (·.p)) (ps.take k) = R at HF ⊢
 clear hrow ht hs hb hkl
 go_enter Tryz.func179, Tryz.ntmps179
 go_wp2_with fail
 go_region_held (fun W => W.cell? ⟨sb, 0, none⟩ = some (.slice A ds.length c) ∧ W.cell? ⟨tb, 0, none⟩ = some (.slice T ps.length ct))
  (first | exact ⟨HS.out _ (Below.refl _ _), HT.out _ (Below.refl _ _)⟩ | exact ⟨HS.out _ (Below.refl _ _).drew, HT.out _ (Below.refl _ _).drew⟩ | exact ⟨HS.out _ b2, HT.out _ b2⟩)
  (first | (go_at_call 180; (with_reducible refine (HF.out _ (Below.refl _ _).drew).mono ?_); rintro e w2 ⟨rfl, hb2⟩; have b2 : Below w.heap.size w w2 := (Below.refl w.heap.size w).drew.trans hb2))
 go_wp2_with fail
 go_ret
 exact ⟨rfl, b2⟩
theorem cfits_any (p : Pm) (hrow : PredRow w w.heap.size (.slice A ds.length c) ds) (hp : p.Ok w w.heap.size) :
  Calls Tryz.prog 204 #[.slice A ds.length c, p.val] w fun e w' => e = .returned (.bool (fitB (ds.map (·.p)) [p])) ∧ Below w.heap.size w w' := by
 obtain ⟨N, hN⟩ : ∃ N, w.heap.size = N := ⟨_, rfl⟩
 obtain ⟨u0, hu0⟩ : ∃ u, w.alloc (.cells #[.int .u64 p.tm, .slice p.A p.evs.length p.c] 55) = u := ⟨_, rfl⟩
 have s0 : u0.heap.size = N + 1 := by rw [← hu0, World.size_alloc, hN]
 have b0 : Below N w u0 := by rw [← hu0]; exact (Below.refl _ _).alloc (by omega) _
 have h0 : Held u0 N 55 #[.int .u64 p.tm, .slice p.A p.evs.length p.c] := by rw [← hu0, ← hN]; exact heap_alloc_new w _
 obtain ⟨u1, hu1⟩ : ∃ u, u0.alloc (.cells #[.int .u64 p.tm, .slice p.A p.evs.length p.c] 55) = u := ⟨_, rfl⟩
 have s1 : u1.heap.size = N + 1 + 1 := by rw [← hu1, World.size_alloc, s0]
 have b1 : Below (N + 1) u0 u1 := by rw [← hu1]; exact (Below.refl _ _).alloc (by omega) _
 have h1 : Held u1 (N + 1) 55 #[.int .u64 p.tm, .slice p.A p.evs.length p.c] := by rw [← hu1, ← s0]; exact heap_alloc_new u0 _
 have hb : Below N w u1 := b0.trans (b1.mono (by omega))
 rw [hN] at hrow hp
 have htr : TrRow u1 u1.heap.size (.slice (some ⟨N + 1, 0, none⟩) 1 1) [p] := ⟨ERow.held (us := flatN [p]) h1 (by omega) (by unfold maxLen; omega), fun d hd => by
  obtain rfl := List.mem_singleton.1 hd
  exact (hp.below hb).more (by omega)⟩
 have HF := hid (cfit_any A c ds (some ⟨N + 1, 0, none⟩) 1 [p] u1 ((hrow.below hb).more (by omega)) htr)
 obtain ⟨x0, x1⟩ := cC2 h0
 simp at x0 x1
 have HB := hid hb
 generalize fitB (ds.map (·.p)) [p] = R at HF ⊢
 have HU := hid (And.intro hu0 hu1)
 clear hrow hp htr h0 h1 b0 b1 hb
 unfold Pm.val
 go_enter Tryz.func204, Tryz.ntmps204
 go_wp2_with fail
 refine HF.out.mono ?_
 rintro e w2 ⟨rfl, hb2⟩
 have HB2 := hid (HB.out.trans (hb2.mono (by omega)))
 go_wp2_with fail
 go_ret
 exact ⟨rfl, by rw [hN]; exact HB2.out⟩
end
section
variable (w : World) (hb sb : Nat)
theorem search_any (N s : Nat) (p : Nat → Bool) (hN : N ≤ 1000000000) (hs : s ≤ N) (h1 : ∀ t, t < s → p t = false) (h2 : ∀ t, s ≤ t → t < N → p t = true)
  (hf : ∀ wr, Below w.heap.size w wr → ∀ i : Nat, i < N → Calls Tryz.prog 206 #[.int .i64 i, .pointer (some ⟨hb, 0, none⟩), .pointer (some ⟨sb, 0, none⟩)] wr fun e w' => e = .returned (.bool (p i)) ∧ Below wr.heap.size wr w') :
  Calls Tryz.prog 205 #[.int .i64 N, .func (.func 206) #[] #[.pointer (some ⟨hb, 0, none⟩), .pointer (some ⟨sb, 0, none⟩)]] w fun e w' => e = .returned (.int .i64 s) ∧ Below w.heap.size w w' := by
 have HF := hid hf
 have H1 := hid h1
 have H2 := hid h2
 clear hf h1 h2
 go_enter Tryz.func205, Tryz.ntmps205
 go_wp2_with fail
 go_loopg [5, 6] N (fun gk lo hi wr => ∃ a b : Nat, lo = .int .i64 a ∧ hi = .int .i64 b ∧ a ≤ s ∧ s ≤ b ∧ b ≤ N ∧ Hid (b - a = gk) ∧ Hid (Below w.heap.size w wr))
 case atStart => exact ⟨0, N, rfl, rfl, Nat.zero_le _, hs, Nat.le_refl _, hid rfl, hid (Below.refl _ _)⟩
 case round =>
  obtain ⟨a, b, rfl, rfl, ha, hb2, hbN, HGK, HB⟩ := hrel
  by_cases hlt : a < b
  ·have hc := HF.out wr HB.out ((a + b) / 2) (by omega)
   rw [show (((a + b) / 2 : Nat) : Int) = ((a : Int) + (b : Int)) / 2 by omega] at hc
   by_cases hms : (a + b) / 2 < s
   ·rw [H1.out _ hms] at hc
    have HC := hid hc
    clear hc
    go_wp2_with fail
    refine HC.out.mono ?_
    rintro e w2 ⟨rfl, hb2'⟩
    have HB2 := hid (HB.out.trans (hb2'.mono HB.out.size))
    clear hb2'
    go_wp2_with fail
    go_roundg (b - ((a + b) / 2 + 1))
    case measure => have := HGK.out; omega
    case rel => exact ⟨(a + b) / 2 + 1, b, by rw [show (((a + b) / 2 + 1 : Nat) : Int) = ((a : Int) + (b : Int)) / 2 + 1 by omega], rfl, by omega, hb2, hbN, hid rfl, HB2⟩
   ·rw [H2.out _ (by omega) (by omega)] at hc
    have HC := hid hc
    clear hc
    go_wp2_with fail
    refine HC.out.mono ?_
    rintro e w2 ⟨rfl, hb2'⟩
    have HB2 := hid (HB.out.trans (hb2'.mono HB.out.size))
    clear hb2'
    go_wp2_with fail
    go_roundg ((a + b) / 2 - a)
    case measure => have := HGK.out; omega
    case rel => exact ⟨a, (a + b) / 2, rfl, by rw [show (((a + b) / 2 : Nat) : Int) = ((a : Int) + (b : Int)) / 2 by omega], ha, by omega, by omega, hid rfl, HB2⟩
  ·obtain rfl : b = a := by omega
   obtain rfl : b = s := by omega
   go_wp2_with fail
   go_ret
   exact ⟨rfl, HB.out⟩
theorem cmore_any (qb tb s i : Nat) (r : Bool) (hh : Held w hb 207 #[.func (.func 179) #[] #[.pointer (some ⟨qb, 0, none⟩), .pointer (some ⟨tb, 0, none⟩)]]) (hs : Held w sb 3 #[.int .i64 s]) (hi : s + 1 + i ≤ 1000000000)
  (hf : Calls Tryz.prog 179 #[.int .i64 (s + 1 + i : Nat), .pointer (some ⟨qb, 0, none⟩), .pointer (some ⟨tb, 0, none⟩)] w fun e w' => e = .returned (.bool r) ∧ Below w.heap.size w w') :
  Calls Tryz.prog 206 #[.int .i64 i, .pointer (some ⟨hb, 0, none⟩), .pointer (some ⟨sb, 0, none⟩)] w fun e w' => e = .returned (.bool (!r)) ∧ Below w.heap.size w w' := by
 rw [show ((s + 1 + i : Nat) : Int) = (s : Int) + 1 + (i : Int) by omega] at hf
 have HF := hid hf
 have x0 := hh.cell 0
 have x1 := hs.cell 0
 simp at x0 x1
 clear hf hh hs
 go_enter Tryz.func206, Tryz.ntmps206
 go_wp2_with fail
 refine HF.out.mono ?_
 rintro e w2 ⟨rfl, hb2⟩
 go_wp2_with fail
 go_ret
 exact ⟨rfl, hb2⟩
theorem cgreatest_any (qb tb m : Nat) (p : Nat → Bool) (hm : 1 ≤ m) (hm2 : m ≤ 1000000) (hp1 : p 1 = true) (hmono : ∀ a b, 1 ≤ a → a ≤ b → b ≤ m → p b = true → p a = true)
  (hf : ∀ wr, Below w.heap.size w wr → ∀ n : Nat, 1 ≤ n → n ≤ m → Calls Tryz.prog 179 #[.int .i64 n, .pointer (some ⟨qb, 0, none⟩), .pointer (some ⟨tb, 0, none⟩)] wr fun e w' => e = .returned (.bool (p n)) ∧ Below wr.heap.size wr w') :
  Calls Tryz.prog 178 #[.int .i64 m, .func (.func 179) #[] #[.pointer (some ⟨qb, 0, none⟩), .pointer (some ⟨tb, 0, none⟩)]] w fun e w' => e = .returned (.int .i64 (topP p m : Nat)) ∧ Below w.heap.size w w' := by
 obtain ⟨N, hN⟩ : ∃ N, w.heap.size = N := ⟨_, rfl⟩
 obtain ⟨F, hF⟩ : ∃ F : Value, F = .func (.func 179) #[] #[.pointer (some ⟨qb, 0, none⟩), .pointer (some ⟨tb, 0, none⟩)] := ⟨_, rfl⟩
 obtain ⟨u0, hu0⟩ : ∃ u, w.alloc (.cells #[F] 207) = u := ⟨_, rfl⟩
 have s0 : u0.heap.size = N + 1 := by rw [← hu0, World.size_alloc, hN]
 have b0 : Below N w u0 := by rw [← hu0]; exact (Below.refl _ _).alloc (by omega) _
 have h0 : Held u0 N 207 #[F] := by rw [← hu0, ← hN]; exact heap_alloc_new w _
 obtain ⟨u1, hu1⟩ : ∃ u, u0.alloc (.cells #[.int .i64 1] 3) = u := ⟨_, rfl⟩
 have s1 : u1.heap.size = N + 1 + 1 := by rw [← hu1, World.size_alloc, s0]
 have b1 : Below (N + 1) u0 u1 := by rw [← hu1]; exact (Below.refl _ _).alloc (by omega) _
 have h1 : Held u1 (N + 1) 3 #[.int .i64 1] := by rw [← hu1, ← s0]; exact heap_alloc_new u0 _
 have k0 : Held u1 N 207 #[F] := h0.below b1 (by omega)
 have hbb : Below N w u1 := b0.trans (b1.mono (by omega))
 have HS := hid (And.intro k0 (And.intro h1 (And.intro hbb s1)))
 rw [hN] at hf
 have HF := hid hf
 have HM := hid hmono
 obtain ⟨R, hR⟩ : ∃ R, topP p m = R := ⟨_, rfl⟩
 rw [hR]
 have HR := hid hR
 subst hF
 clear b0 h0 b1 h1 k0 hbb hf hmono hR
 go_enter Tryz.func178, Tryz.ntmps178
 go_wp2_with fail
 go_loopg [] m (fun gk wr => ∃ s : Nat, 1 ≤ s ∧ s ≤ m ∧ p s = true ∧ Hid (m - s ≤ gk) ∧ Hid (Held wr N 207 #[.func (.func 179) #[] #[.pointer (some ⟨qb, 0, none⟩), .pointer (some ⟨tb, 0, none⟩)]] ∧ Held wr (N + 1) 3 #[.int .i64 s] ∧ Below N w wr))
 case atStart => exact ⟨1, Nat.le_refl _, hm, hp1, hid (Nat.sub_le _ _), hid (by obtain ⟨q0, q1, q2, _⟩ := HS.out; exact ⟨q0, q1, q2⟩)⟩
 case round =>
  obtain ⟨s, hs1, hsm, hps, HGK, HST⟩ := hrel
  obtain ⟨q0, q1, q2⟩ := HST.out
  have x0 := q0.cell 0
  have x1 := q1.cell 0
  have x2 := q1.frozen 0
  simp at x0 x1
  have zr := q1.lt
  by_cases hh : s ≤ m / 2
  ·have hh2 : (s : Int) ≤ (m : Int) / 2 := by omega
   have hc := HF.out wr q2 (2 * s) (by omega) (by omega)
   rw [show ((2 * s : Nat) : Int) = 2 * (s : Int) by omega] at hc
   cases hp2 : p (2 * s) with
   | true =>
    rw [hp2] at hc
    have HC := hid hc
    have HP2 := hid hp2
    clear hc hp2 q0 q1 q2
    go_wp2_with fail
    refine HC.out.mono ?_
    rintro e w2 ⟨rfl, hb2⟩
    obtain ⟨q0, q1, q2⟩ := HST.out
    have y0 := q0.below hb2 q0.lt
    have y1 := q1.below hb2 q1.lt
    have y2 := q2.trans (hb2.mono (by omega))
    have z1 := y1.cell 0
    have z2 := y1.frozen 0
    simp at z1
    have HW2 := hid (And.intro y0 (And.intro y1 y2))
    clear q0 q1 q2 y0 y1 y2 x0 x1 x2 hb2
    go_wp2_with fail
    have hW3 : Held (w2.setCell ⟨N + 1, 0, none⟩ (.int .i64 ((s : Int) * 2))) N 207 #[.func (.func 179) #[] #[.pointer (some ⟨qb, 0, none⟩), .pointer (some ⟨tb, 0, none⟩)]] ∧ Held (w2.setCell ⟨N + 1, 0, none⟩ (.int .i64 ((s : Int) * 2))) (N + 1) 3 #[.int .i64 ((s : Int) * 2)] ∧ Below N w (w2.setCell ⟨N + 1, 0, none⟩ (.int .i64 ((s : Int) * 2))) := by
     obtain ⟨y0, y1, y2⟩ := HW2.out
     refine ⟨y0.other_put (by omega) _, by simpa using y1.put 0 _, y2.trans (below_put _ (by omega))⟩
    go_roundg (m - 2 * s)
    case measure => have := HGK.out; omega
    case rel => exact ⟨2 * s, by omega, by omega, HP2.out, hid (Nat.le_refl _), hid (by rw [show ((2 * s : Nat) : Int) = (s : Int) * 2 by omega]; exact hW3)⟩
   | false =>
    rw [hp2] at hc
    have HC := hid hc
    have HNO := hid (show ∀ j, min (2 * s - 1) m < j → j ≤ m → p j = false from fun j h1 h2 => by
     cases hj : p j with
     | false => rfl
     | true => rw [HM.out (2 * s) j (by omega) (by omega) h2 hj] at hp2; cases hp2)
    clear hc hp2 q0 q1 q2
    go_wp2_with fail
    refine HC.out.mono ?_
    rintro e w2 ⟨rfl, hb2⟩
    obtain ⟨q0, q1, q2⟩ := HST.out
    have y0 := q0.below hb2 q0.lt
    have y1 := q1.below hb2 q1.lt
    have y2 := q2.trans (hb2.mono (by omega))
    have zr2 := y1.lt
    clear q0 q1 q2 x0 x1 x2 hb2 HST
    have hps' := hps
    have hRs : s ≤ R ∧ R ≤ min (2 * s - 1) m := by
     have h1 := topP_le p m
     rw [HR.out] at h1
     constructor
     ·rcases Nat.lt_or_ge R s with h | h
      ·have := topP_no (p := p) m s (by rw [HR.out]; exact h) hsm
       rw [hps'] at this
       cases this
      ·exact h
     ·rcases Nat.lt_or_ge (min (2 * s - 1) m) R with h | h
      ·have h3 := HNO.out R h h1
       have h4 := topP_yes (p := p) m (by rw [HR.out]; omega)
       rw [HR.out, h3] at h4
       cases h4
      ·exact h
    have HSR := hid (fun (X : World) (hX : Below w2.heap.size w2 X) => search_any X N (N + 1) (min (2 * s - 1) m - s) (R - s) (fun i => !(p (s + 1 + i))) (by omega) (by omega)
     (fun t ht => by
      have h4 := topP_yes (p := p) m (by rw [HR.out]; omega)
      rw [HR.out] at h4
      have h1 := topP_le p m
      rw [HR.out] at h1
      show (!(p (s + 1 + t))) = false
      rw [HM.out (s + 1 + t) R (by omega) (by omega) h1 h4]; rfl)
     (fun t h1 h2 => by
      show (!(p (s + 1 + t))) = true
      rw [topP_no (p := p) m (s + 1 + t) (by rw [HR.out]; omega) (by omega)]; rfl)
     (fun W hW i hi => cmore_any W N (N + 1) qb tb s i (p (s + 1 + i)) ((y0.below hX (by omega)).below hW (by have := hX.size; omega)) ((y1.below hX (by omega)).below hW (by have := hX.size; omega)) (by omega) (HF.out W ((y2.trans (hX.mono (by omega))).trans (hW.mono (by have := hX.size; omega))) (s + 1 + i) (by omega) (by omega))))
    have x1 := y1.cell 0
    simp at x1
    have HX1 := hid (fun W (h : Below w2.heap.size w2 W) => (y1.below h zr2).cell 0)
    simp at HX1
    have HY2 := hid y2
    obtain ⟨U, hU⟩ : ∃ U : Nat, min (2 * s - 1) m = U := ⟨_, rfl⟩
    rw [hU] at hRs HSR
    have HU := hid hU
    have hUi : min (2 * (s : Int) - 1) (m : Int) = (U : Int) := by omega
    obtain ⟨V, hV⟩ : ∃ V : Nat, U - s = V := ⟨_, rfl⟩
    rw [hV] at HSR
    have hVi : (U : Int) - (s : Int) = (V : Int) := by omega
    have HV := hid hV
    obtain ⟨D, hD⟩ : ∃ D : Nat, R - s = D := ⟨_, rfl⟩
    rw [hD] at HSR
    have hDi : (s : Int) + (D : Int) = (R : Int) := by omega
    have hw2 : N ≤ w2.heap.size := by omega
    have hwr : IntKind.i64.wrap (R : Int) = (R : Int) := IntWalk.i64_in _ (by omega)
    clear hU hV y0 y1 y2 hD
    go_wp2_with fail
    go_region_held3 (fun W => W.cell? ⟨N + 1, 0, none⟩ = some (.int .i64 s))
     (first | exact x1 | exact HX1.out _ (Below.refl _ _) | exact HX1.out _ (Below.refl _ _).drew | exact HX1.out _ b3)
     (first | (go_at_call 205; (with_reducible refine (HSR.out _ (Below.refl _ _).drew).mono ?_); rintro e w3 ⟨rfl, hb3⟩; have b3 : Below w2.heap.size w2 w3 := (Below.refl w2.heap.size w2).drew.trans hb3))
    go_wp2_with fail
    go_ret
    exact ⟨rfl, by rw [hN]; exact HY2.out.trans (b3.mono hw2)⟩
  ·have hh2 : ¬ (s : Int) ≤ (m : Int) / 2 := by omega
   have HNO := hid (show ∀ j, min (2 * s - 1) m < j → j ≤ m → p j = false from fun j h1 h2 => by omega)
   obtain ⟨w2, hw2⟩ : ∃ w2, w2 = wr := ⟨_, rfl⟩
   subst hw2
   obtain ⟨y0, y1, y2⟩ := HST.out
   have zr2 := y1.lt
   clear q0 q1 q2 HST
   have hps' := hps
   have hRs : s ≤ R ∧ R ≤ min (2 * s - 1) m := by
    have h1 := topP_le p m
    rw [HR.out] at h1
    constructor
    ·rcases Nat.lt_or_ge R s with h | h
     ·have := topP_no (p := p) m s (by rw [HR.out]; exact h) hsm
      rw [hps'] at this
      cases this
     ·exact h
    ·rcases Nat.lt_or_ge (min (2 * s - 1) m) R with h | h
     ·have h3 := HNO.out R h h1
      have h4 := topP_yes (p := p) m (by rw [HR.out]; omega)
      rw [HR.out, h3] at h4
      cases h4
     ·exact h
   have HSR := hid (fun (X : World) (hX : Below w2.heap.size w2 X) => search_any X N (N + 1) (min (2 * s - 1) m - s) (R - s) (fun i => !(p (s + 1 + i))) (by omega) (by omega)
    (fun t ht => by
     have h4 := topP_yes (p := p) m (by rw [HR.out]; omega)
     rw [HR.out] at h4
     have h1 := topP_le p m
     rw [HR.out] at h1
     show (!(p (s + 1 + t))) = false
     rw [HM.out (s + 1 + t) R (by omega) (by omega) h1 h4]; rfl)
    (fun t h1 h2 => by
     show (!(p (s + 1 + t))) = true
     rw [topP_no (p := p) m (s + 1 + t) (by rw [HR.out]; omega) (by omega)]; rfl)
    (fun W hW i hi => cmore_any W N (N + 1) qb tb s i (p (s + 1 + i)) ((y0.below hX (by omega)).below hW (by have := hX.size; omega)) ((y1.below hX (by omega)).below hW (by have := hX.size; omega)) (by omega) (HF.out W ((y2.trans (hX.mono (by omega))).trans (hW.mono (by have := hX.size; omega))) (s + 1 + i) (by omega) (by omega))))
   have x1 := y1.cell 0
   simp at x1
   have HX1 := hid (fun W (h : Below w2.heap.size w2 W) => (y1.below h zr2).cell 0)
   simp at HX1
   have HY2 := hid y2
   obtain ⟨U, hU⟩ : ∃ U : Nat, min (2 * s - 1) m = U := ⟨_, rfl⟩
   rw [hU] at hRs HSR
   have HU := hid hU
   have hUi : min (2 * (s : Int) - 1) (m : Int) = (U : Int) := by omega
   obtain ⟨V, hV⟩ : ∃ V : Nat, U - s = V := ⟨_, rfl⟩
   rw [hV] at HSR
   have hVi : (U : Int) - (s : Int) = (V : Int) := by omega
   have HV := hid hV
   obtain ⟨D, hD⟩ : ∃ D : Nat, R - s = D := ⟨_, rfl⟩
   rw [hD] at HSR
   have hDi : (s : Int) + (D : Int) = (R : Int) := by omega
   have hw2 : N ≤ w2.heap.size := by omega
   have hwr : IntKind.i64.wrap (R : Int) = (R : Int) := IntWalk.i64_in _ (by omega)
   clear hU hV y0 y1 y2 hD
   go_wp2_with fail
   go_region_held3 (fun W => W.cell? ⟨N + 1, 0, none⟩ = some (.int .i64 s))
    (first | exact x1 | exact HX1.out _ (Below.refl _ _) | exact HX1.out _ (Below.refl _ _).drew | exact HX1.out _ b3)
    (first | (go_at_call 205; (with_reducible refine (HSR.out _ (Below.refl _ _).drew).mono ?_); rintro e w3 ⟨rfl, hb3⟩; have b3 : Below w2.heap.size w2 w3 := (Below.refl w2.heap.size w2).drew.trans hb3))
   go_wp2_with fail
   go_ret
   exact ⟨rfl, by rw [hN]; exact HY2.out.trans (b3.mono hw2)⟩
end
theorem aloneC_no {sig : List Pr} {l : List Pm} {k : Nat} {p : Pm} (h : l[k]? = some p) (hf : fitB sig [p] = false) : aloneC sig l = false := by
 cases ha : aloneC sig l with
 | false => rfl
 | true =>
  have := List.all_eq_true.1 ha p (List.mem_of_getElem? h)
  rw [hf] at this
  cases this
theorem aloneC_yes {sig : List Pr} {l : List Pm} (h : ∀ (j : Nat) (p : Pm), l[j]? = some p → fitB sig [p] = true) : aloneC sig l = true := List.all_eq_true.2 fun p hp => by
 obtain ⟨j, hj⟩ := List.mem_iff_getElem?.1 hp
 exact h j p hj
section
variable (A : Option Addr) (c : Nat) (ds : List Pd) (T : Option Addr) (ct : Nat) (ps : List Pm) (most : Int) (w : World)
theorem ccheck_any (hrow : PredRow w w.heap.size (.slice A ds.length c) ds) (ht : TrRow w w.heap.size (.slice T ps.length ct) ps) :
  Calls Tryz.prog 177 #[.slice A ds.length c, .slice T ps.length ct, .int .i64 most] w fun e w' => e = .returned (.int .i64 (whyC (ds.map (·.p)) ps most)) ∧ Below w.heap.size w w' := by
 obtain ⟨-, hc1, hc2⟩ := ht.1.len
 unfold whyC
 by_cases h0 : most < 1
 ·rw [if_pos h0]
  clear hrow ht
  go_enter Tryz.func177, Tryz.ntmps177
  go_wp2_with fail
  go_ret
  exact ⟨rfl, Below.refl _ _⟩
 ·rw [if_neg h0]
  have HCK := hid (tcheck_any A c ds T ct ps w hrow ht)
  by_cases h1 : (checkT (ds.map (·.p)) (ps.map (·.p))).1 = 0
  ·rw [if_neg (fun h => h h1)]
   rw [h1] at HCK
   generalize (checkT (ds.map (·.p)) (ps.map (·.p))).2 = C2 at HCK
   have HROW := hid hrow
   have HTR := hid ht
   obtain ⟨R, hR⟩ : ∃ R : Int, (if aloneC (ds.map (·.p)) ps = true then (0 : Int) else 6) = R := ⟨_, rfl⟩
   rw [hR]
   have HR := hid hR
   clear hrow ht h1 hR
   obtain ⟨n, hn⟩ : ∃ n, ps.length = n := ⟨_, rfl⟩
   rw [hn] at HCK HTR hc1 ⊢
   have HN := hid hn
   clear hn
   go_enter Tryz.func177, Tryz.ntmps177
   go_wp2_with fail
   refine HCK.out.mono ?_
   rintro e w1 ⟨rfl, hb1⟩
   have HB1 := hid hb1
   clear hb1
   go_wp2_with fail
   go_loopg [24] n (fun gk i wr => ∃ k : Nat, i = .int .i64 k ∧ k ≤ n ∧ Hid (n - k = gk) ∧ Hid (∀ j p, j < k → ps[j]? = some p → fitB (ds.map (·.p)) [p] = true) ∧ Hid (Below w.heap.size w wr))
   case atStart => exact ⟨0, rfl, Nat.zero_le _, hid rfl, hid (fun j p hj _ => absurd hj (Nat.not_lt_zero _)), HB1⟩
   case round =>
    obtain ⟨k, rfl, hk, HGK, HALL, HB⟩ := hrel
    by_cases hlt : k < n
    ·obtain ⟨d, hd⟩ : ∃ d, ps[k]? = some d := ⟨_, List.getElem?_eq_getElem (by rw [HN.out]; exact hlt)⟩
     have hz := HB.out.size
     obtain ⟨b, o, rfl, hb, x0, x1, hok, hl1, hl2⟩ := (HTR.out.below HB.out).at hd
     obtain ⟨w4, hw4⟩ : ∃ w4, wr.alloc (.cells #[.int .u64 d.tm, .slice d.A d.evs.length d.c] 55) = w4 := ⟨_, rfl⟩
     have s4 : w4.heap.size = wr.heap.size + 1 := by rw [← hw4, World.size_alloc]
     have hb4 : Below wr.heap.size wr w4 := by rw [← hw4]; exact (Below.refl _ _).alloc (Nat.le_refl _) _
     have hh4 : Held w4 wr.heap.size 55 #[.int .u64 d.tm, .slice d.A d.evs.length d.c] := by rw [← hw4]; exact heap_alloc_new wr _
     obtain ⟨y0, y1⟩ := cC2 hh4
     simp at y0 y1
     have hB4 := HB.out.trans (hb4.mono hz)
     have HF := hid (cfits_any A c ds w4 d ((HROW.out.below hB4).more (by omega)) ((hok.below (hb4.mono hz)).more (by omega)))
     have HB4 := hid hB4
     have HD := hid hd
     unfold Pm.val at HF
     clear hok hd hh4 hb4 hB4
     cases hf : fitB (ds.map (·.p)) [d] with
     | true =>
      rw [hf] at HF
      have HF1 := hid hf
      clear hf
      go_wp2_with fail
      refine HF.out.mono ?_
      rintro e w5 ⟨rfl, hb5⟩
      have HB5 := hid (HB4.out.trans (hb5.mono (by omega)))
      clear hb5 hw4 x0 x1 y0 y1
      go_wp2_with fail
      go_roundg (n - (k + 1))
      case measure => have := HGK.out; omega
      case rel => exact ⟨k + 1, by go_num, by omega, hid rfl, hid (fun j p hj hp => by
       by_cases hjk : j = k
       ·subst hjk
        rw [HD.out] at hp
        injection hp with hp
        rw [← hp]
        exact HF1.out
       ·exact HALL.out j p (by omega) hp), HB5⟩
     | false =>
      rw [hf] at HF
      have hR6 : R = 6 := by rw [← HR.out, aloneC_no HD.out hf]; rfl
      have HR6 := hid hR6
      clear hf hR6
      go_wp2_with fail
      refine HF.out.mono ?_
      rintro e w5 ⟨rfl, hb5⟩
      have HB5 := hid (HB4.out.trans (hb5.mono (by omega)))
      clear hb5 hw4 x0 x1 y0 y1
      go_wp2_with fail
      go_ret
      exact ⟨by rw [HR6.out]; rfl, HB5.out⟩
    ·obtain rfl : n = k := by omega
     have hR0 : R = 0 := by rw [← HR.out, aloneC_yes (fun j p hp => HALL.out j p (by rw [← HN.out]; exact (List.getElem?_eq_some_iff.1 hp).1) hp)]; rfl
     have HR0 := hid hR0
     clear hR0
     go_wp2_with fail
     go_ret
     exact ⟨by rw [HR0.out]; rfl, HB.out⟩
  ·rw [if_pos h1]
   have hne : ((checkT (ds.map (·.p)) (ps.map (·.p))).1 != 0) = true := bne_iff_ne.2 h1
   generalize checkT (ds.map (·.p)) (ps.map (·.p)) = C at HCK h1 hne ⊢
   clear hrow ht h1
   go_enter Tryz.func177, Tryz.ntmps177
   go_wp2_with fail
   refine HCK.out.mono ?_
   rintro e w1 ⟨rfl, hb1⟩
   go_wp2_with fail
   go_ret
   exact ⟨rfl, hb1⟩
end
def szVs (l : List Nat) : List Value := l.map fun k => .int .i64 (k : Nat)
theorem szVs_at {l : List Nat} {i n : Nat} (h : l[i]? = some n) : (szVs l)[i]? = some (.int .i64 n) := by unfold szVs; rw [List.getElem?_map, h]; rfl
theorem szVs_snoc (l : List Nat) (n : Nat) : szVs l ++ [.int .i64 (n : Nat)] = szVs (l ++ [n]) := by unfold szVs; rw [List.map_append]; rfl
def sizesR (sig : List Pr) (l : List Pm) (most : Int) : List Nat × Int := if whyC sig l most = 0 then (sizesC sig l most, 0) else ([], whyC sig l most)
def SzGot (w : World) (r : List Nat × Int) (e : Ending) (W' : World) : Prop :=
 ∃ A c, e = .returned (.tuple #[.slice A r.1.length c, .int .i64 r.2]) ∧ W'.ownsRow w.heap.size 3 1 (.slice A r.1.length c) r.1.length (szVs r.1) ∧ Below w.heap.size w W'
theorem sizes_step {N k base : Nat} {t1 t2 e : TypeId} {cs1 cs2 : Array Value} {w W X : World} {v : Value} {us : List Value} (h : Held W N t1 cs1 ∧ Held W (N + 1) t2 cs2 ∧ Below N w W) (ho : W.ownsRow base e 1 v k us) (hg : W.grownBy X v.ownBlock) (hb : N + 1 < base) :
  Held X N t1 cs1 ∧ Held X (N + 1) t2 cs2 ∧ Below N w X := by
 obtain ⟨q0, q1, q2⟩ := h
 have hn : ∀ j, j < base → some j ≠ v.ownBlock := fun j hj e => by have := (World.ownsRow.lt ho j e.symm).1; omega
 exact ⟨q0.grown hg (hn _ (by omega)), q1.grown hg (hn _ (by omega)), q2.grown hg (by have := q1.lt; omega) (fun j e => by have := (World.ownsRow.lt ho j e).1; omega)⟩
def SzRel (w : World) (N n : Nat) (A : Option Addr) (c : Nat) (ds : List Pd) (most : Int) (L : List Nat) (gk : Nat) (sv : Value) (wr : World) : Prop :=
 ∃ (qs : List Pm) (cr : Nat) (A2 : Option Addr) (ks : List Nat) (cc : Nat) (A1 : Option Addr), sv = .slice A1 ks.length cc ∧ qs.length ≤ cr ∧ cr ≤ 9223372036854775807 ∧ Hid (qs.length ≤ gk) ∧ Hid (ks.length + qs.length ≤ n) ∧ Hid (Held wr N 24 #[.slice A ds.length c] ∧ Held wr (N + 1) 25 #[.slice A2 qs.length cr] ∧ Below N w wr) ∧ Hid (wr.ownsRow (N + 1 + 1) 3 1 (.slice A1 ks.length cc) ks.length (szVs ks)) ∧ Hid (TrRow w N (.slice A2 qs.length cr) qs) ∧ Hid (COk (ds.map (·.p)) qs most) ∧ Hid (L = ks ++ sizesC (ds.map (·.p)) qs most)
theorem SzRel.next {w w3 : World} {N n c cr z c3 r4 c4 : Nat} {A A2 A3 A4 : Option Addr} {ds : List Pd} {most : Int} {L ks : List Nat} {qs : List Pm}
  (hst : Held w3 N 24 #[.slice A ds.length c] ∧ Held w3 (N + 1) 25 #[.slice A2 qs.length cr] ∧ Below N w w3) (hown : w3.ownsRow (N + 1 + 1) 3 1 (.slice A3 (ks.length + 1) c3) (ks.length + 1) (szVs (ks ++ [z])))
  (htq : TrRow w N (.slice A2 qs.length cr) qs) (hcq : COk (ds.map (·.p)) qs most) (hl : 0 < qs.length) (hkn : ks.length + qs.length ≤ n) (hlq : L = ks ++ sizesC (ds.map (·.p)) qs most) (hz : firstC (ds.map (·.p)) qs most = z)
  (h1 : r4 = qs.length - z) (h2 : c4 = cr - z) (hA : cr = z ∨ A4 = A2.map (fun x => x.add (z * 2))) :
  SzRel w N n A c ds most L (qs.length - z) (.slice A3 (ks.length + 1) c3) (w3.setCell ⟨N + 1, 0, none⟩ (.slice A4 r4 c4)) := by
 obtain ⟨q0, q1, q2⟩ := hst
 have hf := hcq.first hl
 rw [hz] at hf
 have hsz := hcq.sizes hl
 rw [hz] at hsz
 have hdl : (qs.drop z).length = r4 := by rw [List.length_drop]; omega
 obtain ⟨-, hc1, hc2⟩ := htq.1.len
 subst h1 h2
 have htd := htq.drop (k := z) (A' := A4) hf.2.1 hA
 refine ⟨qs.drop z, cr - z, A4, ks ++ [z], c3, A3, by rw [List.length_append]; rfl, by omega, by omega, hid (by omega), hid (by rw [List.length_append, hdl]; simp; omega), hid ⟨q0.other_put (by omega) _, ?_, q2.trans (below_put _ (by omega))⟩, hid ?_, hid (by rw [hdl]; exact htd), hid (hcq.drop z), hid (by rw [hlq, hsz, List.append_assoc]; rfl)⟩
 ·rw [hdl]; simpa using q1.put 0 (.slice A4 (qs.length - z) (cr - z))
 ·have h : (ks ++ [z]).length = ks.length + 1 := by simp
  rw [h]
  exact own_put1 hown (by omega)
section
variable (A : Option Addr) (c : Nat) (ds : List Pd) (T : Option Addr) (ct : Nat) (ps : List Pm) (most : Int) (w : World)
theorem csizes_any (hrow : PredRow w w.heap.size (.slice A ds.length c) ds) (ht : TrRow w w.heap.size (.slice T ps.length ct) ps) (hlen : ps.length ≤ 4398046510976) :
  Calls Tryz.prog 151 #[.slice A ds.length c, .slice T ps.length ct, .int .i64 most] w (SzGot w (sizesR (ds.map (·.p)) ps most)) := by
 obtain ⟨-, hc1, hc2⟩ := ht.1.len
 obtain ⟨N, hN⟩ : ∃ N, w.heap.size = N := ⟨_, rfl⟩
 obtain ⟨u0, hu0⟩ : ∃ u, w.alloc (.cells #[.slice A ds.length c] 24) = u := ⟨_, rfl⟩
 have s0 : u0.heap.size = N + 1 := by rw [← hu0, World.size_alloc, hN]
 have b0 : Below N w u0 := by rw [← hu0]; exact (Below.refl _ _).alloc (by omega) _
 have h0 : Held u0 N 24 #[.slice A ds.length c] := by rw [← hu0, ← hN]; exact heap_alloc_new w _
 obtain ⟨u1, hu1⟩ : ∃ u, u0.alloc (.cells #[.slice T ps.length ct] 25) = u := ⟨_, rfl⟩
 have s1 : u1.heap.size = N + 1 + 1 := by rw [← hu1, World.size_alloc, s0]
 have b1 : Below (N + 1) u0 u1 := by rw [← hu1]; exact (Below.refl _ _).alloc (by omega) _
 have h1 : Held u1 (N + 1) 25 #[.slice T ps.length ct] := by rw [← hu1, ← s0]; exact heap_alloc_new u0 _
 have k0 : Held u1 N 24 #[.slice A ds.length c] := h0.below b1 (by omega)
 have hbb : Below N w u1 := b0.trans (b1.mono (by omega))
 rw [hN] at hrow ht
 have HCK := hid (ccheck_any A c ds T ct ps most u1 ((hrow.below hbb).more (by omega)) ((ht.below hbb).more (by omega)))
 have HROW := hid hrow
 have HTR := hid ht
 have HS := hid (And.intro k0 (And.intro h1 hbb))
 have x0 := k0.cell 0
 have x1 := h1.cell 0
 simp at x0 x1
 unfold SzGot sizesR
 rw [hN]
 by_cases hw : whyC (ds.map (·.p)) ps most = 0
 ·rw [if_pos hw]
  rw [hw] at HCK
  have HC := hid (cok_of hw ht.fits)
  obtain ⟨L, hL⟩ : ∃ L, sizesC (ds.map (·.p)) ps most = L := ⟨_, rfl⟩
  rw [hL]
  have HL := hid hL
  obtain ⟨n, hn⟩ : ∃ n, ps.length = n := ⟨_, rfl⟩
  have HN := hid hn
  rw [hn] at HCK HTR HS hc1 hlen x1 hu1 ⊢
  clear hrow ht b0 h0 b1 h1 k0 hbb hw hL hn
  go_enter Tryz.func151, Tryz.ntmps151
  go_wp2_with fail
  refine HCK.out.mono ?_
  rintro e w1 ⟨rfl, hb1⟩
  obtain ⟨k0, h1, hbb⟩ := HS.out
  have y0 := k0.below hb1 (by omega)
  have y1 := h1.below hb1 (by omega)
  have z1 := hb1.size
  have HB1 := hid (And.intro y0 (And.intro y1 (hbb.trans (hb1.mono (by omega)))))
  clear k0 h1 hbb y0 y1 hb1 x0 x1 hu0 hu1
  go_wp2_with fail
  obtain ⟨i0, hi, hy0, hy1, hy2⟩ := info_parts Tryz.infoIntB
  have CSTEP := @sizes_step
  go_loopg [9] n (fun gk sv wr => SzRel w N n A c ds most L gk sv wr)
  case atStart => exact ⟨ps, ct, T, [], 0, none, rfl, by rw [HN.out]; exact hc1, hc2, hid (by rw [HN.out]; exact Nat.le_refl _), hid (by rw [HN.out]; simp), hid (by rw [HN.out]; exact HB1.out), hid (World.ownsRow_nil _ _ _ _), hid (by rw [HN.out]; exact HTR.out), HC, hid (by rw [List.nil_append]; exact HL.out.symm)⟩
  case round =>
   obtain ⟨qs, cr, A2, ks, cc, A1, rfl, hq1, hq2, HGK, HKN, HST, HOW, HTQ, HCQ, HLQ⟩ := hrel
   obtain ⟨q0, q1, q2⟩ := HST.out
   have x1 := q1.cell 0
   simp at x1
   have zr := q1.lt
   by_cases hlt : 0 < qs.length
   ·have hfi := HCQ.out.first hlt
    have hm1 := HCQ.out.most
    obtain ⟨M, hM⟩ : ∃ M, min (min most.toNat 1024) qs.length = M := ⟨_, rfl⟩
    have hg := cgreatest_any wr N (N + 1) M (fun j => fitB (ds.map (·.p)) (qs.take j)) (by omega) (by omega) (HCQ.out.one hlt)
     (fun a b h1 h2 h3 h4 => HCQ.out.ok.fewer h1 h2 (by omega) (by omega) h4)
     (fun W hW j h1 h2 => chold_any A c ds A2 cr qs W N (N + 1) j (q0.below hW q0.lt) (q1.below hW q1.lt) ((HROW.out.below (q2.trans (hW.mono (by omega)))).more (by have := hW.size; omega)) ((HTQ.out.below (q2.trans (hW.mono (by omega)))).more (by have := hW.size; omega)) (by omega))
    rw [← hM, show topP (fun j => fitB (ds.map (·.p)) (qs.take j)) (min (min most.toNat 1024) qs.length) = firstC (ds.map (·.p)) qs most from rfl, hM] at hg
    have HG := hid hg
    have hMi : (if (qs.length : Int) < (if (1024 : Int) < most then 1024 else most) then (qs.length : Int) else (if (1024 : Int) < most then 1024 else most)) = (M : Int) := by split <;> split <;> omega
    have HMM := hid hM
    clear hg q0 q1 q2 hM
    obtain ⟨z, hz⟩ : ∃ z, firstC (ds.map (·.p)) qs most = z := ⟨_, rfl⟩
    rw [hz] at HG hfi
    have HZ := hid hz
    have hzl := hfi.2.1
    have hz1 := hfi.1
    clear hz hfi
    have CNEXT := @SzRel.next w
    by_cases hcz : cr = z
    all_goals (
    go_wp2_with fail
    refine HG.out.mono ?_
    rintro e w2 ⟨rfl, hb2⟩
    have zz := hb2.size
    have HO := hid (own_below (own_below HOW.out hb2) ((Below.refl w2.heap.size w2).alloc (Nat.le_refl _) (.cells #[.int .i64 (z : Int)] 3)))
    have HER := hid (ERow.new w2 3 [.int .i64 (z : Int)] (n := 1) (by unfold maxLen; omega))
    have HST2 := hid (show Held (w2.alloc (.cells #[.int .i64 (z : Int)] 3)) N 24 #[.slice A ds.length c] ∧ Held (w2.alloc (.cells #[.int .i64 (z : Int)] 3)) (N + 1) 25 #[.slice A2 qs.length cr] ∧ Below N w (w2.alloc (.cells #[.int .i64 (z : Int)] 3)) from by
     obtain ⟨q0, q1, q2⟩ := HST.out
     have ba := (Below.refl w2.heap.size w2).alloc (Nat.le_refl _) (.cells #[.int .i64 (z : Int)] 3)
     exact ⟨(q0.below hb2 q0.lt).below ba (by have := q0.lt; omega), (q1.below hb2 q1.lt).below ba (by omega), (q2.trans (hb2.mono (by omega))).trans (ba.mono (by omega))⟩)
    clear hb2 x1
    go_wp2_with (at_builtin; refine wpList_append_erow _ rfl _ _ 56 3 rfl (N + 1 + 1) i0 (.int .i64 0) 1 8 Tryz.underlying56 hi hy0 hy1 hy2 rfl (by decide) (.slice A1 ks.length cc) ks.length (szVs ks) (by rfl) HO.out (w2.heap.size + 1) (.slice (some ⟨w2.heap.size, 0, none⟩) 1 1) 1 [.int .i64 (z : Int)] (by rfl) (by simpa using HER.out) rfl (by simp [Value.oneCell']) (by have := HKN.out; unfold maxLen; omega) (by have := HKN.out; omega) (by rw [World.size_alloc]; omega) (ks.length + 1) rfl (szVs (ks ++ [z])) (szVs_snoc _ _) ?_; intro A3 c3 w3 hown3 hg3 hat3; obtain ⟨HY0, HY1, HY2⟩ := CSTEP HST2.out HO.out hg3 (by omega); have x3 := HY1.cell 0; have x4 := HY1.frozen 0; simp at x3; have zl3 := HY1.lt; have HSY := hid (And.intro HY0 (And.intro HY1 HY2)); have HO3 := hid hown3; clear hown3 hg3 hat3 HY0 HY1 HY2))
    ·go_roundg (qs.length - z)
     case measure => have := HGK.out; omega
     case rel => exact CNEXT HSY.out HO3.out HTQ.out HCQ.out hlt HKN.out HLQ.out HZ.out rfl (by omega) (Or.inl hcz)
    ·go_roundg (qs.length - z)
     case measure => have := HGK.out; omega
     case rel => exact CNEXT HSY.out HO3.out HTQ.out HCQ.out hlt HKN.out HLQ.out HZ.out rfl rfl (Or.inr rfl)
   ·have h0 : qs = [] := List.eq_nil_of_length_eq_zero (by omega)
    have hl : L = ks := by rw [HLQ.out, h0, sizesC_nil, List.append_nil]
    have HL2 := hid hl
    have HBX := hid q2
    subst h0
    clear hl q0 q1 q2 HST
    go_wp2_with fail
    go_ret2
    have hl := HL2.out
    subst hl
    exact ⟨A1, cc, rfl, own_base HOW.out (by omega), HBX.out⟩
 ·rw [if_neg hw]
  have hne : (whyC (ds.map (·.p)) ps most != 0) = true := bne_iff_ne.2 hw
  generalize whyC (ds.map (·.p)) ps most = C at HCK hne ⊢
  clear hrow ht b0 h0 b1 h1 k0 hbb hw
  go_enter Tryz.func151, Tryz.ntmps151
  go_wp2_with fail
  refine HCK.out.mono ?_
  rintro e w1 ⟨rfl, hb1⟩
  obtain ⟨k0, h1, hbb⟩ := HS.out
  have HB1 := hid (hbb.trans (hb1.mono (by omega)))
  clear k0 h1 hbb hb1 x0 x1 hu0 hu1
  go_wp2_with fail
  go_ret2
  exact ⟨none, 0, rfl, World.ownsRow_nil _ _ _ _, HB1.out⟩
end
theorem Tryz.infoPoints : (Tryz.prog.info? 25).map (fun i => (i.zero, i.size, i.bytes)) = some (some (.slice none 0 0), 1, 24) := by kernel_rfl
structure Bk where
 A : Option Addr
 c : Nat
 ps : List Pm
abbrev Bk.val (b : Bk) : Value := .slice b.A b.ps.length b.c
def bkVs (l : List Bk) : List Value := l.map (·.val)
theorem bkVs_at {l : List Bk} {i : Nat} {b : Bk} (h : l[i]? = some b) : (bkVs l)[i]? = some b.val := by unfold bkVs; rw [List.getElem?_map, h]; rfl
theorem bkVs_snoc (l : List Bk) (b : Bk) : bkVs l ++ [b.val] = bkVs (l ++ [b]) := by unfold bkVs; rw [List.map_append]; rfl
def OwnK (w : World) (n : Nat) (v : Value) (bs : List Bk) : Prop := w.ownsRow n 25 1 v bs.length (bkVs bs) ∧ ∀ b ∈ bs, OwnT w n b.val b.ps
theorem OwnK.nil (w : World) (n : Nat) : OwnK w n (.slice none 0 0) [] := ⟨World.ownsRow_nil _ _ _ _, by simp⟩
section
variable {w w' : World} {n m : Nat} {v u : Value}
theorem OwnT.grown {ps : List Pm} {f : TypeId} {j t : Nat} {vs : List Value} (h : OwnT w n u ps) (h2 : w.ownsRow m f t v j vs) (hf : 135 ≠ f) (hf2 : 91 ≠ f) (hf3 : 55 ≠ f) (hg : w.grownBy w' v.ownBlock) : OwnT w' n u ps :=
 ⟨World.ownsRow.kept h.1 hg (own_unlike h.1 h2 hf3), fun d hd => ⟨(h.2 d hd).1.grown h2 hf hf2 hg, (h.2 d hd).2⟩⟩
theorem OwnK.below {bs : List Bk} (h : OwnK w n v bs) (hb : Below w.heap.size w w') : OwnK w' n v bs := ⟨own_below h.1 hb, fun b hd => (h.2 b hd).below hb⟩
theorem OwnK.more {bs : List Bk} {b : Bk} {A : Option Addr} {c : Nat} (h : OwnK w n v bs) (hb : OwnT w n b.val b.ps) (ho : w'.ownsRow n 25 1 (.slice A (bs.length + 1) c) (bs.length + 1) (bkVs (bs ++ [b]))) (hg : w.grownBy w' v.ownBlock) :
  OwnK w' n (.slice A (bs ++ [b]).length c) (bs ++ [b]) := by
 have e1 : 135 ≠ 25 := by decide
 have e2 : 91 ≠ 25 := by decide
 have e3 : 55 ≠ 25 := by decide
 refine ⟨by rw [List.length_append]; exact ho, fun x hx => ?_⟩
 rcases List.mem_append.1 hx with hx | hx
 ·exact (h.2 x hx).grown h.1 e1 e2 e3 hg
 ·obtain rfl := List.mem_singleton.1 hx
  exact hb.grown h.1 e1 e2 e3 hg
end
theorem TrFit.take {l : List Pm} (h : TrFit l) (k : Nat) : TrFit (l.take k) := ⟨by rw [List.length_take]; have := h.1; omega, fun d hd => h.2 d (List.mem_of_mem_take hd)⟩
theorem TrFit.drop {l : List Pm} (h : TrFit l) (k : Nat) : TrFit (l.drop k) := ⟨by rw [List.length_drop]; have := h.1; omega, fun d hd => h.2 d (List.mem_of_mem_drop hd)⟩
def blocksR (sig : List Pr) (l : List Pm) (most : Int) : List (List Pm) × Int := if whyC sig l most = 0 then (cutsOf (sizesC sig l most) l, 0) else ([], whyC sig l most)
open Go.RowKit
theorem st_even {m : Nat} (h : m % 2 = 0) : st m = m / 2 := by unfold st; rw [if_neg (by omega), Nat.xor_zero]
theorem st_odd {m : Nat} (h : m % 2 = 1) : st m = m / 2 ^^^ 3988292384 := by unfold st; rw [if_pos h]; rfl
theorem it_next (k m : Nat) : it (k + 1) m = it k (st m) := rfl
theorem shifted_any (n : Nat) (hn : n < 4294967296) (w : World) :
  Calls Tryz.prog 184 #[.int .u32 n] w fun e w' => e = .returned (.int .u32 (it 8 n : Nat)) ∧ w = w' := by
 go_enter Tryz.func184, Tryz.ntmps184
 go_wp2
 go_loop [0, 4] (fun s i => ∃ k m : Nat, k ≤ 8 ∧ m < 4294967296 ∧ i = .int .i64 k ∧ s = .int .u32 m ∧ Hid (it (8 - k) m = it 8 n)) (fun _ i => 8 - (intOf i).toNat)
 case atStart => exact ⟨0, n, by omega, hn, rfl, rfl, hid rfl⟩
 case round =>
  obtain ⟨k, m, hk, hm, rfl, rfl, HI⟩ := hrel
  by_cases hlt : k < 8
  ·have hnx : it (8 - (k + 1)) (st m) = it 8 n := by rw [← HI.out, ← it_next]; congr 1; omega
   have hsl := st_lt hm
   have hand := u32_and_nat m 1 hm (by omega)
   rw [nat_mask1] at hand
   rcases Nat.mod_two_eq_zero_or_one m with ho | ho
   ·rw [ho] at hand
    rw [st_even ho] at hnx hsl
    have HN := hid hnx; clear hnx
    clear ho
    simp only [Int.natCast_one] at hand
    go_wp2_with fail
    go_round
    case rel => exact ⟨k + 1, m / 2, by omega, hsl, by go_num, by go_num, HN⟩
    case measure => simp [intOf]; omega
   ·rw [ho] at hand
    rw [st_odd ho] at hnx hsl
    have hxor : bits .xor .u32 ((m : Int) / 2) 3988292384 = ((m / 2 ^^^ 3988292384 : Nat) : Int) := u32_xor_nat (m / 2) 3988292384 (by omega) (by omega)
    have HN := hid hnx; clear hnx
    clear ho
    simp only [Int.natCast_one] at hand
    go_wp2_with fail
    go_round
    case rel => exact ⟨k + 1, m / 2 ^^^ 3988292384, by omega, hsl, by go_num, by go_num, HN⟩
    case measure => simp [intOf]; omega
  ·obtain rfl : k = 8 := by omega
   have he : m = it 8 n := HI.out
   have HE := hid he; clear he
   go_wp2_with fail
   go_ret
   exact ⟨by rw [HE.out]; rfl, rfl⟩
def toN (xs : List Int) : List Nat := xs.map Int.toNat
theorem toN_append (xs ys : List Int) : toN (xs ++ ys) = toN xs ++ toN ys := List.map_append
theorem toN_byte {xs : List Int} (hb : ∀ x ∈ xs, 0 ≤ x ∧ x < 256) : ∀ x ∈ toN xs, x < 256 := by
 intro x hx
 obtain ⟨y, hy, rfl⟩ := List.mem_map.1 hx
 have := hb y hy
 omega
theorem state_next (n : Nat) (xs : List Int) {k : Nat} (hk : k < xs.length) : stateI n (toN (xs.take (k + 1))) = it 8 (stateI n (toN (xs.take k)) ^^^ (xs.getD k 0).toNat) := by
 have h : xs.take (k + 1) = xs.take k ++ [xs.getD k 0] := by rw [List.take_succ_eq_append_getElem hk]; simp [List.getD, List.getElem?_eq_getElem hk]
 rw [h, toN_append, state_append]
 rfl
theorem max_xor (n : Nat) (hn : n < 4294967296) : bits .xor .u32 IntKind.u32.max (n : Int) = ((4294967295 ^^^ n : Nat) : Int) := u32_xor_nat 4294967295 n (by omega) hn
def sumX (xs : List Int) : Nat := sumI (toN xs)
theorem more_any (n : Nat) (hn : n < 4294967296) (A : Option Addr) (c : Nat) (xs : List Int) (w : World) (hrow : Row w w.heap.size (.slice A xs.length c) xs) (hb : ∀ x ∈ xs, 0 ≤ x ∧ x < 256) :
  Calls Tryz.prog 157 #[.int .u32 n, .slice A xs.length c] w fun e w' => e = .returned (.int .u32 (4294967295 ^^^ stateI (4294967295 ^^^ n) (toN xs) : Nat)) ∧ w = w' := by
 obtain ⟨A', c', hv, hlc, hcm, _, hcells⟩ := hrow
 injection hv with h1 h2 h3
 subst h1 h3
 unfold maxLen at hcm
 have hsz : xs.length ≤ 9223372036854775807 := by omega
 have HC := hid hcells; clear hcells
 have HB := hid hb; clear hb
 have hst : (4294967295 ^^^ n) < 4294967296 := Nat.xor_lt_two_pow (n := 32) (by omega) hn
 have hm0 := max_xor n hn
 generalize 4294967295 ^^^ n = n0 at hst hm0 ⊢
 go_enter Tryz.func157, Tryz.ntmps157
 go_wp2
 go_loop [5, 12] (fun s i => ∃ k m : Nat, k ≤ xs.length ∧ m < 4294967296 ∧ i = .int .i64 k ∧ s = .int .u32 m ∧ Hid (m = stateI n0 (toN (xs.take k)))) (fun _ i => xs.length - (intOf i).toNat)
 case atStart => exact ⟨0, n0, Nat.zero_le _, hst, rfl, rfl, hid rfl⟩
 case round =>
  obtain ⟨k, m, hk, hm, rfl, rfl, HI⟩ := hrel
  by_cases hlt : k < xs.length
  ·obtain ⟨b, o, rfl, _, hc⟩ := HC.out (by omega)
   have hck := hc k (by omega)
   clear hc
   have hin : xs.getD k 0 ∈ xs := by rw [List.getD, List.getElem?_eq_getElem (by omega)]; simp
   obtain ⟨y0, y1⟩ := HB.out _ hin
   clear hin
   have hnx := state_next n0 xs hlt
   rw [← HI.out] at hnx
   obtain ⟨y, hy⟩ := Int.eq_ofNat_of_zero_le y0
   rw [hy] at hck hnx y1
   rw [Int.toNat_natCast] at hnx
   clear hy y0
   have hxor := u32_xor_nat m y hm (by omega)
   have hms : m ^^^ y < 4294967296 := Nat.xor_lt_two_pow (n := 32) hm (by omega)
   generalize m ^^^ y = z at hnx hxor hms
   have HN := hid hnx; clear hnx HI
   have hz := it_lt 8 hms
   go_wp2_with fail
   refine (shifted_any z hms _).mono ?_
   rintro e w1 ⟨rfl, rfl⟩
   go_wp2_with fail
   go_round
   case rel => exact ⟨k + 1, it 8 z, by omega, hz, by go_num, rfl, hid HN.out.symm⟩
   case measure => simp [intOf]; omega
  ·obtain rfl : k = xs.length := by omega
   have he : m = stateI n0 (toN xs) := by rw [HI.out, List.take_length]
   have hmx := max_xor m hm
   have HE := hid he
   clear he HI hm hm0
   go_wp2_with fail
   go_ret
   exact ⟨by rw [← HE.out]; rfl, rfl⟩
def Parts (w : World) (B : Nat) (v : Value) (xss : List (List Int)) : Prop :=
 ∃ us, VRow w B v us ∧ us.length = xss.length ∧ ∀ (i : Nat) (u : Value) (xs : List Int), us[i]? = some u → xss[i]? = some xs → Row w B u xs
theorem Parts.one {w : World} {B g : Nat} {u : Value} {xs : List Int} (hg : g < B) (hc : w.cell? ⟨g, 0, none⟩ = some u) (h : Row w B u xs) : Parts w B (.slice (some ⟨g, 0, none⟩) 1 1) [xs] :=
 ⟨[u], ⟨_, 1, rfl, Nat.le_refl _, by simp [maxLen], by simp, fun _ => ⟨g, 0, rfl, hg, fun i u' hi => by
  match i with
  | 0 => simp at hi; subst hi; exact hc
  | i + 1 => simp at hi⟩⟩, rfl, fun i u' ys h1 h2 => by
  match i with
  | 0 => simp at h1 h2; subst h1 h2; exact h
  | i + 1 => simp at h1⟩
theorem sumX_more (xs ys : List Int) : sumX (xs ++ ys) = 4294967295 ^^^ stateI (4294967295 ^^^ sumX xs) (toN ys) := by
 unfold sumX
 rw [toN_append, sum_more]
theorem sumX_lt {xs : List Int} (hb : ∀ x ∈ xs, 0 ≤ x ∧ x < 256) : sumX xs < 4294967296 := sum_lt (toN_byte hb)
theorem sumX_nil : sumX [] = 0 := by decide
theorem sum_any (v : Value) (xss : List (List Int)) (w : World) (h : Parts w w.heap.size v xss) (hb : ∀ xs ∈ xss, ∀ x ∈ xs, 0 ≤ x ∧ x < 256) :
  Calls Tryz.prog 125 #[v] w fun e w' => e = .returned (.int .u32 (sumX xss.flatten : Nat)) ∧ w = w' := by
 obtain ⟨us, ⟨A, c, rfl, hlc, hcm, _, hcells⟩, hul, hrow⟩ := h
 unfold maxLen at hcm
 have hsz : us.length ≤ 9223372036854775807 := by omega
 have HC := hid hcells; clear hcells
 have HB := hid hb; clear hb
 have HR := hid hrow; clear hrow
 have HU := hid hul; clear hul
 go_enter Tryz.func125, Tryz.ntmps125
 go_wp2
 go_loop [3, 8] (fun s i => ∃ k m : Nat, k ≤ us.length ∧ m < 4294967296 ∧ i = .int .i64 k ∧ s = .int .u32 m ∧ Hid (m = sumX (xss.take k).flatten)) (fun _ i => us.length - (intOf i).toNat)
 case atStart => exact ⟨0, 0, Nat.zero_le _, by omega, rfl, rfl, hid (by simp [sumX_nil])⟩
 case round =>
  obtain ⟨k, m, hk, hm, rfl, rfl, HI⟩ := hrel
  by_cases hlt : k < us.length
  ·obtain ⟨b, o, rfl, _, hc⟩ := HC.out (by omega)
   have hue : us[k]? = some us[k] := List.getElem?_eq_getElem hlt
   have hck := hc k _ hue
   clear hc
   have hlx : k < xss.length := by rw [← HU.out]; exact hlt
   have hxe : xss[k]? = some xss[k] := List.getElem?_eq_getElem hlx
   have hr := HR.out k _ _ hue hxe
   have hbx := HB.out xss[k] (List.getElem_mem hlx)
   have hnx : sumX (xss.take (k + 1)).flatten = 4294967295 ^^^ stateI (4294967295 ^^^ m) (toN xss[k]) := by
    rw [List.take_succ_eq_append_getElem hlx, List.flatten_append, HI.out, ← sumX_more]
    simp
   clear hue hxe
   generalize us[k] = u at *
   generalize xss[k] = xs at *
   obtain ⟨A2, c2, rfl, _⟩ := id hr
   have HM := hid (more_any m hm A2 c2 xs w hr hbx)
   have hlt2 : sumX (xss.take (k + 1)).flatten < 4294967296 := sumX_lt (fun x hx => by
    obtain ⟨ys, hys, hx⟩ := List.mem_flatten.1 hx
    exact HB.out ys (List.mem_of_mem_take hys) x hx)
   rw [← hnx] at HM
   clear hnx HI hr hbx
   obtain ⟨m2, HS⟩ : ∃ m2, Hid (m2 = sumX (xss.take (k + 1)).flatten) := ⟨_, hid rfl⟩
   rw [← HS.out] at HM hlt2
   go_wp2_with fail
   refine HM.out.mono ?_
   rintro e w1 ⟨rfl, rfl⟩
   go_wp2_with fail
   go_round
   case rel => exact ⟨k + 1, m2, by omega, hlt2, by go_num, rfl, hid HS.out⟩
   case measure => simp [intOf]; omega
  ·obtain rfl : k = us.length := by omega
   have he : m = sumX xss.flatten := by rw [HI.out, HU.out, List.take_length]
   have HE := hid he
   clear he HI
   go_wp2_with fail
   go_ret
   exact ⟨by rw [← HE.out]; rfl, rfl⟩
def le4 (n : Nat) : List Int := [(n : Int) % 256, (n : Int) / 256 % 256, (n : Int) / 65536 % 256, (n : Int) / 16777216]
theorem le4_byte {n : Nat} (hn : n < 4294967296) : ∀ x ∈ le4 n, 0 ≤ x ∧ x < 256 := by
 intro x hx
 simp only [le4, List.mem_cons, List.not_mem_nil, or_false] at hx
 rcases hx with rfl | rfl | rfl | rfl <;> omega
theorem le4_length (n : Nat) : (le4 n).length = 4 := rfl
def le4V (n : Nat) : Value := .agg #[.int .u8 ((n : Int) % 256), .int .u8 ((n : Int) / 256 % 256), .int .u8 ((n : Int) / 65536 % 256), .int .u8 ((n : Int) / 16777216)]
theorem four_any (n : Nat) (hn : n < 4294967296) (w : World) :
  Calls Tryz.prog 124 #[.int .u32 n] w fun e w' => e = .returned (le4V n) ∧ Below w.heap.size w w' := by
 go_enter Tryz.func124, Tryz.ntmps124
 go_wp2
 exact bodyPost_ret (v := le4V n) (by simp [results, Tryz.results124, go_sem, le4V]) rfl ⟨rfl, (Below.refl _ _).alloc (Nat.le_refl _) _⟩
def markL : List Int := [199, 84, 71, 1]
def markI : List Int → List Int → Int
 | [], _ => 0
 | _ :: _, [] => 2
 | m :: ms, x :: xs => if x = m then markI ms xs else 4
def bodyL (k : Int) (p : List Int) : List Int := k :: encT p
def encFr (k : Int) (p : List Int) : List Int := markL ++ (bodyL k p ++ le4 (sumX (bodyL k p)))
def noFr (e : Int) : (Int × List Int) × Nat × Int := ((0, []), 0, e)
def getBody (k : Int) (ys : List Int) : (Int × List Int) × Nat × Int :=
 if (getI ys).2.2 ≠ 0 then noFr (getI ys).2.2
 else if 4096 < (getI ys).1 then noFr 6
 else if ys.length < (getI ys).2.1 + (getI ys).1.toNat + 4 then noFr 2
 else if (ys.drop ((getI ys).2.1 + (getI ys).1.toNat)).take 4 ≠ le4 (sumX (k :: ys.take ((getI ys).2.1 + (getI ys).1.toNat))) then noFr 5
 else ((k, (ys.drop (getI ys).2.1).take (getI ys).1.toNat), 9 + (getI ys).2.1 + (getI ys).1.toNat, 0)
def getFr (xs : List Int) : (Int × List Int) × Nat × Int :=
 if markI markL xs ≠ 0 then noFr (markI markL xs)
 else match xs.drop 4 with
  | [] => noFr 2
  | k :: ys => if k = 1 ∨ k = 2 then getBody k ys else noFr 4
theorem markI_mark (rest : List Int) : markI markL (markL ++ rest) = 0 := by simp [markI, markL]
theorem markI_back {xs : List Int} (h : markI markL xs = 0) : xs = markL ++ xs.drop 4 := by
 match xs with
 | [] => simp [markI, markL] at h
 | [a] =>
  simp only [markI, markL] at h
  split at h <;> simp at h
 | [a, b] =>
  simp only [markI, markL] at h
  split at h
  ·split at h <;> simp at h
  ·simp at h
 | [a, b, c] =>
  simp only [markI, markL] at h
  split at h
  ·split at h
   ·split at h <;> simp at h
   ·simp at h
  ·simp at h
 | a :: b :: c :: d :: r =>
  simp only [markI, markL] at h
  split at h
  ·split at h
   ·split at h
    ·split at h
     ·subst_vars; rfl
     ·simp at h
    ·simp at h
   ·simp at h
  ·simp at h
theorem markI_vals : ∀ (ms xs : List Int), markI ms xs = 0 ∨ markI ms xs = 2 ∨ markI ms xs = 4
 | [], _ => by simp [markI]
 | _ :: _, [] => by simp [markI]
 | m :: ms, x :: xs => by
  simp only [markI]
  split
  ·exact markI_vals ms xs
  ·simp
theorem getFr_mark (rest : List Int) : getFr (markL ++ rest) = match rest with | [] => noFr 2 | k :: ys => if k = 1 ∨ k = 2 then getBody k ys else noFr 4 := by
 unfold getFr
 rw [if_neg (by rw [markI_mark]; simp), show (markL ++ rest).drop 4 = rest by simp [markL]]
theorem getBody_err {k er : Int} {ys : List Int} (h : (getI ys).2.2 = er) (hne : er ≠ 0) : getBody k ys = noFr er := by
 unfold getBody
 rw [if_pos (by rw [h]; exact hne), h]
theorem getBody_limit {k : Int} {ys : List Int} {n s : Nat} (h : getI ys = ((n : Int), s, 0)) (hl : 4096 < n) : getBody k ys = noFr 6 := by
 unfold getBody
 rw [h, if_neg (by simp), if_pos (by simp only; omega)]
theorem getBody_short {k : Int} {ys : List Int} {n s : Nat} (h : getI ys = ((n : Int), s, 0)) (hl : n ≤ 4096) (hs : ys.length < s + n + 4) : getBody k ys = noFr 2 := by
 unfold getBody
 rw [h, if_neg (by simp), if_neg (by simp only; omega), if_pos (by simp only [Int.toNat_natCast]; exact hs)]
theorem getBody_sum {k : Int} {ys : List Int} {n s : Nat} (h : getI ys = ((n : Int), s, 0)) (hl : n ≤ 4096) (hs : ¬ ys.length < s + n + 4) (hne : (ys.drop (s + n)).take 4 ≠ le4 (sumX (k :: ys.take (s + n)))) : getBody k ys = noFr 5 := by
 unfold getBody
 rw [h, if_neg (by simp), if_neg (by simp only; omega), if_neg (by simp only [Int.toNat_natCast]; exact hs), if_pos (by simp only [Int.toNat_natCast]; exact hne)]
theorem getBody_ok {k : Int} {ys : List Int} {n s : Nat} (h : getI ys = ((n : Int), s, 0)) (hl : n ≤ 4096) (hs : ¬ ys.length < s + n + 4) (he : (ys.drop (s + n)).take 4 = le4 (sumX (k :: ys.take (s + n)))) : getBody k ys = ((k, (ys.drop s).take n), 9 + s + n, 0) := by
 unfold getBody
 rw [h, if_neg (by simp), if_neg (by simp only; omega), if_neg (by simp only [Int.toNat_natCast]; exact hs), if_neg (by simp only [Int.toNat_natCast]; exact fun hn => hn he)]
 simp only [Int.toNat_natCast]
theorem encFr_length (k : Int) (p : List Int) : (encFr k p).length = 9 + (encI p.length).length + p.length := by
 simp only [encFr, markL, bodyL, encT, le4, List.length_append, List.length_cons, List.length_nil]
 omega
theorem getFr_parts {k : Int} {p s4 : List Int} (hk : k = 1 ∨ k = 2) (hp : p.length ≤ 4096) (hs : s4.length = 4) (rest : List Int) :
  getFr (markL ++ (bodyL k p ++ (s4 ++ rest))) = if s4 = le4 (sumX (bodyL k p)) then ((k, p), 9 + (encI p.length).length + p.length, 0) else noFr 5 := by
 rw [getFr_mark]
 have hg : getI (encT p ++ (s4 ++ rest)) = ((p.length : Int), (encI p.length).length, 0) := by
  rw [encT, List.append_assoc]
  exact getI_enc (by omega) _
 have hlen : (encT p ++ (s4 ++ rest)).length = (encI p.length).length + p.length + 4 + rest.length := by
  simp only [encT, List.length_append]; omega
 have hdrop : (encT p ++ (s4 ++ rest)).drop ((encI p.length).length + p.length) = s4 ++ rest := by
  rw [← encT_length, List.drop_left]
 have htake : (encT p ++ (s4 ++ rest)).take ((encI p.length).length + p.length) = encT p := by
  rw [← encT_length, List.take_left]
 have h4 : (s4 ++ rest).take 4 = s4 := by rw [← hs, List.take_left]
 by_cases he : s4 = le4 (sumX (bodyL k p))
 ·rw [if_pos he]
  simp only [bodyL, List.cons_append] at he ⊢
  rw [if_pos hk, getBody_ok hg hp (by omega) (by rw [hdrop, htake, h4]; exact he)]
  congr 2
  rw [encT, List.append_assoc, List.drop_left, List.take_left]
 ·rw [if_neg he]
  simp only [bodyL, List.cons_append] at he ⊢
  rw [if_pos hk, getBody_sum hg hp (by omega) (by rw [hdrop, htake, h4]; exact he)]
theorem getFr_enc {k : Int} {p : List Int} (hk : k = 1 ∨ k = 2) (hp : p.length ≤ 4096) (rest : List Int) : getFr (encFr k p ++ rest) = ((k, p), (encFr k p).length, 0) := by
 rw [encFr_length, encFr, List.append_assoc, List.append_assoc, getFr_parts hk hp rfl, if_pos rfl]
theorem getFr_back (xs : List Int) (hb : ∀ x ∈ xs, 0 ≤ x ∧ x < 256) (h : (getFr xs).2.2 = 0) :
  ((getFr xs).1.1 = 1 ∨ (getFr xs).1.1 = 2) ∧ (getFr xs).1.2.length ≤ 4096 ∧ (getFr xs).2.1 ≤ xs.length ∧ encFr (getFr xs).1.1 (getFr xs).1.2 = xs.take (getFr xs).2.1 ∧ (∀ x ∈ (getFr xs).1.2, 0 ≤ x ∧ x < 256) := by
 by_cases hm : markI markL xs = 0
 ·have hx := markI_back hm
  have hb2 : ∀ x ∈ xs.drop 4, 0 ≤ x ∧ x < 256 := fun x hx => hb x (List.mem_of_mem_drop hx)
  generalize xs.drop 4 = r at hx hb2
  subst hx
  rw [getFr_mark] at h ⊢
  cases r with
  | nil => simp [noFr] at h
  | cons k ys =>
   simp only at h ⊢
   by_cases hk : k = 1 ∨ k = 2
   ·rw [if_pos hk] at h ⊢
    have hby : ∀ x ∈ ys, 0 ≤ x ∧ x < 256 := fun x hx => hb2 x (by simp [hx])
    by_cases he : (getI ys).2.2 = 0
    ·obtain ⟨n, s, hg, h1, h2, h3, h4, h5⟩ := getI_ok ys hby he
     by_cases hl : 4096 < n
     ·rw [getBody_limit hg hl] at h; simp [noFr] at h
     ·by_cases hs : ys.length < s + n + 4
      ·rw [getBody_short hg (by omega) hs] at h; simp [noFr] at h
      ·by_cases hq : (ys.drop (s + n)).take 4 = le4 (sumX (k :: ys.take (s + n)))
       ·rw [getBody_ok hg (by omega) hs hq]
        have hlen : ((ys.drop s).take n).length = n := by simp; omega
        have henc : encT ((ys.drop s).take n) = ys.take (s + n) := by rw [encT, hlen, h4, ← List.take_add]
        refine ⟨hk, by simp only; omega, by simp [markL]; omega, ?_, fun x hx => hby x (List.mem_of_mem_drop (List.mem_of_mem_take hx))⟩
        have e3 : ys.take (s + n + 4) = ys.take (s + n) ++ (ys.drop (s + n)).take 4 := List.take_add
        simp only [encFr, bodyL, henc]
        rw [← hq, show 9 + s + n = 4 + (s + n + 4 + 1) by omega, show 4 = markL.length from rfl, List.take_length_add_append, List.take_succ_cons, show markL.length = 4 from rfl, e3, List.cons_append]
       ·rw [getBody_sum hg (by omega) hs hq] at h; simp [noFr] at h
    ·rw [getBody_err rfl he] at h; simp [noFr] at h; exact absurd h he
   ·rw [if_neg hk] at h; simp [noFr] at h
 ·unfold getFr at h
  rw [if_pos hm] at h
  exact absurd h hm
theorem lenI_longer (ys : List Int) : ∀ (xs : List Int) (i : Nat), (lenI i xs).2 ≠ 2 → lenI i (xs ++ ys) = lenI i xs
 | [], i => by
  intro h
  by_cases hi : i < 10
  ·simp only [lenI, if_pos hi] at h
   exact absurd rfl h
  ·cases ys with
   | nil => rfl
   | cons y r => simp only [List.nil_append, lenI, if_neg hi, if_pos (show 10 ≤ i by omega)]
 | x :: r, i => by
  intro h
  simp only [List.cons_append, lenI] at h ⊢
  by_cases hi : 10 ≤ i
  ·simp only [if_pos hi]
  ·by_cases hx : x < 128
   ·simp only [if_neg hi, if_pos hx]
   ·simp only [if_neg hi, if_neg hx] at h ⊢
    exact lenI_longer ys r (i + 1) h
theorem getI_longer (xs ys : List Int) (hb : ∀ x ∈ xs, 0 ≤ x ∧ x < 256) (h : (getI xs).2.2 ≠ 2) : getI (xs ++ ys) = getI xs := by
 have h2 : (lenI 0 xs).2 ≠ 2 := by
  intro h2
  apply h
  unfold getI
  rw [if_neg (by rw [h2]; simp)]
  exact h2
 have e := lenI_longer ys xs 0 h2
 unfold getI
 rw [e]
 by_cases h0 : (lenI 0 xs).2 = 0
 ·have hl := (getI_back xs hb h0).2.1
  rw [if_pos h0, if_pos h0, List.take_append_of_le_length hl]
 ·rw [if_neg h0, if_neg h0]
theorem getBody_longer (k : Int) (xs ys : List Int) (hb : ∀ x ∈ xs, 0 ≤ x ∧ x < 256) (h : (getBody k xs).2.2 ≠ 2) : getBody k (xs ++ ys) = getBody k xs := by
 by_cases he : (getI xs).2.2 = 0
 ·obtain ⟨n, s, hg, h1, h2, h3, h4, h5⟩ := getI_ok xs hb he
  have hg2 : getI (xs ++ ys) = ((n : Int), s, 0) := by rw [getI_longer xs ys hb (by rw [he]; simp), hg]
  by_cases hl : 4096 < n
  ·rw [getBody_limit hg hl, getBody_limit hg2 hl]
  ·by_cases hs : xs.length < s + n + 4
   ·rw [getBody_short hg (by omega) hs] at h
    exact absurd rfl h
   ·have hs2 : ¬ (xs ++ ys).length < s + n + 4 := by rw [List.length_append]; omega
    have e1 : ((xs ++ ys).drop (s + n)).take 4 = (xs.drop (s + n)).take 4 := by
     rw [List.drop_append_of_le_length (by omega), List.take_append_of_le_length (by rw [List.length_drop]; omega)]
    have e2 : (xs ++ ys).take (s + n) = xs.take (s + n) := List.take_append_of_le_length (by omega)
    have e3 : ((xs ++ ys).drop s).take n = (xs.drop s).take n := by
     rw [List.drop_append_of_le_length (by omega), List.take_append_of_le_length (by rw [List.length_drop]; omega)]
    by_cases hq : (xs.drop (s + n)).take 4 = le4 (sumX (k :: xs.take (s + n)))
    ·rw [getBody_ok hg (by omega) hs hq, getBody_ok hg2 (by omega) hs2 (by rw [e1, e2]; exact hq), e3]
    ·rw [getBody_sum hg (by omega) hs hq, getBody_sum hg2 (by omega) hs2 (by rw [e1, e2]; exact hq)]
 ·have h2 : (getI xs).2.2 ≠ 2 := by
   intro h2
   rw [getBody_err h2 (by simp)] at h
   exact absurd rfl h
  rw [getBody_err rfl he, getBody_err (er := (getI xs).2.2) (by rw [getI_longer xs ys hb h2]) he]
theorem markI_longer (ys : List Int) : ∀ (ms xs : List Int), markI ms xs ≠ 2 → markI ms (xs ++ ys) = markI ms xs
 | [], _ => by intro _; simp only [markI]
 | _ :: _, [] => by intro h; exact absurd rfl h
 | m :: ms, x :: xs => by
  intro h
  simp only [List.cons_append, markI] at h ⊢
  by_cases hx : x = m
  ·simp only [if_pos hx] at h ⊢
   exact markI_longer ys ms xs h
  ·simp only [if_neg hx]
theorem getFr_longer (xs ys : List Int) (hb : ∀ x ∈ xs, 0 ≤ x ∧ x < 256) (h : (getFr xs).2.2 ≠ 2) : getFr (xs ++ ys) = getFr xs := by
 by_cases hm : markI markL xs = 0
 ·have hx := markI_back hm
  have hb2 : ∀ x ∈ xs.drop 4, 0 ≤ x ∧ x < 256 := fun x hx => hb x (List.mem_of_mem_drop hx)
  generalize xs.drop 4 = r at hx hb2
  subst hx
  rw [List.append_assoc, getFr_mark, getFr_mark]
  rw [getFr_mark] at h
  cases r with
  | nil => exact absurd rfl h
  | cons k zs =>
   simp only [List.cons_append] at h ⊢
   by_cases hk : k = 1 ∨ k = 2
   ·simp only [if_pos hk] at h ⊢
    exact getBody_longer k zs ys (fun x hx => hb2 x (by simp [hx])) h
   ·simp only [if_neg hk]
 ·have h2 : markI markL xs ≠ 2 := by
   intro h2
   unfold getFr at h
   rw [if_pos hm] at h
   exact h h2
  have e := markI_longer ys markL xs h2
  unfold getFr
  rw [e, if_pos hm, if_pos hm]
theorem drop_longer {b : List Int} {at_ : Nat} (behind : List Int) (ha : at_ ≤ b.length) (hb : ∀ x ∈ b, 0 ≤ x ∧ x < 256) (h : (getFr (b.drop at_)).2.2 ≠ 2) : getFr ((b ++ behind).drop at_) = getFr (b.drop at_) := by
 rw [List.drop_append_of_le_length ha]
 exact getFr_longer _ _ (fun x hx => hb x (List.mem_of_mem_drop hx)) h
def begI (opn : Bool) (xs : List Int) (a : Nat) : Bool := (getFr (xs.drop a)).2.2 == 0 || (opn && (getFr (xs.drop a)).2.2 == 2)
def firstI (q : Nat → Bool) : Nat → Nat → Int
 | 0, _ => -1
 | n + 1, a => if q a then (a : Int) else firstI q n (a + 1)
def nextI (opn : Bool) (xs : List Int) (frm : Int) : Int := firstI (begI opn xs) (xs.length - frm.toNat) frm.toNat
theorem first_found {q : Nat → Bool} : ∀ (n a r : Nat), a ≤ r → r < a + n → (∀ j, a ≤ j → j < r → q j = false) → q r = true → firstI q n a = (r : Int)
 | 0, a, r, h1, h2, _, _ => by omega
 | n + 1, a, r, h1, h2, hn, hr => by
  simp only [firstI]
  by_cases e : a = r
  ·subst e
   rw [if_pos hr]
  ·rw [if_neg (by rw [hn a (Nat.le_refl _) (by omega)]; simp)]
   exact first_found n (a + 1) r (by omega) (by omega) (fun j hj hj2 => hn j (by omega) hj2) hr
theorem first_none {q : Nat → Bool} : ∀ (n a : Nat), (∀ j, a ≤ j → j < a + n → q j = false) → firstI q n a = -1
 | 0, _, _ => rfl
 | n + 1, a, hn => by
  simp only [firstI]
  rw [if_neg (by rw [hn a (Nat.le_refl _) (by omega)]; simp)]
  exact first_none n (a + 1) (fun j hj hj2 => hn j (by omega) (by omega))
theorem first_cases (q : Nat → Bool) : ∀ (n a : Nat), (firstI q n a = -1 ∧ ∀ j, a ≤ j → j < a + n → q j = false) ∨ ∃ r : Nat, firstI q n a = (r : Int) ∧ a ≤ r ∧ r < a + n ∧ q r = true ∧ ∀ j, a ≤ j → j < r → q j = false
 | 0, a => Or.inl ⟨rfl, fun j h1 h2 => by omega⟩
 | n + 1, a => by
  by_cases h : q a = true
  ·exact Or.inr ⟨a, by simp only [firstI, if_pos h], Nat.le_refl _, by omega, h, fun j h1 h2 => by omega⟩
  ·have hf : q a = false := by simpa using h
   rcases first_cases q n (a + 1) with ⟨e, hn⟩ | ⟨r, e, h1, h2, h3, h4⟩
   ·refine Or.inl ⟨by simp only [firstI, if_neg h]; exact e, fun j h1 h2 => ?_⟩
    by_cases ej : j = a
    ·rw [ej]; exact hf
    ·exact hn j (by omega) (by omega)
   ·refine Or.inr ⟨r, by simp only [firstI, if_neg h]; exact e, by omega, by omega, h3, fun j h5 h6 => ?_⟩
    by_cases ej : j = a
    ·rw [ej]; exact hf
    ·exact h4 j (by omega) h6
def Fit (f : Int × List Int) : Prop := (f.1 = 1 ∨ f.1 = 2) ∧ f.2.length ≤ 4096
def catFr : List (Int × List Int) → List Int
 | [] => []
 | f :: r => encFr f.1 f.2 ++ catFr r
theorem encFr_pos (k : Int) (p : List Int) : 9 ≤ (encFr k p).length := by rw [encFr_length]; omega
structure Sg where
 frm : Nat
 n : Nat
 isf : Bool
 kind : Int
 pay : List Int
deriving DecidableEq
def skipS (a r : Nat) : Sg := ⟨a, r - a, false, 0, []⟩
def frS (xs : List Int) (a : Nat) : Sg := ⟨a, (getFr (xs.drop a)).2.1, true, (getFr (xs.drop a)).1.1, (getFr (xs.drop a)).1.2⟩
def Begins (xs : List Int) (a : Nat) : Prop := (getFr (xs.drop a)).2.2 = 0
inductive PartsS (xs : List Int) : Nat → List Sg → Prop
 | stop (a : Nat) (h : xs.length ≤ a) : PartsS xs a []
 | rest (a : Nat) (h : a < xs.length) (hn : ∀ j, a ≤ j → j < xs.length → ¬ Begins xs j) : PartsS xs a [skipS a xs.length]
 | fr (a : Nat) (l : List Sg) (h : a < xs.length) (hb : Begins xs a) (hl : PartsS xs (a + (getFr (xs.drop a)).2.1) l) : PartsS xs a (frS xs a :: l)
 | gap (a r : Nat) (l : List Sg) (ha : a < r) (h : r < xs.length) (hn : ∀ j, a ≤ j → j < r → ¬ Begins xs j) (hb : Begins xs r) (hl : PartsS xs (r + (getFr (xs.drop r)).2.1) l) : PartsS xs a (skipS a r :: frS xs r :: l)
theorem begins_in {xs : List Int} {a : Nat} (hx : ∀ x ∈ xs, 0 ≤ x ∧ x < 256) (hb : Begins xs a) :
  9 ≤ (getFr (xs.drop a)).2.1 ∧ a + (getFr (xs.drop a)).2.1 ≤ xs.length ∧ ((getFr (xs.drop a)).1.1 = 1 ∨ (getFr (xs.drop a)).1.1 = 2) ∧ (getFr (xs.drop a)).1.2.length ≤ 4096 ∧
  (∀ x ∈ (getFr (xs.drop a)).1.2, 0 ≤ x ∧ x < 256) ∧ (xs.drop a).take (getFr (xs.drop a)).2.1 = encFr (getFr (xs.drop a)).1.1 (getFr (xs.drop a)).1.2 := by
 obtain ⟨h1, h2, h3, h4, h5⟩ := getFr_back (xs.drop a) (fun x h => hx x (List.mem_of_mem_drop h)) hb
 have e1 : ((xs.drop a).take (getFr (xs.drop a)).2.1).length = (getFr (xs.drop a)).2.1 := by rw [List.length_take]; omega
 have e2 := encFr_pos (getFr (xs.drop a)).1.1 (getFr (xs.drop a)).1.2
 rw [h4, e1] at e2
 rw [List.length_drop] at h3
 exact ⟨e2, by omega, h1, h2, h5, h4.symm⟩
theorem next_some {xs : List Int} {a r : Nat} (h : nextI false xs a = (r : Int)) : a ≤ r ∧ r < xs.length ∧ Begins xs r ∧ ∀ j, a ≤ j → j < r → ¬ Begins xs j := by
 rcases first_cases (begI false xs) (xs.length - (a : Int).toNat) (a : Int).toNat with ⟨e, _⟩ | ⟨q, e, h1, h2, h3, h4⟩
 ·unfold nextI at h
  omega
 ·unfold nextI at h
  obtain rfl : q = r := by omega
  rw [Int.toNat_natCast] at h1 h2 h4
  refine ⟨h1, by omega, by simpa [begI, Begins] using h3, fun j hj hj2 => ?_⟩
  have := h4 j hj hj2
  simpa [begI, Begins] using this
theorem next_no {xs : List Int} {a : Nat} (h : nextI false xs a < 0) : ∀ j, a ≤ j → j < xs.length → ¬ Begins xs j := by
 rcases first_cases (begI false xs) (xs.length - (a : Int).toNat) (a : Int).toNat with ⟨_, hn⟩ | ⟨q, e, _⟩
 ·rw [Int.toNat_natCast] at hn
  intro j hj hj2
  have := hn j hj (by omega)
  simpa [begI, Begins] using this
 ·unfold nextI at h
  omega
theorem next_ways (xs : List Int) (a : Nat) : nextI false xs a = -1 ∨ ∃ r : Nat, nextI false xs a = (r : Int) := by
 rcases first_cases (begI false xs) (xs.length - (a : Int).toNat) (a : Int).toNat with ⟨e, _⟩ | ⟨q, e, _⟩
 ·exact .inl e
 ·exact .inr ⟨q, e⟩
theorem PartsS.same {xs : List Int} {a : Nat} {l l' : List Sg} (h : PartsS xs a l) (h' : PartsS xs a l') : l = l' := by
 induction h generalizing l' with
 | stop a h =>
  cases h' with
  | stop _ _ => rfl
  | rest _ h2 _ => omega
  | fr _ _ h2 _ _ => omega
  | gap _ r _ h2 h3 _ _ _ => omega
 | rest a h hn =>
  cases h' with
  | stop _ h2 => omega
  | rest _ _ _ => rfl
  | fr _ _ _ hb _ => exact absurd hb (hn _ (Nat.le_refl _) h)
  | gap _ r _ h2 h3 _ hb _ => exact absurd hb (hn r (by omega) h3)
 | fr a l h hb _ ih =>
  cases h' with
  | stop _ h2 => omega
  | rest _ _ hn => exact absurd hb (hn _ (Nat.le_refl _) h)
  | fr _ _ _ _ hl => rw [ih hl]
  | gap _ r _ h2 _ hn _ _ => exact absurd hb (hn _ (Nat.le_refl _) h2)
 | gap a r l ha h hn hb _ ih =>
  cases h' with
  | stop _ h2 => omega
  | rest _ _ hn2 => exact absurd hb (hn2 r (by omega) h)
  | fr _ _ _ hb2 _ => exact absurd hb2 (hn _ (Nat.le_refl _) ha)
  | gap _ r2 _ h2 _ hn2 hb2 hl =>
   have e : r = r2 := by
    rcases Nat.lt_trichotomy r r2 with h3 | h3 | h3
    ·exact absurd hb (hn2 r (by omega) h3)
    ·exact h3
    ·exact absurd hb2 (hn r2 (by omega) h3)
   subst e
   rw [ih hl]
def Ahead (xs : List Int) (pre : List Sg) (a : Nat) : Prop := ∀ l, PartsS xs a l → PartsS xs 0 (pre ++ l)
theorem Ahead.start (xs : List Int) : Ahead xs [] 0 := fun _ h => h
theorem Ahead.done {xs : List Int} {pre : List Sg} {a : Nat} (h : Ahead xs pre a) (ha : xs.length ≤ a) : PartsS xs 0 pre := by
 have := h [] (.stop a ha)
 rwa [List.append_nil] at this
theorem Ahead.last {xs : List Int} {pre : List Sg} {a : Nat} (h : Ahead xs pre a) (ha : a < xs.length) (hn : ∀ j, a ≤ j → j < xs.length → ¬ Begins xs j) : PartsS xs 0 (pre ++ [skipS a xs.length]) :=
 h _ (.rest a ha hn)
theorem Ahead.fr {xs : List Int} {pre : List Sg} {a : Nat} (h : Ahead xs pre a) (ha : a < xs.length) (hb : Begins xs a) : Ahead xs (pre ++ [frS xs a]) (a + (getFr (xs.drop a)).2.1) := fun l hl => by
 have := h _ (.fr a l ha hb hl)
 simpa using this
theorem Ahead.gap {xs : List Int} {pre : List Sg} {a r : Nat} (h : Ahead xs pre a) (ha : a < r) (hr : r < xs.length) (hn : ∀ j, a ≤ j → j < r → ¬ Begins xs j) (hb : Begins xs r) : Ahead xs ((pre ++ [skipS a r]) ++ [frS xs r]) (r + (getFr (xs.drop r)).2.1) := fun l hl => by
 have := h _ (.gap a r l ha hr hn hb hl)
 simpa using this
def Tiled (xs : List Int) : Nat → Bool → List Sg → Prop
 | a, _, [] => a = xs.length
 | a, sk, s :: l => s.frm = a ∧ 1 ≤ s.n ∧ a + s.n ≤ xs.length ∧ (sk = true → s.isf = true) ∧
   (s.isf = true → (s.kind = 1 ∨ s.kind = 2) ∧ s.pay.length ≤ 4096 ∧ (∀ x ∈ s.pay, 0 ≤ x ∧ x < 256) ∧ (xs.drop a).take s.n = encFr s.kind s.pay) ∧
   (s.isf = false → ∀ j, a ≤ j → j < a + s.n → ¬ Begins xs j) ∧ Tiled xs (a + s.n) (!s.isf) l
theorem tiled_fr {xs : List Int} {a : Nat} {l : List Sg} (hx : ∀ x ∈ xs, 0 ≤ x ∧ x < 256) (hb : Begins xs a) (h : Tiled xs (a + (getFr (xs.drop a)).2.1) false l) (sk : Bool) : Tiled xs a sk (frS xs a :: l) := by
 obtain ⟨h1, h2, h3, h4, h5, h6⟩ := begins_in hx hb
 exact ⟨rfl, by simp only [frS]; omega, by simp only [frS]; omega, fun _ => rfl, fun _ => ⟨h3, h4, h5, h6⟩, fun e => by simp [frS] at e, h⟩
theorem PartsS.tiled {xs : List Int} (hx : ∀ x ∈ xs, 0 ≤ x ∧ x < 256) {a : Nat} {l : List Sg} (h : PartsS xs a l) : a ≤ xs.length → Tiled xs a false l := by
 induction h with
 | stop a h => intro ha; exact Nat.le_antisymm ha h
 | rest a h hn =>
  intro _
  refine ⟨rfl, by simp only [skipS]; omega, by simp only [skipS]; omega, fun e => (by cases e), fun e => by simp [skipS] at e, fun _ j h1 h2 => ?_, ?_⟩
  ·simp only [skipS] at h2
   exact hn j h1 (by omega)
  ·simp only [skipS, Tiled]
   omega
 | fr a l h hb _ ih =>
  intro _
  have := begins_in hx hb
  exact tiled_fr hx hb (ih (by omega)) _
 | gap a r l ha h hn hb _ ih =>
  intro _
  have := begins_in hx hb
  refine ⟨rfl, by simp only [skipS]; omega, by simp only [skipS]; omega, fun e => (by cases e), fun e => by simp [skipS] at e, fun _ j h1 h2 => ?_, ?_⟩
  ·simp only [skipS] at h2
   exact hn j h1 (by omega)
  ·simp only [skipS]
   rw [show a + (r - a) = r by omega]
   exact tiled_fr hx hb (ih (by omega)) _
def skipN : List Sg → Nat
 | [] => 0
 | s :: l => (if s.isf then 0 else s.n) + skipN l
def framesS (l : List Sg) : List Sg := l.filter (·.isf)
theorem Tiled.le {xs : List Int} : ∀ (l : List Sg) (a : Nat) (sk : Bool), Tiled xs a sk l → l.length + a ≤ xs.length ∧ skipN l + a ≤ xs.length ∧ ∀ s ∈ l, a ≤ s.frm ∧ 1 ≤ s.n ∧ s.frm + s.n ≤ xs.length
 | [], a, _, h => by
  have h' : a = xs.length := h
  simp [skipN, h']
 | s :: l, a, sk, h => by
  obtain ⟨h1, h2, h3, _, _, _, h7⟩ := h
  obtain ⟨i1, i2, i3⟩ := Tiled.le l (a + s.n) _ h7
  refine ⟨by simp only [List.length_cons]; omega, by simp only [skipN]; split <;> omega, fun x hx => ?_⟩
  rcases List.mem_cons.1 hx with rfl | hx
  ·omega
  ·have := i3 x hx
   omega
theorem PartsS.le {xs : List Int} {l : List Sg} (hx : ∀ x ∈ xs, 0 ≤ x ∧ x < 256) (h : PartsS xs 0 l) : l.length ≤ xs.length ∧ skipN l ≤ xs.length ∧ ∀ s ∈ l, 1 ≤ s.n ∧ s.frm + s.n ≤ xs.length := by
 obtain ⟨h1, h2, h3⟩ := Tiled.le l 0 _ (h.tiled hx (Nat.zero_le _))
 exact ⟨by omega, by omega, fun s hs => (h3 s hs).2⟩
def frameS (l : List Pr) : List Int × Int := if checkP l = 0 then (encFr 1 (encS l), 0) else ([], checkP l)
def frameB (sig : List Pr) (l : List Pm) : List Int × Int := if (putB sig l).2 = 0 then (encFr 2 (putB sig l).1, 0) else ([], (putB sig l).2)
def frB (sig : List Pr) (b : List Pm) : List Int := (frameB sig b).1
section
variable {sig : List Pr} {l : List Pm} {q : Pm} {most : Int} {L : List (List Pm)} {b : List Pm}
theorem frB_length (sig : List Pr) (b : List Pm) : (frB sig b).length ≤ 4200 := by
 unfold frB frameB
 by_cases h : (putB sig b).2 = 0
 ·rw [if_pos h, encFr_length]
  obtain ⟨_, h2, h3⟩ := putB_ok h
  rw [h3]
  have := (encI_ten (n := (payB b).length) (by omega)).2
  dsimp only
  omega
 ·rw [if_neg h]; simp
theorem frameS_length (sig : List Pr) : (frameS sig).1.length ≤ 4200 := by
 unfold frameS
 by_cases h : checkP sig = 0
 ·rw [if_pos h, encFr_length]
  have h2 := (encS_le h).2
  have := (encI_ten (n := (encS sig).length) (by omega)).2
  omega
 ·rw [if_neg h]; simp
end
def NotT (w : World) (r : Option Nat) (e : TypeId) : Prop := ∀ j c f, r = some j → w.heap[j]? ≠ some (.cells c e f)
section
variable {w w' : World} {r : Option Nat} {e f : TypeId} {n m k j sz st : Nat} {u v : Value} {us vs : List Value}
theorem NotT.of_held {cs : Array Value} {g : Nat} (h : Held w g f cs) (hne : f ≠ e) : NotT w (some g) e := by
 rintro j c z hj hh
 injection hj with hj
 subst hj
 rw [show w.heap[g]? = _ from h] at hh
 injection hh with hh
 injection hh with _ h2 _
 exact hne h2
theorem NotT.of_own (h : w.ownsRow m f sz v k us) (hne : f ≠ e) : NotT w v.ownBlock e := by
 rintro j c z hj hh
 rcases h.2 with ⟨rfl, _⟩ | ⟨g, cap, cur, rfl, _, hg, _⟩
 ·simp [Value.ownBlock] at hj
 ·obtain rfl : g = j := by simpa [Value.ownBlock] using hj
  rw [hg] at hh
  injection hh with hh
  injection hh with _ h2 _
  exact hne h2
theorem NotT.ne (hn : NotT w r e) (h : w.ownsRow n e sz u k us) : u.ownBlock = none ∨ u.ownBlock ≠ r := by
 rcases h.2 with ⟨rfl, _⟩ | ⟨g, cap, cur, rfl, _, hg, _⟩
 ·exact .inl rfl
 ·exact .inr fun h2 => hn g cur (0, 0) h2.symm hg
theorem own_nott (h : w.ownsRow n e sz u k us) (hn : NotT w r e) (hg : w.grownBy w' r) : w'.ownsRow n e sz u k us := h.kept hg (hn.ne h)
theorem OwnE.nott {es : List Em} (h : OwnE w n u es) (h1 : NotT w r 135) (h2 : NotT w r 91) (hg : w.grownBy w' r) : OwnE w' n u es :=
 ⟨own_nott h.1 h2 hg, fun d hd => ⟨own_nott (h.2 d hd).1 h1 hg, (h.2 d hd).2⟩⟩
theorem OwnT.nott {ps : List Pm} (h : OwnT w n u ps) (h1 : NotT w r 135) (h2 : NotT w r 91) (h3 : u.ownBlock = none ∨ u.ownBlock ≠ r) (hg : w.grownBy w' r) : OwnT w' n u ps :=
 ⟨h.1.kept hg h3, fun d hd => ⟨(h.2 d hd).1.nott h1 h2 hg, (h.2 d hd).2⟩⟩
theorem OwnK.nott {bs : List Bk} (h : OwnK w n v bs) (h1 : NotT w r 135) (h2 : NotT w r 91) (h3 : NotT w r 25) (h4 : ∀ b ∈ bs, b.val.ownBlock = none ∨ b.val.ownBlock ≠ r) (hg : w.grownBy w' r) : OwnK w' n v bs :=
 ⟨own_nott h.1 h3 hg, fun b hb => (h.2 b hb).nott h1 h2 (h4 b hb) hg⟩
theorem tne1 : 55 ≠ 135 := by decide
theorem tne2 : 55 ≠ 91 := by decide
theorem tne7 : 202 ≠ 135 := by decide
theorem tne8 : 202 ≠ 91 := by decide
theorem tne9 : 202 ≠ 55 := by decide
theorem tne10 : 202 ≠ 25 := by decide
theorem OwnT.joined {ps qs : List Pm} {v' : Value} (h : OwnT w n v ps) (q : OwnT w m u qs) (hm : n ≤ m) (ho : w'.ownsRow n 55 2 v' (ps ++ qs).length (flatN (ps ++ qs))) (hg : w.grownBy w' v.ownBlock) : OwnT w' n v' (ps ++ qs) := by
 have n1 := NotT.of_own h.1 tne1
 have n2 := NotT.of_own h.1 tne2
 refine ⟨ho, fun d hd => ?_⟩
 rcases List.mem_append.1 hd with hd | hd
 ·exact ⟨(h.2 d hd).1.nott n1 n2 hg, (h.2 d hd).2⟩
 ·exact ⟨((q.2 d hd).1.base hm).nott n1 n2 hg, (q.2 d hd).2⟩
theorem PartN.of_grown {S : Nat → Prop} (h : w.grownBy w' r) (hr : ∀ j, r = some j → S j) : PartN S w w' := ⟨h.os, h.tape, h.output, h.size, fun i hi hn => h.block i hi (fun e => hn (hr i e.symm))⟩
theorem PartN.more {S T : Nat → Prop} (h : PartN S w w') (hs : ∀ j, S j → T j) : PartN T w w' := ⟨h.os, h.tape, h.output, h.size, fun i hi hn => h.block i hi (fun x => hn (hs i x))⟩
end
def ob : Option Addr → Option Nat
 | some a => some a.block
 | none => none
theorem ob_own (A : Option Addr) (n c : Nat) : (Value.slice A n c).ownBlock = ob A := by cases A <;> rfl
structure WAt (w : World) (n g : Nat) (A : Option Addr) (c : Nat) (ds : List Pd) (most : Int) (bg cl : Bool) (KA : Option Addr) (kc : Nat) (bs : List Bk) : Prop where
 held : Held w g 202 #[.slice A ds.length c, .int .i64 most, .bool bg, .slice KA bs.length kc, .bool cl]
 low : n ≤ g
 sig : PredRow w n (.slice A ds.length c) ds
 blk : OwnK w n (.slice KA bs.length kc) bs
 dif : ∀ (i j : Nat) (x y : Bk) (k : Nat), bs[i]? = some x → bs[j]? = some y → i ≠ j → ob x.A = some k → ob y.A ≠ some k
section
variable {w w' w1 : World} {n g c kc : Nat} {A KA : Option Addr} {ds : List Pd} {most : Int} {bg cl : Bool} {bs : List Bk}
theorem WAt.size (h : WAt w n g A c ds most bg cl KA kc bs) : n ≤ w.heap.size := by have := h.held.lt; have := h.low; omega
theorem WAt.below (h : WAt w n g A c ds most bg cl KA kc bs) (hb : Below w.heap.size w w') : WAt w' n g A c ds most bg cl KA kc bs :=
 ⟨h.held.below hb h.held.lt, h.low, h.sig.below (hb.mono h.size), h.blk.below hb, h.dif⟩
end
structure Gp where
 sig : List Pr
 isg : Bool
 pts : List Pn
 sk : Int
 fr : Int
 rej : List (Int × Int)
def noG : Gp := ⟨[], false, [], 0, 0, []⟩
structure Sj where
 frm : Int
 n : Int
 isf : Bool
 kind : Int
 pay : List Int
def lateG (l m : List Pn) : Bool := decide (0 < l.length) && decide ((m.getD 0 default).tm < (l.getD (l.length - 1) default).tm)
def frameG (g : Gp) (k : Int) (p : List Int) : Gp × Int :=
 if k = 1 then
  if (getSig p).2 ≠ 0 then (g, (getSig p).2)
  else if g.isg = true ∧ (getSig p).1 ≠ g.sig then (g, 7)
  else (⟨(getSig p).1, true, g.pts, g.sk, g.fr, g.rej⟩, 0)
 else if k ≠ 2 then (g, 4)
 else if g.isg = false then (g, 10)
 else if (getU g.sig p).2 ≠ 0 then (g, (getU g.sig p).2)
 else if lateG g.pts (getU g.sig p).1 = true then (g, 8)
 else (⟨g.sig, g.isg, g.pts ++ (getU g.sig p).1, g.sk, g.fr, g.rej⟩, 0)
def takeS (g : Gp) (s : Sj) : Gp :=
 if s.isf = false then ⟨g.sig, g.isg, g.pts, g.sk + s.n, g.fr, g.rej⟩
 else if (frameG g s.kind s.pay).2 ≠ 0 then ⟨g.sig, g.isg, g.pts, g.sk, g.fr, g.rej ++ [(s.frm, (frameG g s.kind s.pay).2)]⟩
 else ⟨(frameG g s.kind s.pay).1.sig, (frameG g s.kind s.pay).1.isg, (frameG g s.kind s.pay).1.pts, g.sk, g.fr + 1, g.rej⟩
def takeL (g : Gp) (l : List Sj) : Gp := l.foldl takeS g
theorem takeL_succ {g : Gp} {l : List Sj} {k : Nat} {s : Sj} (h : l[k]? = some s) : takeL g (l.take (k + 1)) = takeS (takeL g (l.take k)) s := by
 unfold takeL
 rw [List.take_add_one, h, List.foldl_append]
 rfl
theorem frameG_kept {g : Gp} {k : Int} {p : List Int} (h : (frameG g k p).2 ≠ 0) : (frameG g k p).1 = g := by
 unfold frameG at h ⊢
 split
 ·rename_i h1
  rw [if_pos h1] at h
  split
  ·rfl
  ·rename_i h2
   rw [if_neg h2] at h
   split
   ·rfl
   ·rename_i h3; rw [if_neg h3] at h; exact absurd rfl h
 ·rename_i h1
  rw [if_neg h1] at h
  split
  ·rfl
  ·rename_i h2
   rw [if_neg h2] at h
   split
   ·rfl
   ·rename_i h3
    rw [if_neg h3] at h
    split
    ·rfl
    ·rename_i h4
     rw [if_neg h4] at h
     split
     ·rfl
     ·rename_i h5; rw [if_neg h5] at h; exact absurd rfl h
theorem frameG_counts (g : Gp) (k : Int) (p : List Int) : (frameG g k p).1.sk = g.sk ∧ (frameG g k p).1.fr = g.fr ∧ (frameG g k p).1.rej = g.rej := by
 unfold frameG
 split
 ·split
  ·exact ⟨rfl, rfl, rfl⟩
  ·split <;> exact ⟨rfl, rfl, rfl⟩
 ·split
  ·exact ⟨rfl, rfl, rfl⟩
  ·split
   ·exact ⟨rfl, rfl, rfl⟩
   ·split
    ·exact ⟨rfl, rfl, rfl⟩
    ·split <;> exact ⟨rfl, rfl, rfl⟩
theorem last_any (i : Nat) (x : Int) (hi : i ≤ 9) (hx0 : 0 ≤ x) (hx : x < 256) (w : World) :
  Calls Tryz.prog 185 #[.int .i64 i, .int .u8 x] w fun e w' => e = .returned (.int .i64 (lastI i x)) ∧ w = w' := by
 by_cases h9 : i = 9
 ·subst h9
  by_cases h1 : 1 < x
  ·have e1 : lastI 9 x = 3 := by unfold lastI; rw [if_pos ⟨rfl, h1⟩]
   have E1 := hid e1; clear e1
   go_enter Tryz.func185, Tryz.ntmps185
   go_wp2
   go_ret
   exact ⟨by rw [E1.out]; rfl, rfl⟩
  ·by_cases h0 : x = 0
   ·subst h0
    go_enter Tryz.func185, Tryz.ntmps185
    go_wp2
    go_ret
    exact ⟨rfl, rfl⟩
   ·obtain rfl : x = 1 := by omega
    go_enter Tryz.func185, Tryz.ntmps185
    go_wp2
    go_ret
    exact ⟨rfl, rfl⟩
 ·have b9 : ((i : Int) == 9) = false := beq_eq_false_iff_ne.2 (by omega)
  by_cases h0 : 0 < i
  ·by_cases hz : x = 0
   ·subst hz
    have e1 : lastI i 0 = 4 := by unfold lastI; rw [if_neg (by omega), if_pos ⟨h0, rfl⟩]
    have E1 := hid e1; clear e1
    go_enter Tryz.func185, Tryz.ntmps185
    go_wp2
    go_ret
    exact ⟨by rw [E1.out]; rfl, rfl⟩
   ·have e1 : lastI i x = 0 := by unfold lastI; rw [if_neg (by omega), if_neg (by omega)]
    have E1 := hid e1; clear e1
    have bz : (x == 0) = false := beq_eq_false_iff_ne.2 hz
    go_enter Tryz.func185, Tryz.ntmps185
    go_wp2
    go_ret
    exact ⟨by rw [E1.out]; rfl, rfl⟩
  ·obtain rfl : i = 0 := by omega
   have e1 : lastI 0 x = 0 := by unfold lastI; rw [if_neg (by omega), if_neg (by omega)]
   have E1 := hid e1; clear e1
   go_enter Tryz.func185, Tryz.ntmps185
   go_wp2
   go_ret
   exact ⟨by rw [E1.out]; rfl, rfl⟩
theorem length_any (A : Option Addr) (c : Nat) (xs : List Int) (w : World) (hrow : Row w w.heap.size (.slice A xs.length c) xs) (hb : ∀ x ∈ xs, 0 ≤ x ∧ x < 256) :
  Calls Tryz.prog 158 #[.slice A xs.length c] w fun e w' => e = .returned (.tuple #[.int .i64 (lenI 0 xs).1, .int .i64 (lenI 0 xs).2]) ∧ w = w' := by
 obtain ⟨A', c', hv, hlc, hcm, _, hcells⟩ := hrow
 injection hv with h1 h2 h3
 subst h1 h3
 unfold maxLen at hcm
 have hsz : xs.length ≤ 9223372036854775807 := by omega
 obtain ⟨M, hM, hM1, hM2, hM3⟩ : ∃ M : Nat, min (xs.length : Int) 10 = M ∧ M ≤ xs.length ∧ M ≤ 10 ∧ (M = xs.length ∨ M = 10) := by
  by_cases h : xs.length ≤ 10
  ·exact ⟨xs.length, by omega, by omega, by omega, .inl rfl⟩
  ·exact ⟨10, by omega, by omega, by omega, .inr rfl⟩
 have HM3 := hid hM3; clear hM3
 have HC := hid hcells; clear hcells
 have HB := hid hb; clear hb
 go_enter Tryz.func158, Tryz.ntmps158
 go_wp2
 have HM := hid hM; clear hM
 go_loop [8] (fun i => ∃ k : Nat, k ≤ M ∧ i = .int .i64 k ∧ Hid (∀ j, j < k → 128 ≤ xs.getD j 0)) (fun i => M - (intOf i).toNat)
 case atStart => exact ⟨0, Nat.zero_le _, rfl, hid (fun j h => absurd h (Nat.not_lt_zero _))⟩
 case round =>
  obtain ⟨k, hk, rfl, HJ⟩ := hrel
  by_cases hlt : k < M
  ·obtain ⟨b, o, rfl, _, hc⟩ := HC.out (by omega)
   have hck := hc k (by omega)
   clear hc
   have hin : xs.getD k 0 ∈ xs := by rw [List.getD, List.getElem?_eq_getElem (by omega)]; simp
   obtain ⟨y0, y1⟩ := HB.out _ hin
   clear hin
   obtain ⟨y, hy⟩ : ∃ y, xs.getD k 0 = y := ⟨_, rfl⟩
   rw [hy] at hck y0 y1
   have HY := hid hy; clear hy
   by_cases hs : y < 128
   ·have hfin : lenI 0 xs = (k + 1, lastI k y) := by rw [← HY.out]; exact lenI_found xs k (by omega) HJ.out (by omega) (by rw [HY.out]; exact hs)
    have HF := hid hfin; clear hfin
    go_wp2_with (go_at_call 185; refine (last_any k y (by omega) y0 y1 _).mono ?_; rintro e w' ⟨rfl, rfl⟩)
    go_ret2
    exact ⟨by rw [HF.out]; simp, rfl⟩
   ·go_wp2_with fail
    go_round
    case rel => exact ⟨k + 1, by omega, by go_num, hid (fun j hj => by
     rcases Nat.lt_or_ge j k with h | h
     ·exact HJ.out j h
     ·obtain rfl : j = k := by omega
      rw [HY.out]; omega)⟩
    case measure => simp [intOf]; omega
  ·obtain rfl : k = M := by omega
   rcases Nat.lt_or_ge xs.length 10 with h10 | h10
   ·have hfin : lenI 0 xs = (0, 2) := lenI_short xs h10 (fun j hj => HJ.out j (by rcases HM3.out with h | h <;> omega))
    have HF := hid hfin; clear hfin
    go_wp2_with fail
    go_ret2
    exact ⟨by rw [HF.out]; rfl, rfl⟩
   ·have hfin : lenI 0 xs = (0, 3) := lenI_long xs h10 (fun j hj => HJ.out j (by rcases HM3.out with h | h <;> omega))
    have HF := hid hfin; clear hfin
    go_wp2_with fail
    go_ret2
    exact ⟨by rw [HF.out]; rfl, rfl⟩
section
open Go.RowKit Go.Shelf
attribute [local go_sem] Oper.semAt_some
abbrev Grp := { p : Int × Int // 0 ≤ p.1 ∧ p.1 ≤ 63 ∧ 0 ≤ p.2 ∧ p.2 ≤ 127 }
def grp (xs : List Int) (k : Nat) : Grp := if h : k ≤ 9 then ⟨(7 * (k : Int), xs.getD k 0 % 128), by constructor <;> simp <;> omega⟩ else ⟨(0, 0), by simp⟩
def grps (xs : List Int) (k : Nat) : List Grp := (List.range k).map (grp xs)
theorem grps_succ (xs : List Int) (k : Nat) : grps xs (k + 1) = grps xs k ++ [grp xs k] := by simp [grps, List.range_succ]
theorem grps_length (xs : List Int) (k : Nat) : (grps xs k).length = k := by simp [grps]
theorem groups1_in (F : Fence) (m : Nat) (hf : F.fn 186) (hro : F.round = none) (hm : 1 ≤ m) (l Bs n₀ : Nat) (A : Option Addr) (c : Nat) (xs : List Int) (h10 : xs.length ≤ 10) (hb : ∀ x ∈ xs, 0 ≤ x ∧ x < 256) (J Jx : List Grp → World → Prop)
  (hY : ∀ pre (x : Grp) W, J pre W → pre.length < xs.length → YieldAt F (m - 1) Tryz.prog l #[.int .i64 x.1.1, .int .u64 x.1.2] W fun e W' =>
   (e = .returned (.bool true) ∧ J (pre ++ [x]) W' ∧ Below n₀ W W') ∨ (e = .returned (.bool false) ∧ Jx (pre ++ [x]) W'))
  (W : World) (hBs : W.cell? ⟨Bs, 0, none⟩ = some (.slice A xs.length c)) (hrow : Row W n₀ (.slice A xs.length c) xs) (h0 : J [] W) :
  CallsIn F m Tryz.prog 186 #[.func (.yield l) #[] #[], .pointer (some ⟨Bs, 0, none⟩)] W fun e W' => (∃ v, e = .returned v) ∧
   ((∃ ys, ys = grps xs xs.length ∧ J ys W') ∨ (∃ pre, (∃ k, pre = grps xs k) ∧ Jx pre W')) := by
 have HR := hid hrow; clear hrow
 have HB := hid hb; clear hb
 refine callsIn_of_wp Tryz.func186 rfl hf ?_ hro
 simp only [Tryz.ntmps186, List.size_toArray, List.length_cons, List.length_nil, Nat.reduceAdd, Nat.reduceSub, Array.replicate_succ, Array.replicate_zero, List.push_toArray, List.append_toArray, List.nil_append, List.cons_append]
 gi_wp2
 gi_loopw [7] (fun i wr => ∃ k : Nat, k ≤ xs.length ∧ i = .int .i64 k ∧ J (grps xs k) wr ∧ Below n₀ W wr)
  (fun i _ => xs.length - (intOf i).toNat)
 case atStart => exact ⟨0, Nat.zero_le _, rfl, h0, Below.refl _ _⟩
 case round =>
  obtain ⟨k, hk, rfl, hJs, hnx⟩ := hrel
  by_cases hlt : k < xs.length
  ·obtain ⟨A', c', hv, _, _, _, hcells⟩ := HR.out.below hnx
   injection hv with e1 e2 e3
   subst e1 e3
   obtain ⟨b, o, rfl, _, hc⟩ := hcells (by omega)
   have hck := hc k hlt
   clear hc hcells e2
   have hin : xs.getD k 0 ∈ xs := by rw [List.getD, List.getElem?_eq_getElem hlt]; simp
   obtain ⟨y0, y1⟩ := HB.out _ hin
   clear hin
   obtain ⟨y, hy⟩ : ∃ y, xs.getD k 0 = y := ⟨_, rfl⟩
   rw [hy] at hck y0 y1
   have hg : (grp xs k).1 = (7 * (k : Int), y % 128) := by rw [← hy]; unfold grp; rw [dif_pos (by omega)]
   clear hy
   obtain ⟨fn, tmps, assign, body, hy, hR⟩ := hY _ (grp xs k) wr hJs (by rw [grps_length]; exact hlt)
   simp only [hg] at hy
   clear hg
   gi_wp2
   refine hR.mono ?_
   rintro e W3 (⟨rfl, hJ3, hk3⟩ | ⟨rfl, hJx3⟩)
   ·gi_wp2
    go_roundw
    case rel => exact ⟨k + 1, by omega, by go_num, by rw [grps_succ]; exact hJ3, hnx.trans hk3⟩
    case measure => simp [intOf]; omega
   ·gi_wp2
    refine bodyPost_ret (results_none rfl _ _ _) rfl ?_
    exact ⟨⟨_, rfl⟩, .inr ⟨_, ⟨k + 1, (grps_succ _ _).symm⟩, hJx3⟩⟩
  ·obtain rfl : k = xs.length := by omega
   gi_wp2
   go_end0
   exact ⟨⟨_, rfl⟩, .inl ⟨_, rfl, hJs⟩⟩
theorem groups_in (F : Fence) (m : Nat) (hf : F.fn 159) (hro : F.round = none) (A : Option Addr) (k c : Nat) (w : World) :
  CallsIn F m Tryz.prog 159 #[.slice A k c] w fun e w' => e = .returned (.func (.func 186) #[] #[.pointer (some ⟨w.heap.size, 0, none⟩)]) ∧ w' = w.alloc (.cells #[.slice A k c] 22) := by
 refine callsIn_of_wp Tryz.func159 rfl hf ?_ hro
 simp only [Tryz.ntmps159, List.size_toArray, List.length_cons, List.length_nil, Nat.reduceAdd, Nat.reduceSub, Array.replicate_succ, Array.replicate_zero, List.push_toArray, List.append_toArray, List.nil_append, List.cons_append]
 gi_wp2
 go_ret
 exact ⟨rfl, rfl⟩
theorem groups_stops (F : Fence) (m : Nat) (hf : F.fn 186) (hro : F.round = none) (hm : 1 ≤ m) (Bs n₀ : Nat) (A : Option Addr) (c : Nat) (xs : List Int) (h10 : xs.length ≤ 10) (hb : ∀ x ∈ xs, 0 ≤ x ∧ x < 256) (w : World) (hBs : Bs < w.heap.size) (hn₀ : n₀ ≤ w.heap.size)
  (hc : w.cell? ⟨Bs, 0, none⟩ = some (.slice A xs.length c)) (hrow : Row w n₀ (.slice A xs.length c) xs) :
  SeqStopsK F m Tryz.prog 186 #[.pointer (some ⟨Bs, 0, none⟩)] (fun x : Grp => #[Value.int .i64 x.1.1, Value.int .u64 x.1.2]) (Below n₀) (fun ys => ys = grps xs xs.length) (fun pre => ∃ k, pre = grps xs k) xs.length w := fun l J Jx W hW _ _ hY h0 =>
 groups1_in F m hf hro hm l Bs n₀ A c xs h10 hb J Jx hY W ((hW.cell (p := ⟨Bs, 0, none⟩) hBs).trans hc) (hrow.below (hW.mono hn₀)) h0
def orStep (n : Int) (x : Grp) : Int := bits .or .u64 n (IntKind.u64.wrap (x.1.2 * 2 ^ x.1.1.toNat))
def orAll (xs : List Grp) : Int := xs.foldl orStep 0
theorem orAll_snoc (pre : List Grp) (x : Grp) : orAll (pre ++ [x]) = bits .or .u64 (orAll pre) (IntKind.u64.wrap (x.1.2 * 2 ^ x.1.1.toNat)) := by simp [orAll, orStep]
theorem get_in (F : Fence) (m : Nat) (h0 : F.fn 128) (h1 : F.fn 158) (h2 : F.fn 159) (h3 : F.fn 186) (hro : F.round = none) (hm : 5 ≤ m)
  (hlenC : ∀ (A : Option Addr) (c : Nat) (xs : List Int) (w : World), Row w w.heap.size (.slice A xs.length c) xs → (∀ x ∈ xs, 0 ≤ x ∧ x < 256) → CallsIn F (m - 1) Tryz.prog 158 #[.slice A xs.length c] w fun e w' => e = .returned (.tuple #[.int .i64 (lenI 0 xs).1, .int .i64 (lenI 0 xs).2]) ∧ w = w')
  (A : Option Addr) (c : Nat) (xs : List Int) (w : World) (hrow : Row w w.heap.size (.slice A xs.length c) xs) (hb : ∀ x ∈ xs, 0 ≤ x ∧ x < 256) (hok : (lenI 0 xs).2 = 0) :
  CallsIn F m Tryz.prog 128 #[.slice A xs.length c] w fun e W' => e = .returned (.tuple #[.int .u64 (orAll (grps (xs.take (lenI 0 xs).1) (lenI 0 xs).1)), .int .i64 (lenI 0 xs).1, .int .i64 0]) ∧ Below w.heap.size w W' := by
 have hm1 : 1 ≤ m := by omega
 obtain ⟨k1, k2, k3, h5, h6⟩ := getI_back xs hb hok
 clear h5 h6
 have hcon := hlenC A c xs w hrow hb
 rw [hok] at hcon
 clear hok hlenC
 generalize (lenI 0 xs).1 = s at hcon k1 k2 k3 ⊢
 have hr2 := hrow.take k2
 have hl2 : (xs.take s).length = s := by simp; omega
 rw [hl2] at hr2
 have HC := hid hcon; clear hcon
 have hsm : xs.length ≤ 9223372036854775807 ∧ xs.length ≤ c ∧ c ≤ 9223372036854775807 := by
  obtain ⟨_, _, hv, q1, q2, _, _⟩ := hrow
  injection hv with e1 e2 e3
  subst e3
  unfold maxLen at q2
  omega
 obtain ⟨s1, s2, s3⟩ := hsm
 refine callsIn_of_wp_marks Tryz.func128 rfl h0 ?_ hro
 simp only [Tryz.ntmps128, List.size_toArray, List.length_cons, List.length_nil, Nat.reduceAdd, Nat.reduceSub, Array.replicate_succ, Array.replicate_zero, List.push_toArray, List.append_toArray, List.nil_append, List.cons_append]
 gi_wp2_with (first
  | (gi_at_call 158; refine HC.out.mono ?_; rintro e w1 ⟨rfl, rfl⟩)
  | (gi_at_call 159; refine (groups_in F (m - 1) h2 hro _ _ _ _).mono ?_; rintro e w' ⟨rfl, rfl⟩))
 have bO := Boxed.new w 52 (.int .u64 0)
 have bN := Boxed.new (w.alloc (.cells #[.int .u64 0] 52)) 22 (.slice A s c)
 rw [World.size_alloc] at bN
 have hB0 : Below w.heap.size w ((w.alloc (.cells #[.int .u64 0] 52)).alloc (.cells #[.slice A s c] 22)) := ((Below.refl _ w).alloc (Nat.le_refl _) _).alloc (by simp) _
 have hst := groups_stops F (m - 1) h3 hro (by omega) (w.heap.size + 1) w.heap.size A c (xs.take s) (by omega) (fun x hx => hb x (List.mem_of_mem_take hx)) ((w.alloc (.cells #[.int .u64 0] 52)).alloc (.cells #[.slice A s c] 22)) (by simp) (by simp; omega) (by rw [hl2]; exact bN.cell) (by rw [hl2]; exact hr2.below hB0)
 refine wpIn_rangeFunc_ownG hro hm1 (gf := 186) (lb := #[.pointer (some ⟨w.heap.size + 1, 0, none⟩)]) rfl h3 (enters_of Tryz.func186 (by kernel_rfl) rfl)
  hst belowK_t (belowK_b (by simp; omega)) (Below.refl _ _) (fun _ => rfl)
  (fun pre W => Boxed W w.heap.size 52 (.int .u64 (orAll pre)) ∧ Below w.heap.size w W)
  (fun _ _ _ => False)
  (OwnFrom.and (Own.from (boxed_own w.heap.size 52 (fun pre : List Grp => .int .u64 (orAll pre))) _) (ownFrom_below (Nat.le_refl _) (by simp; omega)))
  (fun _ _ _ _ _ hs _ _ => hs)
  ⟨bO.alloc _, hB0⟩
  (fun x => { tmps := #[.slice A xs.length c, undef, .int .u64 0, .int .i64 0, .int .i64 0, .int .i64 s, .int .i64 0, .pointer (some ⟨w.heap.size, 0, none⟩), .int .i64 x.1.1, .int .u64 x.1.2, .tuple #[.int .i64 s, .int .i64 0], .slice A xs.length c, .tuple #[.int .i64 s, .int .i64 0], .int .i64 s, .int .i64 0, .int .i64 0, .bool false, undef, .slice A xs.length c, .int .i64 s, .slice A s c, .func (.func 186) #[] #[.pointer (some ⟨w.heap.size + 1, 0, none⟩)], .int .i64 x.1.1, .int .u64 x.1.2, undef, undef, undef, undef, undef, undef, undef], defers := [] }) ?assign ?body ?done ?stop
 case assign =>
  intro l x W K hK
  gi_wp2
  exact hK
 case body =>
  rintro l pre x W ⟨hv, hB⟩ hlt
  have hc := hv.cell
  have hfz := hv.frozen
  obtain ⟨⟨sh, g⟩, hs0, hs1, hg0, hg1⟩ := x
  simp only at hs0 hs1 hg0 hg1 ⊢
  gi_wp2
  gi_region
  all_goals gi_wp2
  all_goals exact ⟨((KeepsOthers.setCell _ _ _).trans (KeepsOthers.drew _)).from _, ((Below.refl w.heap.size W).setCell (p := ⟨w.heap.size, 0, none⟩) (Nat.le_refl _) _).drew, by rw [orAll_snoc]; exact hv.set _, (hB.setCell (p := ⟨w.heap.size, 0, none⟩) (Nat.le_refl _) _).drew⟩
 case done =>
  rintro D ys W hD rfl ⟨hv, hB⟩ hK
  have hc := hv.cell
  gi_wp2
  refine ⟨by simp, .inl ⟨_, _, rfl, run_takeDeferred hK, ?_⟩⟩
  exact ⟨_, results_tmp3 rfl _ _ _, rfl, hB.trans (belowK_b (w := w) (Nat.le_refl _) W D _ _ (by simp at hD; omega) hK rfl rfl)⟩
 case stop =>
  rintro D c pre W _ _ h _
  exact h.elim
theorem val_append (b : List Int) : ∀ a : List Int, val (a ++ b) = val a + 128 ^ a.length * val b
 | [] => by simp [val]
 | x :: r => by
  have h := val_append b r
  simp only [List.cons_append, val, h, List.length_cons]
  rw [Int.pow_succ, Int.mul_add, Int.mul_comm ((128 : Int) ^ r.length) 128, Int.mul_assoc]
  omega
theorem val_take_le (ys : List Int) (k : Nat) : val (ys.take k) ≤ val ys := by
 have h := val_append (ys.drop k) (ys.take k)
 rw [List.take_append_drop] at h
 have h1 : 0 ≤ (128 : Int) ^ (ys.take k).length * val (ys.drop k) := Int.mul_nonneg (Int.le_of_lt (Int.pow_pos (by omega))) (val_nonneg _)
 omega
theorem or_step (a : Int) (k : Nat) (g : Int) (ha : 0 ≤ a) (hg : 0 ≤ g) (hk : a < 128 ^ k) (hs : a + 128 ^ k * g < 18446744073709551616) :
  bits .or .u64 a (IntKind.u64.wrap (g * 2 ^ (7 * k))) = a + 128 ^ k * g := by
 obtain ⟨A, rfl⟩ := Int.eq_ofNat_of_zero_le ha
 obtain ⟨G, rfl⟩ := Int.eq_ofNat_of_zero_le hg
 have e2 : (2 : Nat) ^ (7 * k) = 128 ^ k := by rw [Nat.pow_mul]
 have e2i : (2 : Int) ^ (7 * k) = ((128 ^ k : Nat) : Int) := by rw [Int.pow_mul]; simp
 have hk' : A < 128 ^ k := by
  have : ((128 : Int) ^ k) = ((128 ^ k : Nat) : Int) := by simp
  rw [this] at hk
  omega
 have hs' : A + 128 ^ k * G < 18446744073709551616 := by
  have : ((128 : Int) ^ k * (G : Int)) = ((128 ^ k * G : Nat) : Int) := by simp
  rw [this] at hs
  omega
 have hw : IntKind.u64.wrap ((G : Int) * 2 ^ (7 * k)) = ((128 ^ k * G : Nat) : Int) := by
  rw [e2i, ← Int.natCast_mul, Nat.mul_comm, IntKind.wrap_u64]
  omega
 rw [hw, u64_or_nat A (128 ^ k * G) (by omega) (by omega)]
 have := Nat.two_pow_add_eq_or_of_lt (i := 7 * k) (b := A) (by rw [e2]; exact hk') G
 rw [e2] at this
 rw [Nat.or_comm, ← this]
 simp [Int.add_comm]
theorem orAll_val (ys : List Int) (h10 : ys.length ≤ 10) (hv : val ys < 18446744073709551616) : ∀ k : Nat, k ≤ ys.length → orAll (grps ys k) = val (ys.take k) := by
 intro k
 induction k with
 | zero => intro _; simp [grps, orAll, val]
 | succ k ih =>
  intro hk
  have hkl : k < ys.length := by omega
  rw [grps_succ, orAll_snoc, ih (by omega), List.take_succ_eq_append_getElem hkl, val_snoc]
  have hl : (ys.take k).length = k := by simp; omega
  have hg : (grp ys k).1 = (7 * (k : Int), ys[k] % 128) := by
   unfold grp; rw [dif_pos (by omega)]; simp [List.getD, List.getElem?_eq_getElem hkl]
  rw [hg, hl]
  have h1 := val_lt (ys.take k)
  rw [hl] at h1
  have h2 := val_take_le ys (k + 1)
  rw [List.take_succ_eq_append_getElem hkl, val_snoc, hl] at h2
  have e7 : (7 * (k : Int)).toNat = 7 * k := by omega
  simp only [e7]
  exact or_step _ k _ (val_nonneg _) (by omega) h1 (by omega)
theorem get_no (A : Option Addr) (c : Nat) (xs : List Int) (w : World) (hrow : Row w w.heap.size (.slice A xs.length c) xs) (hb : ∀ x ∈ xs, 0 ≤ x ∧ x < 256) (hno : (lenI 0 xs).2 ≠ 0) :
  Calls Tryz.prog 128 #[.slice A xs.length c] w fun e W' => e = .returned (.tuple #[.int .u64 0, .int .i64 0, .int .i64 (lenI 0 xs).2]) ∧ w = W' := by
 have hcon := length_any A c xs w hrow hb
 clear hrow hb
 generalize (lenI 0 xs).1 = s at hcon
 generalize (lenI 0 xs).2 = er at hcon hno ⊢
 have HC := hid hcon; clear hcon
 have hne : (er != 0) = true := by simpa using hno
 clear hno
 go_enter Tryz.func128, Tryz.ntmps128
 go_wp2_with (go_at_call 158; refine HC.out.mono ?_; rintro e w1 ⟨rfl, rfl⟩)
 go_ret3
 exact ⟨rfl, rfl⟩
theorem get_any (A : Option Addr) (c : Nat) (xs : List Int) (w : World) (hrow : Row w w.heap.size (.slice A xs.length c) xs) (hb : ∀ x ∈ xs, 0 ≤ x ∧ x < 256) :
  Calls Tryz.prog 128 #[.slice A xs.length c] w fun e W' => e = .returned (.tuple #[.int .u64 (getI xs).1, .int .i64 (getI xs).2.1, .int .i64 (getI xs).2.2]) ∧ Below w.heap.size w W' := by
 by_cases hok : (lenI 0 xs).2 = 0
 ·have h := callsIn_wide.1 (get_in Fence.wide 5 trivial trivial trivial trivial rfl (by omega) (fun A c xs w h1 h2 => callsIn_wide.2 (length_any A c xs w h1 h2)) A c xs w hrow hb hok)
  obtain ⟨k1, k2, k3, _, h6⟩ := getI_back xs hb hok
  have hl : (xs.take (lenI 0 xs).1).length = (lenI 0 xs).1 := by simp; omega
  have hv := orAll_val (xs.take (lenI 0 xs).1) (by omega) h6 (lenI 0 xs).1 (by omega)
  rw [List.take_take, Nat.min_self] at hv
  rw [hv] at h
  have e : getI xs = (val (xs.take (lenI 0 xs).1), (lenI 0 xs).1, 0) := by unfold getI; rw [if_pos hok]
  rw [e]
  exact h
 ·have e : getI xs = (0, 0, (lenI 0 xs).2) := by unfold getI; rw [if_neg hok]
  rw [e]
  refine (get_no A c xs w hrow hb hok).mono ?_
  rintro e W' ⟨rfl, rfl⟩
  exact ⟨rfl, Below.refl _ _⟩
end
end Go.Proofs.YtnlfcmbpocdpjaaGreat
