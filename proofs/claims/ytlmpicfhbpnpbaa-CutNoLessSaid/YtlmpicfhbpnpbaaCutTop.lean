/-
  The search by halves, as cut calls it; the closure that it is handed; greatest.
-/
import Derived.Test.YtlmpicfhbpnpbaaPlainCut
import Derived.Test.YtlmpicfhbpnpbaaCur
import Derived.WalkKit
import Derived.LoopTactic
import Derived.Deep.LoopGhost
import Derived.Deep.RegionHeld3
import Derived.Lib.Hide
namespace Go.Proofs.Ytlmpicfhbpnpbaa
open Go.RowKit Go.ChangeShapes Go.WideShapes
set_option linter.unusedVariables false

section
variable (w : World) (hb sb : Nat)
set_option maxRecDepth 100000 in
set_option maxHeartbeats 1000000 in
/-- The first place below N at which p holds. -/
theorem search_any (N s : Nat) (p : Nat → Bool) (hN : N ≤ 1000000000) (hs : s ≤ N) (h1 : ∀ t, t < s → p t = false) (h2 : ∀ t, s ≤ t → t < N → p t = true)
    (hf : ∀ wr, Below w.heap.size w wr → ∀ i : Nat, i < N → Calls Try.prog 93 #[.int .i64 i, .pointer (some ⟨hb, 0, none⟩), .pointer (some ⟨sb, 0, none⟩)] wr fun e w' => e = .returned (.bool (p i)) ∧ Below wr.heap.size wr w') :
    Calls Try.prog 92 #[.int .i64 N, .func (.func 93) #[] #[.pointer (some ⟨hb, 0, none⟩), .pointer (some ⟨sb, 0, none⟩)]] w fun e w' => e = .returned (.int .i64 s) ∧ Below w.heap.size w w' := by
  have HF := Lib.hid hf
  have H1 := Lib.hid h1
  have H2 := Lib.hid h2
  clear hf h1 h2
  go_enter Try.func92, Try.ntmps92
  go_wp2_with fail
  go_loopg [5, 6] N (fun gk lo hi wr => ∃ a b : Nat, lo = .int .i64 a ∧ hi = .int .i64 b ∧ a ≤ s ∧ s ≤ b ∧ b ≤ N ∧ Hid (b - a = gk) ∧ Hid (Below w.heap.size w wr))
  case atStart => exact ⟨0, N, rfl, rfl, Nat.zero_le _, hs, Nat.le_refl _, Lib.hid rfl, Lib.hid (Below.refl _ _)⟩
  case round =>
    obtain ⟨a, b, rfl, rfl, ha, hb2, hbN, HGK, HB⟩ := hrel
    by_cases hlt : a < b
    · have hc := HF.out wr HB.out ((a + b) / 2) (by omega)
      rw [show (((a + b) / 2 : Nat) : Int) = ((a : Int) + (b : Int)) / 2 by omega] at hc
      by_cases hms : (a + b) / 2 < s
      · rw [H1.out _ hms] at hc
        have HC := Lib.hid hc
        clear hc
        go_wp2_with fail
        refine HC.out.mono ?_
        rintro e w2 ⟨rfl, hb2'⟩
        have HB2 := Lib.hid (HB.out.trans (hb2'.mono HB.out.size))
        clear hb2'
        go_wp2_with fail
        go_roundg (b - ((a + b) / 2 + 1))
        case measure => have := HGK.out; omega
        case rel => exact ⟨(a + b) / 2 + 1, b, by rw [show (((a + b) / 2 + 1 : Nat) : Int) = ((a : Int) + (b : Int)) / 2 + 1 by omega], rfl, by omega, hb2, hbN, Lib.hid rfl, HB2⟩
      · rw [H2.out _ (by omega) (by omega)] at hc
        have HC := Lib.hid hc
        clear hc
        go_wp2_with fail
        refine HC.out.mono ?_
        rintro e w2 ⟨rfl, hb2'⟩
        have HB2 := Lib.hid (HB.out.trans (hb2'.mono HB.out.size))
        clear hb2'
        go_wp2_with fail
        go_roundg ((a + b) / 2 - a)
        case measure => have := HGK.out; omega
        case rel => exact ⟨a, (a + b) / 2, rfl, by rw [show (((a + b) / 2 : Nat) : Int) = ((a : Int) + (b : Int)) / 2 by omega], ha, by omega, by omega, Lib.hid rfl, HB2⟩
    · obtain rfl : b = a := by omega
      obtain rfl : b = s := by omega
      go_wp2_with fail
      go_ret
      exact ⟨rfl, HB.out⟩
#print axioms search_any

set_option maxRecDepth 100000 in
set_option maxHeartbeats 1000000 in
theorem cmore_any (qb tb s i : Nat) (r : Bool) (hh : Held w hb 114 #[.func (.func 74) #[] #[.pointer (some ⟨qb, 0, none⟩), .pointer (some ⟨tb, 0, none⟩)]]) (hs : Held w sb 3 #[.int .i64 s]) (hi : s + 1 + i ≤ 1000000000)
    (hf : Calls Try.prog 74 #[.int .i64 (s + 1 + i : Nat), .pointer (some ⟨qb, 0, none⟩), .pointer (some ⟨tb, 0, none⟩)] w fun e w' => e = .returned (.bool r) ∧ Below w.heap.size w w') :
    Calls Try.prog 93 #[.int .i64 i, .pointer (some ⟨hb, 0, none⟩), .pointer (some ⟨sb, 0, none⟩)] w fun e w' => e = .returned (.bool (!r)) ∧ Below w.heap.size w w' := by
  rw [show ((s + 1 + i : Nat) : Int) = (s : Int) + 1 + (i : Int) by omega] at hf
  have HF := Lib.hid hf
  have x0 := hh.cell 0
  have x1 := hs.cell 0
  simp at x0 x1
  clear hf hh hs
  go_enter Try.func93, Try.ntmps93
  go_wp2_with fail
  refine HF.out.mono ?_
  rintro e w2 ⟨rfl, hb2⟩
  go_wp2_with fail
  go_ret
  exact ⟨rfl, hb2⟩
#print axioms cmore_any

set_option maxRecDepth 100000 in
set_option maxHeartbeats 1000000 in
theorem cgreatest_any (qb tb m : Nat) (p : Nat → Bool) (hm : 1 ≤ m) (hm2 : m ≤ 1000000) (hp1 : p 1 = true) (hmono : ∀ a b, 1 ≤ a → a ≤ b → b ≤ m → p b = true → p a = true)
    (hf : ∀ wr, Below w.heap.size w wr → ∀ n : Nat, 1 ≤ n → n ≤ m → Calls Try.prog 74 #[.int .i64 n, .pointer (some ⟨qb, 0, none⟩), .pointer (some ⟨tb, 0, none⟩)] wr fun e w' => e = .returned (.bool (p n)) ∧ Below wr.heap.size wr w') :
    Calls Try.prog 73 #[.int .i64 m, .func (.func 74) #[] #[.pointer (some ⟨qb, 0, none⟩), .pointer (some ⟨tb, 0, none⟩)]] w fun e w' => e = .returned (.int .i64 (topP p m : Nat)) ∧ Below w.heap.size w w' := by
  obtain ⟨N, hN⟩ : ∃ N, w.heap.size = N := ⟨_, rfl⟩
  obtain ⟨F, hF⟩ : ∃ F : Value, F = .func (.func 74) #[] #[.pointer (some ⟨qb, 0, none⟩), .pointer (some ⟨tb, 0, none⟩)] := ⟨_, rfl⟩
  obtain ⟨u0, hu0⟩ : ∃ u, w.alloc (.cells #[F] 114) = u := ⟨_, rfl⟩
  have s0 : u0.heap.size = N + 1 := by rw [← hu0, World.size_alloc, hN]
  have b0 : Below N w u0 := by rw [← hu0]; exact (Below.refl _ _).alloc (by omega) _
  have h0 : Held u0 N 114 #[F] := by rw [← hu0, ← hN]; exact heap_alloc_new w _
  obtain ⟨u1, hu1⟩ : ∃ u, u0.alloc (.cells #[.int .i64 1] 3) = u := ⟨_, rfl⟩
  have s1 : u1.heap.size = N + 1 + 1 := by rw [← hu1, World.size_alloc, s0]
  have b1 : Below (N + 1) u0 u1 := by rw [← hu1]; exact (Below.refl _ _).alloc (by omega) _
  have h1 : Held u1 (N + 1) 3 #[.int .i64 1] := by rw [← hu1, ← s0]; exact heap_alloc_new u0 _
  have k0 : Held u1 N 114 #[F] := h0.below b1 (by omega)
  have hbb : Below N w u1 := b0.trans (b1.mono (by omega))
  have HS := Lib.hid (And.intro k0 (And.intro h1 (And.intro hbb s1)))
  rw [hN] at hf
  have HF := Lib.hid hf
  have HM := Lib.hid hmono
  obtain ⟨R, hR⟩ : ∃ R, topP p m = R := ⟨_, rfl⟩
  rw [hR]
  have HR := Lib.hid hR
  subst hF
  clear b0 h0 b1 h1 k0 hbb hf hmono hR
  go_enter Try.func73, Try.ntmps73
  go_wp2_with fail
  go_loopg [] m (fun gk wr => ∃ s : Nat, 1 ≤ s ∧ s ≤ m ∧ p s = true ∧ Hid (m - s ≤ gk) ∧ Hid (Held wr N 114 #[.func (.func 74) #[] #[.pointer (some ⟨qb, 0, none⟩), .pointer (some ⟨tb, 0, none⟩)]] ∧ Held wr (N + 1) 3 #[.int .i64 s] ∧ Below N w wr))
  case atStart => exact ⟨1, Nat.le_refl _, hm, hp1, Lib.hid (Nat.sub_le _ _), Lib.hid (by obtain ⟨q0, q1, q2, _⟩ := HS.out; exact ⟨q0, q1, q2⟩)⟩
  case round =>
    obtain ⟨s, hs1, hsm, hps, HGK, HST⟩ := hrel
    obtain ⟨q0, q1, q2⟩ := HST.out
    have x0 := q0.cell 0
    have x1 := q1.cell 0
    have x2 := q1.frozen 0
    simp at x0 x1
    have zr := q1.lt
    by_cases hh : s ≤ m / 2
    · have hh2 : (s : Int) ≤ (m : Int) / 2 := by omega
      have hc := HF.out wr q2 (2 * s) (by omega) (by omega)
      rw [show ((2 * s : Nat) : Int) = 2 * (s : Int) by omega] at hc
      cases hp2 : p (2 * s) with
      | true =>
        rw [hp2] at hc
        have HC := Lib.hid hc
        have HP2 := Lib.hid hp2
        clear hc hp2 q0 q1 q2
        go_wp2_with fail
        refine HC.out.mono ?_
        rintro e w2 ⟨rfl, hb2⟩
        obtain ⟨q0, q1, q2⟩ := HST.out
        have y0 := q0.below hb2 q0.lt
        have y1 := q1.below hb2 q1.lt
        have y2 := q2.trans (hb2.mono (by omega))
        have z1 := y1.cell 0
        have z2 := y1.frozen 0
        simp at z1
        have HW2 := Lib.hid (And.intro y0 (And.intro y1 y2))
        clear q0 q1 q2 y0 y1 y2 x0 x1 x2 hb2
        go_wp2_with fail
        have hW3 : Held (w2.setCell ⟨N + 1, 0, none⟩ (.int .i64 ((s : Int) * 2))) N 114 #[.func (.func 74) #[] #[.pointer (some ⟨qb, 0, none⟩), .pointer (some ⟨tb, 0, none⟩)]] ∧ Held (w2.setCell ⟨N + 1, 0, none⟩ (.int .i64 ((s : Int) * 2))) (N + 1) 3 #[.int .i64 ((s : Int) * 2)] ∧ Below N w (w2.setCell ⟨N + 1, 0, none⟩ (.int .i64 ((s : Int) * 2))) := by
          obtain ⟨y0, y1, y2⟩ := HW2.out
          refine ⟨y0.other_put (by omega) _, by simpa using y1.put 0 _, y2.trans (below_put _ (by omega))⟩
        go_roundg (m - 2 * s)
        case measure => have := HGK.out; omega
        case rel => exact ⟨2 * s, by omega, by omega, HP2.out, Lib.hid (Nat.le_refl _), Lib.hid (by rw [show ((2 * s : Nat) : Int) = (s : Int) * 2 by omega]; exact hW3)⟩
      | false =>
        rw [hp2] at hc
        have HC := Lib.hid hc
        have HNO := Lib.hid (show ∀ j, min (2 * s - 1) m < j → j ≤ m → p j = false from fun j h1 h2 => by
          cases hj : p j with
          | false => rfl
          | true => rw [HM.out (2 * s) j (by omega) (by omega) h2 hj] at hp2; cases hp2)
        clear hc hp2 q0 q1 q2
        go_wp2_with fail
        refine HC.out.mono ?_
        rintro e w2 ⟨rfl, hb2⟩
        obtain ⟨q0, q1, q2⟩ := HST.out
        have y0 := q0.below hb2 q0.lt
        have y1 := q1.below hb2 q1.lt
        have y2 := q2.trans (hb2.mono (by omega))
        have zr2 := y1.lt
        clear q0 q1 q2 x0 x1 x2 hb2 HST
        have hps' := hps
        have hRs : s ≤ R ∧ R ≤ min (2 * s - 1) m := by
          have h1 := topP_le p m
          rw [HR.out] at h1
          constructor
          · rcases Nat.lt_or_ge R s with h | h
            · have := topP_no (p := p) m s (by rw [HR.out]; exact h) hsm
              rw [hps'] at this
              cases this
            · exact h
          · rcases Nat.lt_or_ge (min (2 * s - 1) m) R with h | h
            · have h3 := HNO.out R h h1
              have h4 := topP_yes (p := p) m (by rw [HR.out]; omega)
              rw [HR.out, h3] at h4
              cases h4
            · exact h
        have HSR := Lib.hid (fun (X : World) (hX : Below w2.heap.size w2 X) => search_any X N (N + 1) (min (2 * s - 1) m - s) (R - s) (fun i => !(p (s + 1 + i))) (by omega) (by omega)
          (fun t ht => by
            have h4 := topP_yes (p := p) m (by rw [HR.out]; omega)
            rw [HR.out] at h4
            have h1 := topP_le p m
            rw [HR.out] at h1
            show (!(p (s + 1 + t))) = false
            rw [HM.out (s + 1 + t) R (by omega) (by omega) h1 h4]; rfl)
          (fun t h1 h2 => by
            show (!(p (s + 1 + t))) = true
            rw [topP_no (p := p) m (s + 1 + t) (by rw [HR.out]; omega) (by omega)]; rfl)
          (fun W hW i hi => cmore_any W N (N + 1) qb tb s i (p (s + 1 + i)) ((y0.below hX (by omega)).below hW (by have := hX.size; omega)) ((y1.below hX (by omega)).below hW (by have := hX.size; omega)) (by omega) (HF.out W ((y2.trans (hX.mono (by omega))).trans (hW.mono (by have := hX.size; omega))) (s + 1 + i) (by omega) (by omega))))
        have x1 := y1.cell 0
        simp at x1
        have HX1 := Lib.hid (fun W (h : Below w2.heap.size w2 W) => (y1.below h zr2).cell 0)
        simp at HX1
        have HY2 := Lib.hid y2
        obtain ⟨U, hU⟩ : ∃ U : Nat, min (2 * s - 1) m = U := ⟨_, rfl⟩
        rw [hU] at hRs HSR
        have HU := Lib.hid hU
        have hUi : min (2 * (s : Int) - 1) (m : Int) = (U : Int) := by omega
        obtain ⟨V, hV⟩ : ∃ V : Nat, U - s = V := ⟨_, rfl⟩
        rw [hV] at HSR
        have hVi : (U : Int) - (s : Int) = (V : Int) := by omega
        have HV := Lib.hid hV
        obtain ⟨D, hD⟩ : ∃ D : Nat, R - s = D := ⟨_, rfl⟩
        rw [hD] at HSR
        have hDi : (s : Int) + (D : Int) = (R : Int) := by omega
        have hw2 : N ≤ w2.heap.size := by omega
        have hwr : IntKind.i64.wrap (R : Int) = (R : Int) := IntWalk.i64_in _ (by omega)
        clear hU hV y0 y1 y2 hD
        go_wp2_with fail
        go_region_held3 (fun W => W.cell? ⟨N + 1, 0, none⟩ = some (.int .i64 s))
          (first | exact x1 | exact HX1.out _ (Below.refl _ _) | exact HX1.out _ (Below.refl _ _).drew | exact HX1.out _ b3)
          (first | (go_at_call 92; (with_reducible refine (HSR.out _ (Below.refl _ _).drew).mono ?_); rintro e w3 ⟨rfl, hb3⟩; have b3 : Below w2.heap.size w2 w3 := (Below.refl w2.heap.size w2).drew.trans hb3))
        go_wp2_with fail
        go_ret
        exact ⟨rfl, by rw [hN]; exact HY2.out.trans (b3.mono hw2)⟩
    · have hh2 : ¬ (s : Int) ≤ (m : Int) / 2 := by omega
      have HNO := Lib.hid (show ∀ j, min (2 * s - 1) m < j → j ≤ m → p j = false from fun j h1 h2 => by omega)
      obtain ⟨w2, hw2⟩ : ∃ w2, w2 = wr := ⟨_, rfl⟩
      subst hw2
      obtain ⟨y0, y1, y2⟩ := HST.out
      have zr2 := y1.lt
      clear q0 q1 q2 HST
      have hps' := hps
      have hRs : s ≤ R ∧ R ≤ min (2 * s - 1) m := by
        have h1 := topP_le p m
        rw [HR.out] at h1
        constructor
        · rcases Nat.lt_or_ge R s with h | h
          · have := topP_no (p := p) m s (by rw [HR.out]; exact h) hsm
            rw [hps'] at this
            cases this
          · exact h
        · rcases Nat.lt_or_ge (min (2 * s - 1) m) R with h | h
          · have h3 := HNO.out R h h1
            have h4 := topP_yes (p := p) m (by rw [HR.out]; omega)
            rw [HR.out, h3] at h4
            cases h4
          · exact h
      have HSR := Lib.hid (fun (X : World) (hX : Below w2.heap.size w2 X) => search_any X N (N + 1) (min (2 * s - 1) m - s) (R - s) (fun i => !(p (s + 1 + i))) (by omega) (by omega)
        (fun t ht => by
          have h4 := topP_yes (p := p) m (by rw [HR.out]; omega)
          rw [HR.out] at h4
          have h1 := topP_le p m
          rw [HR.out] at h1
          show (!(p (s + 1 + t))) = false
          rw [HM.out (s + 1 + t) R (by omega) (by omega) h1 h4]; rfl)
        (fun t h1 h2 => by
          show (!(p (s + 1 + t))) = true
          rw [topP_no (p := p) m (s + 1 + t) (by rw [HR.out]; omega) (by omega)]; rfl)
        (fun W hW i hi => cmore_any W N (N + 1) qb tb s i (p (s + 1 + i)) ((y0.below hX (by omega)).below hW (by have := hX.size; omega)) ((y1.below hX (by omega)).below hW (by have := hX.size; omega)) (by omega) (HF.out W ((y2.trans (hX.mono (by omega))).trans (hW.mono (by have := hX.size; omega))) (s + 1 + i) (by omega) (by omega))))
      have x1 := y1.cell 0
      simp at x1
      have HX1 := Lib.hid (fun W (h : Below w2.heap.size w2 W) => (y1.below h zr2).cell 0)
      simp at HX1
      have HY2 := Lib.hid y2
      obtain ⟨U, hU⟩ : ∃ U : Nat, min (2 * s - 1) m = U := ⟨_, rfl⟩
      rw [hU] at hRs HSR
      have HU := Lib.hid hU
      have hUi : min (2 * (s : Int) - 1) (m : Int) = (U : Int) := by omega
      obtain ⟨V, hV⟩ : ∃ V : Nat, U - s = V := ⟨_, rfl⟩
      rw [hV] at HSR
      have hVi : (U : Int) - (s : Int) = (V : Int) := by omega
      have HV := Lib.hid hV
      obtain ⟨D, hD⟩ : ∃ D : Nat, R - s = D := ⟨_, rfl⟩
      rw [hD] at HSR
      have hDi : (s : Int) + (D : Int) = (R : Int) := by omega
      have hw2 : N ≤ w2.heap.size := by omega
      have hwr : IntKind.i64.wrap (R : Int) = (R : Int) := IntWalk.i64_in _ (by omega)
      clear hU hV y0 y1 y2 hD
      go_wp2_with fail
      go_region_held3 (fun W => W.cell? ⟨N + 1, 0, none⟩ = some (.int .i64 s))
        (first | exact x1 | exact HX1.out _ (Below.refl _ _) | exact HX1.out _ (Below.refl _ _).drew | exact HX1.out _ b3)
        (first | (go_at_call 92; (with_reducible refine (HSR.out _ (Below.refl _ _).drew).mono ?_); rintro e w3 ⟨rfl, hb3⟩; have b3 : Below w2.heap.size w2 w3 := (Below.refl w2.heap.size w2).drew.trans hb3))
      go_wp2_with fail
      go_ret
      exact ⟨rfl, by rw [hN]; exact HY2.out.trans (b3.mono hw2)⟩
#print axioms cgreatest_any
end
end Go.Proofs.Ytlmpicfhbpnpbaa
