/-
  At every text the law on the places that sigtext's Parse tells comes out true, and nothing that lay in memory has changed. No condition.
-/
import Derived.Test.YtncjfnmkoiclbaaRows
import Derived.WalkKit
import Derived.ProofKit
import Derived.OpenShut
import Derived.ShutString
import Derived.ChangeOld
import Derived.Below
import Derived.Lib.SmallJoins
import Derived.Deep.LoopGhost
import Derived.Test.YtncjfnmkoiclbaaTextFixed
import Derived.Test.YtncjfnmkoiclbaaPlainPlaces
namespace Go.Proofs.Ytncjfnmkoiclbaa.sigtextPlaces
open Go.Proofs.Ytncjfnmkoiclbaa
open Go.ChangeShapes Go.WideShapes Go.ChangeAt Go.RowKit
open Go.ChangeMaps (open_string shut_string)
set_option linter.unusedVariables false

theorem own : ownKnob Try.prog.godebug = none := by kernel_rfl
theorem laidOut : laidOutB Try.prog = true := by kernel_rfl

set_option maxRecDepth 100000 in
set_option maxHeartbeats 2000000 in
theorem walk (a0 : ByteArray) (w : World) (w0 : a0.size ≤ maxLen) :
    Calls Try.prog 6 #[.string a0] w fun e w' => e = .returned (.bool true) ∧ Below w.heap.size w w' := by
  obtain ⟨xs, rfl, hxl, hxb⟩ := text_of a0
  have hn63 : xs.length ≤ 9223372036854775807 := by rw [hxl]; unfold maxLen at w0; omega
  clear w0 hxl
  have hsz := strOfNums_size xs
  have HFX := Lib.hid (fun W => tfix_any W)
  by_cases h3 : 3000 < xs.length
  · have h3i : (3000 : Int) < (xs.length : Int) := by omega
    clear h3
    go_enter Try.func6, Try.ntmps6
    go_wp2_with fail
    refine (HFX.out _).mono ?_
    rintro e w1 ⟨rfl, hb1⟩
    go_wp2_with fail
    go_ret
    exact ⟨rfl, hb1⟩
  · have h3i : ¬ (3000 : Int) < (xs.length : Int) := by omega
    have h3n : xs.length ≤ 3000 := by omega
    have HPA := Lib.hid (parse_any xs hxb (by omega) w)
    have HBK := Lib.hid (fun h => parseP_back (s := xs) h)
    have HEN := Lib.hid (fun h => place_end (s := xs) h)
    have HCO := Lib.hid (fun h => place_col (s := xs) h)
    have HXB := Lib.hid hxb
    clear h3 hxb
    generalize parseP xs = r at HPA HBK HEN HCO
    obtain ⟨L, e0, a, b⟩ := r
    simp only at HBK HEN HCO
    go_enter Try.func6, Try.ntmps6
    go_wp2_with fail
    refine HPA.out.mono ?_
    rintro e w1 ⟨⟨A, c, es, rfl, _, _⟩, hb1⟩
    simp only
    have HB1 := Lib.hid hb1
    clear hb1 HPA
    obtain ⟨m, hm⟩ : ∃ m, w1.heap.size = m := ⟨_, rfl⟩
    obtain ⟨pl, hpl⟩ : ∃ pl : Int, (a : Int) = pl := ⟨_, rfl⟩
    obtain ⟨pc, hpc⟩ : ∃ pc : Int, (b : Int) = pc := ⟨_, rfl⟩
    rw [hpl, hpc]
    obtain ⟨w2, hw2⟩ : ∃ w2, w1.alloc (.cells #[.int .i64 pl, .int .i64 pc] 43) = w2 := ⟨_, rfl⟩
    have h2 : Held w2 m 43 #[.int .i64 pl, .int .i64 pc] := by rw [← hw2, ← hm]; exact heap_alloc_new w1 _
    have b2 : Below m w1 w2 := by rw [← hw2, ← hm]; exact (Below.refl _ _).alloc (Nat.le_refl _) _
    have HH2 := Lib.hid h2
    have HB2 := Lib.hid (HB1.out.trans (b2.mono (by rw [← hm]; exact HB1.out.size)))
    have x0 := h2.cell 0
    have x1 := h2.cell 1
    have xl := h2.lt
    simp at x0 x1
    have HM := Lib.hid hm
    clear h2 b2 HB1
    by_cases he : e0 = 0
    · subst he
      obtain ⟨_, _, g3, g4⟩ := HBK.out rfl
      subst g3 g4
      obtain rfl : pl = 0 := by omega
      obtain rfl : pc = 0 := by omega
      have HW2 := Lib.hid hw2
      clear hpl hpc HBK HEN HCO x0 x1 xl hw2 hm
      go_wp2_with fail
      rw [HW2.out, HM.out]
      have xl := HH2.out.lt
      refine (HFX.out _).mono ?_
      rintro e w3 ⟨rfl, hb3⟩
      have y0 := (HH2.out.below hb3 xl).cell 0
      have y1 := (HH2.out.below hb3 xl).cell 1
      have yl := (HH2.out.below hb3 xl).lt
      simp at y0 y1
      have HB3 := Lib.hid (HB2.out.trans (hb3.mono HB2.out.size))
      have heq := run_eql_place w3 0 0 0 0
      clear hb3 xl
      go_wp2_with fail
      go_ret
      exact ⟨rfl, HB3.out⟩
    · have he1 : (e0 != 0) = true := bne_iff_ne.2 he
      have he2 : (e0 == 0) = false := beq_eq_false_iff_ne.2 he
      have hco := HCO.out he
      have HEN2 := Lib.hid (HEN.out he)
      have hpc1 : (1 : Int) ≤ pc := by omega
      have HPL := Lib.hid hpl
      have HPC := Lib.hid hpc
      clear he HBK HEN HCO hpl hpc hco
      go_wp2_with fail
      clear hw2 hm
      go_loopg [6, 7, 29] xs.length (fun gk lv cv i wr => ∃ (k : Nat) (l c : Int), k ≤ xs.length ∧ i = .int .i64 k ∧ lv = .int .i64 l ∧ cv = .int .i64 c ∧ Hid (xs.length - k = gk) ∧ Hid (l = ((stL xs k).1 : Int) ∧ c = ((stL xs k).2 : Int)) ∧ Hid (∀ j, j < k → ¬ AtP xs a b j) ∧ w2 = wr)
      case atStart => exact ⟨0, 1, 1, Nat.zero_le _, rfl, rfl, rfl, Lib.hid rfl, Lib.hid ⟨rfl, rfl⟩, Lib.hid (fun j h => absurd h (Nat.not_lt_zero _)), rfl⟩
      case round =>
        obtain ⟨k, l, c, hk, rfl, rfl, rfl, HGK, HLC, HNO, rfl⟩ := hrel
        obtain ⟨s1, s2, s3, s4⟩ := stL_small xs k
        have hl1 : 1 ≤ l ∧ l ≤ 3001 := by have := HLC.out.1; omega
        have hc1 : 1 ≤ c ∧ c ≤ 3001 := by have := HLC.out.2; omega
        obtain ⟨hl2, hl3⟩ := hl1
        obtain ⟨hc2, hc3⟩ := hc1
        clear s1 s2 s3 s4
        by_cases hlt : k < xs.length
        · have hat := str_at xs HXB.out k hlt (by omega)
          obtain ⟨z, hz⟩ : ∃ z, xs.getD k 0 = z := ⟨_, rfl⟩
          rw [hz] at hat
          have HZ := Lib.hid hz
          clear hz
          by_cases hl : l = pl
          · by_cases hcc : c = pc
            · have e1 : (l == pl) = true := beq_iff_eq.2 hl
              have e2 : (c == pc) = true := beq_iff_eq.2 hcc
              clear hl hcc
              go_wp2_with fail
              refine (HFX.out _).mono ?_
              rintro e w5 ⟨rfl, hb5⟩
              have y0 := (HH2.out.below hb5 xl).cell 0
              have y1 := (HH2.out.below hb5 xl).cell 1
              have yl := (HH2.out.below hb5 xl).lt
              simp at y0 y1
              have HB5 := Lib.hid (HB2.out.trans (hb5.mono HB2.out.size))
              clear hb5 x0 x1 xl
              go_wp2_with fail
              go_ret
              exact ⟨rfl, HB5.out⟩
            · have e1 : (l == pl) = true := beq_iff_eq.2 hl
              have e2 : (c == pc) = false := beq_eq_false_iff_ne.2 hcc
              by_cases h10' : z = 10
              · by_cases hge : pc ≤ c
                · have hz10 : (z == 10) = true := beq_iff_eq.2 h10'
                  clear hl hcc h10'
                  go_wp2_with fail
                  refine (HFX.out _).mono ?_
                  rintro e w5 ⟨rfl, hb5⟩
                  have y0 := (HH2.out.below hb5 xl).cell 0
                  have y1 := (HH2.out.below hb5 xl).cell 1
                  have yl := (HH2.out.below hb5 xl).lt
                  simp at y0 y1
                  have HB5 := Lib.hid (HB2.out.trans (hb5.mono HB2.out.size))
                  clear hb5 x0 x1 xl
                  go_wp2_with fail
                  go_ret
                  exact ⟨rfl, HB5.out⟩
                · clear hl
                  have hge' : ¬ pc ≤ c := hge
                  have hno : ¬ AtP xs a b k := fun h => by rcases h.2 with h2 | h2 <;> (have := HLC.out.2; have := HPC.out; omega)
                  have h10 := h10'
                  have HST2 := Lib.hid (show (stL xs (k + 1)).1 = (stL xs k).1 + 1 ∧ (stL xs (k + 1)).2 = 1 by rw [stL, if_pos (by rw [HZ.out]; exact h10)]; exact ⟨rfl, rfl⟩)
                  have HNA := Lib.hid (show ∀ j, j < k + 1 → ¬ AtP xs a b j from fun j hj => by
                    rcases Nat.lt_or_ge j k with h | h
                    · exact HNO.out j h
                    · obtain rfl : j = k := by omega
                      exact hno)
                  subst h10
                  clear hno
                  go_wp2_with fail
                  go_roundg (xs.length - (k + 1))
                  case measure => have := HGK.out; omega
                  case rel => exact ⟨k + 1, l + 1, 1, by omega, by go_num, rfl, rfl, Lib.hid rfl, Lib.hid ⟨by rw [HST2.out.1]; have := HLC.out.1; omega, by rw [HST2.out.2]; rfl⟩, HNA, rfl⟩
              · have hz10' : (z == 10) = false := beq_eq_false_iff_ne.2 h10'
                clear hl
                have hno : ¬ AtP xs a b k := fun h => by rcases h.2 with h2 | h2 <;> (have := HLC.out.2; have := HPC.out; have := HZ.out; omega)
                have h10 := h10'
                have HST2 := Lib.hid (show (stL xs (k + 1)).1 = (stL xs k).1 ∧ (stL xs (k + 1)).2 = (stL xs k).2 + 1 by rw [stL, if_neg (by rw [HZ.out]; exact h10)]; exact ⟨rfl, rfl⟩)
                have HNA := Lib.hid (show ∀ j, j < k + 1 → ¬ AtP xs a b j from fun j hj => by
                  rcases Nat.lt_or_ge j k with h | h
                  · exact HNO.out j h
                  · obtain rfl : j = k := by omega
                    exact hno)
                have hz10 : (z == 10) = false := beq_eq_false_iff_ne.2 h10
                clear hno
                go_wp2_with fail
                go_roundg (xs.length - (k + 1))
                case measure => have := HGK.out; omega
                case rel => exact ⟨k + 1, l, c + 1, by omega, by go_num, rfl, rfl, Lib.hid rfl, Lib.hid ⟨by rw [HST2.out.1]; have := HLC.out.1; omega, by rw [HST2.out.2]; have := HLC.out.2; omega⟩, HNA, rfl⟩
          · have e1 : (l == pl) = false := beq_eq_false_iff_ne.2 hl
            have hno : ¬ AtP xs a b k := fun h => hl (by have := HLC.out.1; have := HPL.out; have := h.1; omega)
            by_cases h10 : z = 10
            · have HST2 := Lib.hid (show (stL xs (k + 1)).1 = (stL xs k).1 + 1 ∧ (stL xs (k + 1)).2 = 1 by rw [stL, if_pos (by rw [HZ.out]; exact h10)]; exact ⟨rfl, rfl⟩)
              have HNA := Lib.hid (show ∀ j, j < k + 1 → ¬ AtP xs a b j from fun j hj => by
                rcases Nat.lt_or_ge j k with h | h
                · exact HNO.out j h
                · obtain rfl : j = k := by omega
                  exact hno)
              subst h10
              clear hno hl
              go_wp2_with fail
              go_roundg (xs.length - (k + 1))
              case measure => have := HGK.out; omega
              case rel => exact ⟨k + 1, l + 1, 1, by omega, by go_num, rfl, rfl, Lib.hid rfl, Lib.hid ⟨by rw [HST2.out.1]; have := HLC.out.1; omega, by rw [HST2.out.2]; rfl⟩, HNA, rfl⟩
            · have HST2 := Lib.hid (show (stL xs (k + 1)).1 = (stL xs k).1 ∧ (stL xs (k + 1)).2 = (stL xs k).2 + 1 by rw [stL, if_neg (by rw [HZ.out]; exact h10)]; exact ⟨rfl, rfl⟩)
              have HNA := Lib.hid (show ∀ j, j < k + 1 → ¬ AtP xs a b j from fun j hj => by
                rcases Nat.lt_or_ge j k with h | h
                · exact HNO.out j h
                · obtain rfl : j = k := by omega
                  exact hno)
              have hz10 : (z == 10) = false := beq_eq_false_iff_ne.2 h10
              clear hno hl
              go_wp2_with fail
              go_roundg (xs.length - (k + 1))
              case measure => have := HGK.out; omega
              case rel => exact ⟨k + 1, l, c + 1, by omega, by go_num, rfl, rfl, Lib.hid rfl, Lib.hid ⟨by rw [HST2.out.1]; have := HLC.out.1; omega, by rw [HST2.out.2]; have := HLC.out.2; omega⟩, HNA, rfl⟩
        · obtain rfl : k = xs.length := by omega
          obtain ⟨q1, q2⟩ := HEN2.out HNO.out
          have hl : l = pl := by have := HLC.out.1; have := HPL.out; omega
          have hcc : pc ≤ c := by have := HLC.out.2; have := HPC.out; omega
          have e1 : (l == pl) = true := beq_iff_eq.2 hl
          clear q1 q2 hl
          go_wp2_with fail
          refine (HFX.out _).mono ?_
          rintro e w5 ⟨rfl, hb5⟩
          have y0 := (HH2.out.below hb5 xl).cell 0
          have y1 := (HH2.out.below hb5 xl).cell 1
          have yl := (HH2.out.below hb5 xl).lt
          simp at y0 y1
          have HB5 := Lib.hid (HB2.out.trans (hb5.mono HB2.out.size))
          clear hb5 x0 x1 xl
          go_wp2_with fail
          go_ret
          exact ⟨rfl, HB5.out⟩

set_option maxRecDepth 100000 in
theorem lifted (os : Os) (started : os.Started) (H : Type) (enc : TypeId × Value → H) :
    ReturnsInHanded {} Try.checked os 6 .any (Rows.sigtextPlacesSpec.pre6 enc Try.prog Try.f6 Rows.sigtextPlacesRow.domain false) (Rows.sigtextPlacesSpec.post enc Try.prog Try.f6 false true false false) := by
  refine returnsInHanded_of_change (C := Try.checked) own started (by kernel_rfl) Try.func6
    (ChangeSpec.witness6 (enc := enc) (C := Try.checked) false ⟨#[], #[.string ⟨#[]⟩], []⟩ 8 (by kernel_rfl) (by kernel_rfl) (by kernel_rfl) (by kernel_rfl)) ?_
  intro W base args ds gs before hval0 hW hcnd _
  have hval : ∀ (j : Nat) t v, Try.f6.params[j]? = some t → args[j]? = some v → Value.okWide Try.prog W .any base t v := hval0
  have hW' := hW
  obtain ⟨p, q, hA0, hV, rfl, hfz, hnd⟩ := hW
  have hA : DataW.TrodAll enc Try.prog W 0 (fun _ => true) true Try.f6.params.toList args.toList ds p := hA0
  rw [Try.params6] at hA hval
  obtain ⟨v0, vs0, d0, ds0, p0, q0, hargs, rfl, rfl, h0, r0⟩ := trodAll_cons hA
  obtain ⟨rfl, rfl, rfl⟩ := trodAll_nil r0
  obtain rfl : args = #[v0] := by cases args; simp_all
  obtain ⟨rfl, rfl⟩ := trodVars_none hV
  obtain ⟨a0, rfl, rfl, rfl, w0⟩ := open_string Try.underlying9 (hval 0 9 v0 rfl rfl) h0
  clear hA0 hval0
  refine (walk a0 W w0).mono fun e W' ⟨he, bel⟩ => ?_
  subst he
  exact ⟨_, rfl, _, _, _, [], _, [], hW', trodAll_mk1 (shut_bool Try.underlying4 _), (trodAll_cons_mk (shut_string Try.underlying9 w0) (trodAll_mk0)), rfl, bel.frame _, fun h => by cases h⟩

theorem over : Rows.sigtextPlacesRow.holds Try.pinned (OpenSpec.ofChange Rows.sigtextPlacesSpec) :=
  OpenClaim.holds_of_wide 6 Try.f6 rfl rfl rfl rfl rfl rfl rfl ⟨rfl, rfl, rfl, rfl, rfl⟩ rfl rfl rfl rfl rfl (by kernel_rfl) Try.func6 (by kernel_rfl)
    (of_decide_eq_true (by kernel_rfl)) (by unfold Func.isWrapper; first | (rw [if_pos (by decide +kernel)]; kernel_rfl) | (rw [if_neg (by decide +kernel)]; exact ⟨rfl, rfl⟩))
    (fun os started H enc _ => lifted os started H enc)

theorem proved : Rows.SigtextPlacesSaid := over
#print axioms proved
end Go.Proofs.Ytncjfnmkoiclbaa.sigtextPlaces
