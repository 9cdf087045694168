/-
  Why a trace has no blocks: cut's check.
-/
import Derived.Test.YtlmpicfhbpnpbaaCutFit
namespace Go.Proofs.Ytlmpicfhbpnpbaa
open Go.RowKit Go.ChangeShapes Go.WideShapes
set_option linter.unusedVariables false

theorem aloneC_no {sig : List Pr} {l : List Pm} {k : Nat} {p : Pm} (h : l[k]? = some p) (hf : fitB sig [p] = false) : aloneC sig l = false := by
  cases ha : aloneC sig l with
  | false => rfl
  | true =>
    have := List.all_eq_true.1 ha p (List.mem_of_getElem? h)
    rw [hf] at this
    cases this
theorem aloneC_yes {sig : List Pr} {l : List Pm} (h : ∀ (j : Nat) (p : Pm), l[j]? = some p → fitB sig [p] = true) : aloneC sig l = true := List.all_eq_true.2 fun p hp => by
  obtain ⟨j, hj⟩ := List.mem_iff_getElem?.1 hp
  exact h j p hj

section
variable (A : Option Addr) (c : Nat) (ds : List Pd) (T : Option Addr) (ct : Nat) (ps : List Pm) (most : Int) (w : World)
set_option maxRecDepth 100000 in
set_option maxHeartbeats 1000000 in
theorem ccheck_any (hrow : PredRow w w.heap.size (.slice A ds.length c) ds) (ht : TrRow w w.heap.size (.slice T ps.length ct) ps) :
    Calls Try.prog 72 #[.slice A ds.length c, .slice T ps.length ct, .int .i64 most] w fun e w' => e = .returned (.int .i64 (whyC (ds.map (·.p)) ps most)) ∧ Below w.heap.size w w' := by
  obtain ⟨-, hc1, hc2⟩ := ht.1.len
  unfold whyC
  by_cases h0 : most < 1
  · rw [if_pos h0]
    clear hrow ht
    go_enter Try.func72, Try.ntmps72
    go_wp2_with fail
    go_ret
    exact ⟨rfl, Below.refl _ _⟩
  · rw [if_neg h0]
    have HCK := Lib.hid (tcheck_any A c ds T ct ps w hrow ht)
    by_cases h1 : (checkT (ds.map (·.p)) (ps.map (·.p))).1 = 0
    · rw [if_neg (fun h => h h1)]
      rw [h1] at HCK
      generalize (checkT (ds.map (·.p)) (ps.map (·.p))).2 = C2 at HCK
      have HROW := Lib.hid hrow
      have HTR := Lib.hid ht
      obtain ⟨R, hR⟩ : ∃ R : Int, (if aloneC (ds.map (·.p)) ps = true then (0 : Int) else 6) = R := ⟨_, rfl⟩
      rw [hR]
      have HR := Lib.hid hR
      clear hrow ht h1 hR
      obtain ⟨n, hn⟩ : ∃ n, ps.length = n := ⟨_, rfl⟩
      rw [hn] at HCK HTR hc1 ⊢
      have HN := Lib.hid hn
      clear hn
      go_enter Try.func72, Try.ntmps72
      go_wp2_with fail
      refine HCK.out.mono ?_
      rintro e w1 ⟨rfl, hb1⟩
      have HB1 := Lib.hid hb1
      clear hb1
      go_wp2_with fail
      go_loopg [24] n (fun gk i wr => ∃ k : Nat, i = .int .i64 k ∧ k ≤ n ∧ Hid (n - k = gk) ∧ Hid (∀ j p, j < k → ps[j]? = some p → fitB (ds.map (·.p)) [p] = true) ∧ Hid (Below w.heap.size w wr))
      case atStart => exact ⟨0, rfl, Nat.zero_le _, Lib.hid rfl, Lib.hid (fun j p hj _ => absurd hj (Nat.not_lt_zero _)), HB1⟩
      case round =>
        obtain ⟨k, rfl, hk, HGK, HALL, HB⟩ := hrel
        by_cases hlt : k < n
        · obtain ⟨d, hd⟩ : ∃ d, ps[k]? = some d := ⟨_, List.getElem?_eq_getElem (by rw [HN.out]; exact hlt)⟩
          have hz := HB.out.size
          obtain ⟨b, o, rfl, hb, x0, x1, hok, hl1, hl2⟩ := (HTR.out.below HB.out).at hd
          obtain ⟨w4, hw4⟩ : ∃ w4, wr.alloc (.cells #[.int .u64 d.tm, .slice d.A d.evs.length d.c] 39) = w4 := ⟨_, rfl⟩
          have s4 : w4.heap.size = wr.heap.size + 1 := by rw [← hw4, World.size_alloc]
          have hb4 : Below wr.heap.size wr w4 := by rw [← hw4]; exact (Below.refl _ _).alloc (Nat.le_refl _) _
          have hh4 : Held w4 wr.heap.size 39 #[.int .u64 d.tm, .slice d.A d.evs.length d.c] := by rw [← hw4]; exact heap_alloc_new wr _
          have y0 := hh4.cell 0
          have y1 := hh4.cell 1
          simp at y0 y1
          have hB4 := HB.out.trans (hb4.mono hz)
          have HF := Lib.hid (cfits_any A c ds w4 d ((HROW.out.below hB4).more (by omega)) ((hok.below (hb4.mono hz)).more (by omega)))
          have HB4 := Lib.hid hB4
          have HD := Lib.hid hd
          unfold Pm.val at HF
          clear hok hd hh4 hb4 hB4
          cases hf : fitB (ds.map (·.p)) [d] with
          | true =>
            rw [hf] at HF
            have HF1 := Lib.hid hf
            clear hf
            go_wp2_with fail
            refine HF.out.mono ?_
            rintro e w5 ⟨rfl, hb5⟩
            have HB5 := Lib.hid (HB4.out.trans (hb5.mono (by omega)))
            clear hb5 hw4 x0 x1 y0 y1
            go_wp2_with fail
            go_roundg (n - (k + 1))
            case measure => have := HGK.out; omega
            case rel => exact ⟨k + 1, by go_num, by omega, Lib.hid rfl, Lib.hid (fun j p hj hp => by
              by_cases hjk : j = k
              · subst hjk
                rw [HD.out] at hp
                injection hp with hp
                rw [← hp]
                exact HF1.out
              · exact HALL.out j p (by omega) hp), HB5⟩
          | false =>
            rw [hf] at HF
            have hR6 : R = 6 := by rw [← HR.out, aloneC_no HD.out hf]; rfl
            have HR6 := Lib.hid hR6
            clear hf hR6
            go_wp2_with fail
            refine HF.out.mono ?_
            rintro e w5 ⟨rfl, hb5⟩
            have HB5 := Lib.hid (HB4.out.trans (hb5.mono (by omega)))
            clear hb5 hw4 x0 x1 y0 y1
            go_wp2_with fail
            go_ret
            exact ⟨by rw [HR6.out]; rfl, HB5.out⟩
        · obtain rfl : n = k := by omega
          have hR0 : R = 0 := by rw [← HR.out, aloneC_yes (fun j p hp => HALL.out j p (by rw [← HN.out]; exact (List.getElem?_eq_some_iff.1 hp).1) hp)]; rfl
          have HR0 := Lib.hid hR0
          clear hR0
          go_wp2_with fail
          go_ret
          exact ⟨by rw [HR0.out]; rfl, HB.out⟩
    · rw [if_pos h1]
      have hne : ((checkT (ds.map (·.p)) (ps.map (·.p))).1 != 0) = true := bne_iff_ne.2 h1
      generalize checkT (ds.map (·.p)) (ps.map (·.p)) = C at HCK h1 hne ⊢
      clear hrow ht h1
      go_enter Try.func72, Try.ntmps72
      go_wp2_with fail
      refine HCK.out.mono ?_
      rintro e w1 ⟨rfl, hb1⟩
      go_wp2_with fail
      go_ret
      exact ⟨rfl, hb1⟩
#print axioms ccheck_any
end
end Go.Proofs.Ytlmpicfhbpnpbaa
