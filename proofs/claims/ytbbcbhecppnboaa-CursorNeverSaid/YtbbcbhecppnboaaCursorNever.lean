/-
  At every slice of bytes and every slice of steps the law on a cursor's place answers true, and nothing that lay in memory has changed. No condition.
-/
import Derived.Test.YtbbcbhecppnboaaRows
import Derived.WalkKit
import Derived.ProofKit
import Derived.OpenShut
import Derived.ShutString
import Derived.ChangeOld
import Derived.Below
import Derived.Deep.LoopGhost
import Derived.Test.YtbbcbhecppnboaaCurSteps
import Derived.Test.YtbbcbhecppnboaaArg
namespace Go.Proofs.Ytbbcbhecppnboaa.cursorNever
open Go.Proofs.Ytbbcbhecppnboaa
open Go.ChangeShapes Go.WideShapes Go.ChangeAt Go.RowKit
open Go.ChangeMaps (open_string shut_string)
set_option linter.unusedVariables false

theorem own : ownKnob Try.prog.godebug = none := by kernel_rfl
theorem laidOut : laidOutB Try.prog = true := by kernel_rfl

/-- What each round leaves: no place falls, none is beyond the bytes, and behind a stop nothing moves. -/
def Right (n p p' : Nat) (e e' : Int) : Prop := p ≤ p' ∧ p' ≤ n ∧ (e ≠ 0 → p' = p ∧ e' = e)

set_option maxRecDepth 100000 in
set_option maxHeartbeats 4000000 in
theorem walk (a0 : Option Addr) (len0 cap0 : Nat) (z0 : List Int) (a1 : Option Addr) (len1 cap1 : Nat) (l : List (Int × Int)) (w : World) (w0 : IsRow .u8 w a0 len0 cap0 z0) (w1 : IsSteps w a1 len1 cap1 l) :
    Calls Try.prog 11 #[.slice a0 len0 cap0, .slice a1 len1 cap1] w fun e w' => e = .returned (.bool true) ∧ Below w.heap.size w w' := by
  obtain ⟨xs, rfl, hrow, hby⟩ := Row.of_arg w0
  clear w0
  obtain ⟨hl1, hl2, hl3, hy0, hy1⟩ := id w1
  clear hy0 hy1
  unfold maxLen at hl3
  have hcap0 : xs.length ≤ 9223372036854775807 := by
    obtain ⟨_, _, hv, q1, q2, _, _⟩ := hrow
    injection hv with e1 e2 e3
    subst e3
    unfold maxLen at q2
    omega
  by_cases hg0 : 300 < xs.length
  · have i0 : (300 : Int) < (xs.length : Int) := by omega
    go_enter Try.func11, Try.ntmps11
    go_wp2_with (go_at_call 30; refine (cfixed_any _).mono ?_; rintro e w3 ⟨rfl, hb3⟩)
    go_ret
    exact ⟨rfl, hb3⟩
  · by_cases hg1 : 60 < len1
    · have i0 : (60 : Int) < (len1 : Int) := by omega
      go_enter Try.func11, Try.ntmps11
      go_wp2_with (go_at_call 30; refine (cfixed_any _).mono ?_; rintro e w3 ⟨rfl, hb3⟩)
      go_ret
      exact ⟨rfl, hb3⟩
    · have HN := Lib.hid (new_any a0 cap0 xs (by omega) w hrow); clear hrow
      have HST := Lib.hid w1; clear w1
      have HL1 := Lib.hid hl1; clear hl1
      have HBY := Lib.hid hby; clear hby
      obtain ⟨N, hN⟩ : ∃ N, xs.length = N := ⟨_, rfl⟩
      have HNN := Lib.hid hN
      rw [hN] at HN hg0 hcap0 ⊢
      clear hN
      go_enter Try.func11, Try.ntmps11
      go_wp2_with fail
      refine HN.out.mono ?_
      rintro r wn ⟨g, rfl, hKg, hcn, hbn⟩
      have HC := Lib.hid hcn; clear hcn
      go_wp2_with fail
      go_loopg [25] len1 (fun gk i wr => ∃ (k p : Nat) (e : Int), k + gk = len1 ∧ i = .int .i64 k ∧ p ≤ N ∧ Hid (Cur 91 wr w.heap.size g xs p e) ∧ Below w.heap.size w wr)
      case atStart => exact ⟨0, 0, 0, by omega, rfl, by omega, HC, hbn⟩
      case round =>
        clear HC hbn HN
        obtain ⟨k, p, e, hk, rfl, hpN, HC, hbw⟩ := hrel
        by_cases hlt : k < len1
        · obtain ⟨x, hx⟩ : ∃ x, l[k]? = some x := ⟨_, List.getElem?_eq_getElem (by rw [HL1.out]; exact hlt)⟩
          obtain ⟨_, _, _, hcl, hrg⟩ := HST.out.below hbw
          obtain ⟨b, o, rfl, hbl, hcc⟩ := hcl (by omega)
          obtain ⟨s0, s1⟩ := hcc k x hx
          obtain ⟨⟨r1, r2⟩, ⟨r3, r4⟩⟩ := hrg x (List.mem_of_getElem? hx)
          obtain ⟨kd, nn⟩ := x
          simp only at s0 s1 r1 r2 r3 r4
          clear hcl hcc hrg hx
          have i1 : (k : Int) < (len1 : Int) := by omega
          go_wp2_with fail
          have H1 : Held (wr.alloc (.cells #[.int .i64 kd, .int .i64 nn] 61)) wr.heap.size 61 #[.int .i64 kd, .int .i64 nn] := heap_alloc_new _ _
          have HC1 := Lib.hid (HC.out.below ((Below.refl _ _).alloc (Nat.le_refl _) (.cells #[.int .i64 kd, .int .i64 nn] 61)) hKg)
          have hb1 := hbw.alloc hbw.size (.cells #[.int .i64 kd, .int .i64 nn] 61)
          clear HC hbw s0 s1 hbl
          generalize wr.alloc (.cells #[.int .i64 kd, .int .i64 nn] 61) = W1 at *
          generalize wr.heap.size = N1 at *
          have c0 := H1.cell 0
          have c1 := H1.cell 1
          simp only [List.getElem?_toArray, List.getElem?_cons_zero, List.getElem?_cons_succ] at c0 c1
          clear H1
          refine (at_any HC1.out).mono ?_
          rintro r w3 ⟨rfl, rfl⟩
          go_wp2_with fail
          refine (err_any HC1.out).mono ?_
          rintro r w3 ⟨rfl, rfl⟩
          by_cases k0 : kd = 0
          · subst k0
            have hcall := byte_any HC1.out (by rw [HNN.out]; exact hpN) hKg HBY.out
            have hR : Right N p (tk 0 p e (getB (xs.drop p))).2.1 e (tk 0 p e (getB (xs.drop p))).2.2 := tk_never hpN (by have := (getB_fits (xs.drop p)).1; rw [List.length_drop, HNN.out] at this; exact this)
            generalize tk 0 p e (getB (xs.drop p)) = t at hcall hR
            obtain ⟨v, p', e'⟩ := t
            simp only at hR
            have HCALL := Lib.hid hcall; clear hcall
            go_wp2_with fail
            refine HCALL.out.mono ?_
            rintro r W2 ⟨rfl, hc2, hg2⟩
            have HC2 := Lib.hid hc2; clear hc2
            have hB2 : Below w.heap.size w W2 := hb1.grown hg2 hb1.size (fun j hj => by injection hj with hj; omega)
            obtain ⟨u1, u2, u3⟩ := hR
            have hl := left_any HC2.out (by rw [HNN.out]; exact u2)
            rw [HNN.out] at hl
            have HL := Lib.hid hl; clear hl
            have t1 : ((((N - p' : Nat) : Int)) != (N : Int) - (p' : Int)) = false := by rw [bne_eq_false_iff_eq]; omega
            by_cases he : e = 0
            · subst he
              clear u3
              go_wp2_with fail
              refine (at_any HC2.out).mono ?_
              rintro r w3 ⟨rfl, rfl⟩
              go_wp2_with fail
              refine (at_any HC2.out).mono ?_
              rintro r w3 ⟨rfl, rfl⟩
              go_wp2_with fail
              refine HL.out.mono ?_
              rintro r w3 ⟨rfl, n1, rfl⟩
              have HC3 : Hid (Cur 91 (W2.drewN n1) w.heap.size g xs p' e') := HC2.out.keep (fun _ _ _ => rfl) hKg
              go_wp2_with fail
              refine (at_any HC3.out).mono ?_
              rintro r w3 ⟨rfl, rfl⟩
              go_wp2_with fail
              go_roundg (gk - 1)
              case measure => omega
              case rel => exact ⟨k + 1, p', e', by omega, by go_num, by omega, HC3, below_drewN hB2 n1⟩
            · obtain ⟨rfl, rfl⟩ := u3 he
              have he1 : (e' != 0) = true := by simpa using he
              have he2 : (e' != e') = false := by simp
              have he3 : ((p' : Int) != (p' : Int)) = false := by simp
              go_wp2_with fail
              refine (at_any HC2.out).mono ?_
              rintro r w3 ⟨rfl, rfl⟩
              go_wp2_with fail
              refine (at_any HC2.out).mono ?_
              rintro r w3 ⟨rfl, rfl⟩
              go_wp2_with fail
              refine HL.out.mono ?_
              rintro r w3 ⟨rfl, n1, rfl⟩
              have HC3 : Hid (Cur 91 (W2.drewN n1) w.heap.size g xs p' e') := HC2.out.keep (fun _ _ _ => rfl) hKg
              go_wp2_with fail
              refine (at_any HC3.out).mono ?_
              rintro r w3 ⟨rfl, rfl⟩
              go_wp2_with fail
              refine (at_any HC3.out).mono ?_
              rintro r w3 ⟨rfl, rfl⟩
              go_wp2_with fail
              refine (err_any HC3.out).mono ?_
              rintro r w3 ⟨rfl, rfl⟩
              go_wp2_with fail
              go_roundg (gk - 1)
              case measure => omega
              case rel => exact ⟨k + 1, p', e', by omega, by go_num, by omega, HC3, below_drewN hB2 n1⟩
          · have q0 : (kd == 0) = false := beq_eq_false_iff_ne.2 k0
            by_cases k1 : kd = 1
            · subst k1
              have hcall := number_any (IntKind.u64.wrap nn) HC1.out (by rw [HNN.out]; exact hpN) hKg HBY.out
              have hR : Right N p (tk 0 p e (getN (IntKind.u64.wrap nn) (xs.drop p))).2.1 e (tk 0 p e (getN (IntKind.u64.wrap nn) (xs.drop p))).2.2 := tk_never hpN (by have := (getN_fits (IntKind.u64.wrap nn) (xs.drop p) (drop_bytes HBY.out p)).1; rw [List.length_drop, HNN.out] at this; exact this)
              generalize tk 0 p e (getN (IntKind.u64.wrap nn) (xs.drop p)) = t at hcall hR
              obtain ⟨v, p', e'⟩ := t
              simp only at hR
              have HCALL := Lib.hid hcall; clear hcall
              go_wp2_with fail
              refine HCALL.out.mono ?_
              rintro r W2 ⟨rfl, hc2, hg2⟩
              have HC2 := Lib.hid hc2; clear hc2
              have hB2 : Below w.heap.size w W2 := hb1.grown hg2 hb1.size (fun j hj => by injection hj with hj; omega)
              obtain ⟨u1, u2, u3⟩ := hR
              have hl := left_any HC2.out (by rw [HNN.out]; exact u2)
              rw [HNN.out] at hl
              have HL := Lib.hid hl; clear hl
              have t1 : ((((N - p' : Nat) : Int)) != (N : Int) - (p' : Int)) = false := by rw [bne_eq_false_iff_eq]; omega
              by_cases he : e = 0
              · subst he
                clear u3
                go_wp2_with fail
                refine (at_any HC2.out).mono ?_
                rintro r w3 ⟨rfl, rfl⟩
                go_wp2_with fail
                refine (at_any HC2.out).mono ?_
                rintro r w3 ⟨rfl, rfl⟩
                go_wp2_with fail
                refine HL.out.mono ?_
                rintro r w3 ⟨rfl, n1, rfl⟩
                have HC3 : Hid (Cur 91 (W2.drewN n1) w.heap.size g xs p' e') := HC2.out.keep (fun _ _ _ => rfl) hKg
                go_wp2_with fail
                refine (at_any HC3.out).mono ?_
                rintro r w3 ⟨rfl, rfl⟩
                go_wp2_with fail
                go_roundg (gk - 1)
                case measure => omega
                case rel => exact ⟨k + 1, p', e', by omega, by go_num, by omega, HC3, below_drewN hB2 n1⟩
              · obtain ⟨rfl, rfl⟩ := u3 he
                have he1 : (e' != 0) = true := by simpa using he
                have he2 : (e' != e') = false := by simp
                have he3 : ((p' : Int) != (p' : Int)) = false := by simp
                go_wp2_with fail
                refine (at_any HC2.out).mono ?_
                rintro r w3 ⟨rfl, rfl⟩
                go_wp2_with fail
                refine (at_any HC2.out).mono ?_
                rintro r w3 ⟨rfl, rfl⟩
                go_wp2_with fail
                refine HL.out.mono ?_
                rintro r w3 ⟨rfl, n1, rfl⟩
                have HC3 : Hid (Cur 91 (W2.drewN n1) w.heap.size g xs p' e') := HC2.out.keep (fun _ _ _ => rfl) hKg
                go_wp2_with fail
                refine (at_any HC3.out).mono ?_
                rintro r w3 ⟨rfl, rfl⟩
                go_wp2_with fail
                refine (at_any HC3.out).mono ?_
                rintro r w3 ⟨rfl, rfl⟩
                go_wp2_with fail
                refine (err_any HC3.out).mono ?_
                rintro r w3 ⟨rfl, rfl⟩
                go_wp2_with fail
                go_roundg (gk - 1)
                case measure => omega
                case rel => exact ⟨k + 1, p', e', by omega, by go_num, by omega, HC3, below_drewN hB2 n1⟩
            · have q1 : (kd == 1) = false := beq_eq_false_iff_ne.2 k1
              by_cases k2 : kd = 2
              · subst k2
                have hcall := signed_any HC1.out (by rw [HNN.out]; exact hpN) hKg HBY.out
                have hR : Right N p (tk 0 p e (getS (xs.drop p))).2.1 e (tk 0 p e (getS (xs.drop p))).2.2 := tk_never hpN (by have := (getS_fits (xs.drop p) (drop_bytes HBY.out p)).1; rw [List.length_drop, HNN.out] at this; exact this)
                generalize tk 0 p e (getS (xs.drop p)) = t at hcall hR
                obtain ⟨v, p', e'⟩ := t
                simp only at hR
                have HCALL := Lib.hid hcall; clear hcall
                go_wp2_with fail
                refine HCALL.out.mono ?_
                rintro r W2 ⟨rfl, hc2, hg2⟩
                have HC2 := Lib.hid hc2; clear hc2
                have hB2 : Below w.heap.size w W2 := hb1.grown hg2 hb1.size (fun j hj => by injection hj with hj; omega)
                obtain ⟨u1, u2, u3⟩ := hR
                have hl := left_any HC2.out (by rw [HNN.out]; exact u2)
                rw [HNN.out] at hl
                have HL := Lib.hid hl; clear hl
                have t1 : ((((N - p' : Nat) : Int)) != (N : Int) - (p' : Int)) = false := by rw [bne_eq_false_iff_eq]; omega
                by_cases he : e = 0
                · subst he
                  clear u3
                  go_wp2_with fail
                  refine (at_any HC2.out).mono ?_
                  rintro r w3 ⟨rfl, rfl⟩
                  go_wp2_with fail
                  refine (at_any HC2.out).mono ?_
                  rintro r w3 ⟨rfl, rfl⟩
                  go_wp2_with fail
                  refine HL.out.mono ?_
                  rintro r w3 ⟨rfl, n1, rfl⟩
                  have HC3 : Hid (Cur 91 (W2.drewN n1) w.heap.size g xs p' e') := HC2.out.keep (fun _ _ _ => rfl) hKg
                  go_wp2_with fail
                  refine (at_any HC3.out).mono ?_
                  rintro r w3 ⟨rfl, rfl⟩
                  go_wp2_with fail
                  go_roundg (gk - 1)
                  case measure => omega
                  case rel => exact ⟨k + 1, p', e', by omega, by go_num, by omega, HC3, below_drewN hB2 n1⟩
                · obtain ⟨rfl, rfl⟩ := u3 he
                  have he1 : (e' != 0) = true := by simpa using he
                  have he2 : (e' != e') = false := by simp
                  have he3 : ((p' : Int) != (p' : Int)) = false := by simp
                  go_wp2_with fail
                  refine (at_any HC2.out).mono ?_
                  rintro r w3 ⟨rfl, rfl⟩
                  go_wp2_with fail
                  refine (at_any HC2.out).mono ?_
                  rintro r w3 ⟨rfl, rfl⟩
                  go_wp2_with fail
                  refine HL.out.mono ?_
                  rintro r w3 ⟨rfl, n1, rfl⟩
                  have HC3 : Hid (Cur 91 (W2.drewN n1) w.heap.size g xs p' e') := HC2.out.keep (fun _ _ _ => rfl) hKg
                  go_wp2_with fail
                  refine (at_any HC3.out).mono ?_
                  rintro r w3 ⟨rfl, rfl⟩
                  go_wp2_with fail
                  refine (at_any HC3.out).mono ?_
                  rintro r w3 ⟨rfl, rfl⟩
                  go_wp2_with fail
                  refine (err_any HC3.out).mono ?_
                  rintro r w3 ⟨rfl, rfl⟩
                  go_wp2_with fail
                  go_roundg (gk - 1)
                  case measure => omega
                  case rel => exact ⟨k + 1, p', e', by omega, by go_num, by omega, HC3, below_drewN hB2 n1⟩
              · have q2 : (kd == 2) = false := beq_eq_false_iff_ne.2 k2
                by_cases k3 : kd = 3
                · subst k3
                  have hcall := text_any nn r3 r4 HC1.out (by rw [HNN.out]; exact hpN) hKg HBY.out
                  have hR : Right N p (tk [] p e (getT nn (xs.drop p))).2.1 e (tk [] p e (getT nn (xs.drop p))).2.2 := tk_never hpN (by have := (getT_fits nn (xs.drop p) (drop_bytes HBY.out p)).1; rw [List.length_drop, HNN.out] at this; exact this)
                  generalize tk [] p e (getT nn (xs.drop p)) = t at hcall hR
                  obtain ⟨v, p', e'⟩ := t
                  simp only at hR
                  have HCALL := Lib.hid hcall; clear hcall
                  go_wp2_with fail
                  refine HCALL.out.mono ?_
                  rintro r W2 ⟨rfl, hc2, hg2⟩
                  have HC2 := Lib.hid hc2; clear hc2
                  have hB2 : Below w.heap.size w W2 := hb1.grown hg2 hb1.size (fun j hj => by injection hj with hj; omega)
                  obtain ⟨u1, u2, u3⟩ := hR
                  have hl := left_any HC2.out (by rw [HNN.out]; exact u2)
                  rw [HNN.out] at hl
                  have HL := Lib.hid hl; clear hl
                  have t1 : ((((N - p' : Nat) : Int)) != (N : Int) - (p' : Int)) = false := by rw [bne_eq_false_iff_eq]; omega
                  by_cases he : e = 0
                  · subst he
                    clear u3
                    go_wp2_with fail
                    refine (at_any HC2.out).mono ?_
                    rintro r w3 ⟨rfl, rfl⟩
                    go_wp2_with fail
                    refine (at_any HC2.out).mono ?_
                    rintro r w3 ⟨rfl, rfl⟩
                    go_wp2_with fail
                    refine HL.out.mono ?_
                    rintro r w3 ⟨rfl, n1, rfl⟩
                    have HC3 : Hid (Cur 91 (W2.drewN n1) w.heap.size g xs p' e') := HC2.out.keep (fun _ _ _ => rfl) hKg
                    go_wp2_with fail
                    refine (at_any HC3.out).mono ?_
                    rintro r w3 ⟨rfl, rfl⟩
                    go_wp2_with fail
                    go_roundg (gk - 1)
                    case measure => omega
                    case rel => exact ⟨k + 1, p', e', by omega, by go_num, by omega, HC3, below_drewN hB2 n1⟩
                  · obtain ⟨rfl, rfl⟩ := u3 he
                    have he1 : (e' != 0) = true := by simpa using he
                    have he2 : (e' != e') = false := by simp
                    have he3 : ((p' : Int) != (p' : Int)) = false := by simp
                    go_wp2_with fail
                    refine (at_any HC2.out).mono ?_
                    rintro r w3 ⟨rfl, rfl⟩
                    go_wp2_with fail
                    refine (at_any HC2.out).mono ?_
                    rintro r w3 ⟨rfl, rfl⟩
                    go_wp2_with fail
                    refine HL.out.mono ?_
                    rintro r w3 ⟨rfl, n1, rfl⟩
                    have HC3 : Hid (Cur 91 (W2.drewN n1) w.heap.size g xs p' e') := HC2.out.keep (fun _ _ _ => rfl) hKg
                    go_wp2_with fail
                    refine (at_any HC3.out).mono ?_
                    rintro r w3 ⟨rfl, rfl⟩
                    go_wp2_with fail
                    refine (at_any HC3.out).mono ?_
                    rintro r w3 ⟨rfl, rfl⟩
                    go_wp2_with fail
                    refine (err_any HC3.out).mono ?_
                    rintro r w3 ⟨rfl, rfl⟩
                    go_wp2_with fail
                    go_roundg (gk - 1)
                    case measure => omega
                    case rel => exact ⟨k + 1, p', e', by omega, by go_num, by omega, HC3, below_drewN hB2 n1⟩
                · have q3 : (kd == 3) = false := beq_eq_false_iff_ne.2 k3
                  by_cases k4 : kd = 4
                  · subst k4
                    have hcall := done_any HC1.out (by rw [HNN.out]; exact hpN) hKg
                    have hR : Right N p p e (doneI xs.length p e).2 := ⟨Nat.le_refl _, hpN, fun he => ⟨rfl, by unfold doneI; rw [if_neg he]⟩⟩
                    generalize doneI xs.length p e = t at hcall hR
                    obtain ⟨v, e'⟩ := t
                    simp only at hR
                    obtain ⟨p', hp'⟩ : ∃ p', p' = p := ⟨p, rfl⟩
                    have HP := Lib.hid hp'; clear hp'
                    have HCALL := Lib.hid hcall; clear hcall
                    go_wp2_with fail
                    refine HCALL.out.mono ?_
                    rintro r W2 ⟨rfl, hc2, hg2⟩
                    have HC2 : Hid (Cur 91 W2 w.heap.size g xs p' e') := by rw [HP.out]; exact hc2
                    have hR' : Right N p p' e e' := by rw [HP.out]; exact hR
                    clear hc2 hR HP
                    have hR := hR'
                    clear hR'
                    have hB2 : Below w.heap.size w W2 := hb1.grown hg2 hb1.size (fun j hj => by injection hj with hj; omega)
                    obtain ⟨u1, u2, u3⟩ := hR
                    have hl := left_any HC2.out (by rw [HNN.out]; exact u2)
                    rw [HNN.out] at hl
                    have HL := Lib.hid hl; clear hl
                    have t1 : ((((N - p' : Nat) : Int)) != (N : Int) - (p' : Int)) = false := by rw [bne_eq_false_iff_eq]; omega
                    by_cases he : e = 0
                    · subst he
                      clear u3
                      go_wp2_with fail
                      refine (at_any HC2.out).mono ?_
                      rintro r w3 ⟨rfl, rfl⟩
                      go_wp2_with fail
                      refine (at_any HC2.out).mono ?_
                      rintro r w3 ⟨rfl, rfl⟩
                      go_wp2_with fail
                      refine HL.out.mono ?_
                      rintro r w3 ⟨rfl, n1, rfl⟩
                      have HC3 : Hid (Cur 91 (W2.drewN n1) w.heap.size g xs p' e') := HC2.out.keep (fun _ _ _ => rfl) hKg
                      go_wp2_with fail
                      refine (at_any HC3.out).mono ?_
                      rintro r w3 ⟨rfl, rfl⟩
                      go_wp2_with fail
                      go_roundg (gk - 1)
                      case measure => omega
                      case rel => exact ⟨k + 1, p', e', by omega, by go_num, by omega, HC3, below_drewN hB2 n1⟩
                    · obtain ⟨rfl, rfl⟩ := u3 he
                      have he1 : (e' != 0) = true := by simpa using he
                      have he2 : (e' != e') = false := by simp
                      have he3 : ((p' : Int) != (p' : Int)) = false := by simp
                      go_wp2_with fail
                      refine (at_any HC2.out).mono ?_
                      rintro r w3 ⟨rfl, rfl⟩
                      go_wp2_with fail
                      refine (at_any HC2.out).mono ?_
                      rintro r w3 ⟨rfl, rfl⟩
                      go_wp2_with fail
                      refine HL.out.mono ?_
                      rintro r w3 ⟨rfl, n1, rfl⟩
                      have HC3 : Hid (Cur 91 (W2.drewN n1) w.heap.size g xs p' e') := HC2.out.keep (fun _ _ _ => rfl) hKg
                      go_wp2_with fail
                      refine (at_any HC3.out).mono ?_
                      rintro r w3 ⟨rfl, rfl⟩
                      go_wp2_with fail
                      refine (at_any HC3.out).mono ?_
                      rintro r w3 ⟨rfl, rfl⟩
                      go_wp2_with fail
                      refine (err_any HC3.out).mono ?_
                      rintro r w3 ⟨rfl, rfl⟩
                      go_wp2_with fail
                      go_roundg (gk - 1)
                      case measure => omega
                      case rel => exact ⟨k + 1, p', e', by omega, by go_num, by omega, HC3, below_drewN hB2 n1⟩
                  · have q4 : (kd == 4) = false := beq_eq_false_iff_ne.2 k4
                    by_cases k5 : kd = 5
                    · subst k5
                      have hcall := stop_any nn HC1.out
                      have hR : Right N p p e (stopI e nn) := ⟨Nat.le_refl _, hpN, fun he => ⟨rfl, stopI_kept he nn⟩⟩
                      generalize stopI e nn = e' at hcall hR
                      obtain ⟨p', hp'⟩ : ∃ p', p' = p := ⟨p, rfl⟩
                      have HP := Lib.hid hp'; clear hp'
                      have HCALL := Lib.hid hcall; clear hcall
                      go_wp2_with fail
                      refine HCALL.out.mono ?_
                      rintro r W2 ⟨rfl, hc2, hg2⟩
                      have HC2 : Hid (Cur 91 W2 w.heap.size g xs p' e') := by rw [HP.out]; exact hc2
                      have hR' : Right N p p' e e' := by rw [HP.out]; exact hR
                      clear hc2 hR HP
                      have hR := hR'
                      clear hR'
                      have hB2 : Below w.heap.size w W2 := hb1.grown hg2 hb1.size (fun j hj => by injection hj with hj; omega)
                      obtain ⟨u1, u2, u3⟩ := hR
                      have hl := left_any HC2.out (by rw [HNN.out]; exact u2)
                      rw [HNN.out] at hl
                      have HL := Lib.hid hl; clear hl
                      have t1 : ((((N - p' : Nat) : Int)) != (N : Int) - (p' : Int)) = false := by rw [bne_eq_false_iff_eq]; omega
                      by_cases he : e = 0
                      · subst he
                        clear u3
                        go_wp2_with fail
                        refine (at_any HC2.out).mono ?_
                        rintro r w3 ⟨rfl, rfl⟩
                        go_wp2_with fail
                        refine (at_any HC2.out).mono ?_
                        rintro r w3 ⟨rfl, rfl⟩
                        go_wp2_with fail
                        refine HL.out.mono ?_
                        rintro r w3 ⟨rfl, n1, rfl⟩
                        have HC3 : Hid (Cur 91 (W2.drewN n1) w.heap.size g xs p' e') := HC2.out.keep (fun _ _ _ => rfl) hKg
                        go_wp2_with fail
                        refine (at_any HC3.out).mono ?_
                        rintro r w3 ⟨rfl, rfl⟩
                        go_wp2_with fail
                        go_roundg (gk - 1)
                        case measure => omega
                        case rel => exact ⟨k + 1, p', e', by omega, by go_num, by omega, HC3, below_drewN hB2 n1⟩
                      · obtain ⟨rfl, rfl⟩ := u3 he
                        have he1 : (e' != 0) = true := by simpa using he
                        have he2 : (e' != e') = false := by simp
                        have he3 : ((p' : Int) != (p' : Int)) = false := by simp
                        go_wp2_with fail
                        refine (at_any HC2.out).mono ?_
                        rintro r w3 ⟨rfl, rfl⟩
                        go_wp2_with fail
                        refine (at_any HC2.out).mono ?_
                        rintro r w3 ⟨rfl, rfl⟩
                        go_wp2_with fail
                        refine HL.out.mono ?_
                        rintro r w3 ⟨rfl, n1, rfl⟩
                        have HC3 : Hid (Cur 91 (W2.drewN n1) w.heap.size g xs p' e') := HC2.out.keep (fun _ _ _ => rfl) hKg
                        go_wp2_with fail
                        refine (at_any HC3.out).mono ?_
                        rintro r w3 ⟨rfl, rfl⟩
                        go_wp2_with fail
                        refine (at_any HC3.out).mono ?_
                        rintro r w3 ⟨rfl, rfl⟩
                        go_wp2_with fail
                        refine (err_any HC3.out).mono ?_
                        rintro r w3 ⟨rfl, rfl⟩
                        go_wp2_with fail
                        go_roundg (gk - 1)
                        case measure => omega
                        case rel => exact ⟨k + 1, p', e', by omega, by go_num, by omega, HC3, below_drewN hB2 n1⟩
                    · have q5 : (kd == 5) = false := beq_eq_false_iff_ne.2 k5
                      obtain ⟨p', hp'⟩ : ∃ p', p' = p := ⟨p, rfl⟩
                      obtain ⟨e', he'⟩ : ∃ e', e' = e := ⟨e, rfl⟩
                      obtain ⟨W2, hW2⟩ : ∃ W2, W2 = W1 := ⟨W1, rfl⟩
                      have hg2 : W1.grownBy W2 (some g) := by rw [hW2]; exact World.grownBy.refl _ _
                      have HC2 : Hid (Cur 91 W2 w.heap.size g xs p' e') := by rw [hp', he', hW2]; exact HC1.out
                      have hR : Right N p p' e e' := by rw [hp', he']; exact ⟨Nat.le_refl _, hpN, fun _ => ⟨rfl, rfl⟩⟩
                      rw [← hW2] at c0
                      rw [← hW2]
                      clear hp' he' c1
                      clear hW2

                      have hB2 : Below w.heap.size w W2 := hb1.grown hg2 hb1.size (fun j hj => by injection hj with hj; omega)
                      obtain ⟨u1, u2, u3⟩ := hR
                      have hl := left_any HC2.out (by rw [HNN.out]; exact u2)
                      rw [HNN.out] at hl
                      have HL := Lib.hid hl; clear hl
                      have t1 : ((((N - p' : Nat) : Int)) != (N : Int) - (p' : Int)) = false := by rw [bne_eq_false_iff_eq]; omega
                      by_cases he : e = 0
                      · subst he
                        clear u3
                        go_wp2_with fail
                        refine (at_any HC2.out).mono ?_
                        rintro r w3 ⟨rfl, rfl⟩
                        go_wp2_with fail
                        refine (at_any HC2.out).mono ?_
                        rintro r w3 ⟨rfl, rfl⟩
                        go_wp2_with fail
                        refine HL.out.mono ?_
                        rintro r w3 ⟨rfl, n1, rfl⟩
                        have HC3 : Hid (Cur 91 (W2.drewN n1) w.heap.size g xs p' e') := HC2.out.keep (fun _ _ _ => rfl) hKg
                        go_wp2_with fail
                        refine (at_any HC3.out).mono ?_
                        rintro r w3 ⟨rfl, rfl⟩
                        go_wp2_with fail
                        go_roundg (gk - 1)
                        case measure => omega
                        case rel => exact ⟨k + 1, p', e', by omega, by go_num, by omega, HC3, below_drewN hB2 n1⟩
                      · obtain ⟨rfl, rfl⟩ := u3 he
                        have he1 : (e' != 0) = true := by simpa using he
                        have he2 : (e' != e') = false := by simp
                        have he3 : ((p' : Int) != (p' : Int)) = false := by simp
                        go_wp2_with fail
                        refine (at_any HC2.out).mono ?_
                        rintro r w3 ⟨rfl, rfl⟩
                        go_wp2_with fail
                        refine (at_any HC2.out).mono ?_
                        rintro r w3 ⟨rfl, rfl⟩
                        go_wp2_with fail
                        refine HL.out.mono ?_
                        rintro r w3 ⟨rfl, n1, rfl⟩
                        have HC3 : Hid (Cur 91 (W2.drewN n1) w.heap.size g xs p' e') := HC2.out.keep (fun _ _ _ => rfl) hKg
                        go_wp2_with fail
                        refine (at_any HC3.out).mono ?_
                        rintro r w3 ⟨rfl, rfl⟩
                        go_wp2_with fail
                        refine (at_any HC3.out).mono ?_
                        rintro r w3 ⟨rfl, rfl⟩
                        go_wp2_with fail
                        refine (err_any HC3.out).mono ?_
                        rintro r w3 ⟨rfl, rfl⟩
                        go_wp2_with fail
                        go_roundg (gk - 1)
                        case measure => omega
                        case rel => exact ⟨k + 1, p', e', by omega, by go_num, by omega, HC3, below_drewN hB2 n1⟩
        · obtain rfl : k = len1 := by omega
          go_wp2_with (go_at_call 30; refine (cfixed_any _).mono ?_; rintro e w3 ⟨rfl, hb3⟩)
          go_ret
          exact ⟨rfl, hbw.trans (hb3.mono hbw.size)⟩

set_option maxRecDepth 100000 in
theorem lifted (os : Os) (started : os.Started) (H : Type) (enc : TypeId × Value → H) :
    ReturnsInHanded {} Try.checked os 11 .any (Rows.cursorNeverSpec.pre6 enc Try.prog Try.f11 Rows.cursorNeverRow.domain false) (Rows.cursorNeverSpec.post enc Try.prog Try.f11 false true false false) := by
  refine returnsInHanded_of_change (C := Try.checked) own started (by kernel_rfl) Try.func11
    (ChangeSpec.witness6 (enc := enc) (C := Try.checked) false ⟨#[], #[.slice none 0 0, .slice none 0 0], []⟩ 8 (by kernel_rfl) (by kernel_rfl) (by kernel_rfl) (by kernel_rfl)) ?_
  intro W base args ds gs before hval0 hW hcnd _
  have hval : ∀ (j : Nat) t v, Try.f11.params[j]? = some t → args[j]? = some v → Value.okWide Try.prog W .any base t v := hval0
  have hW' := hW
  obtain ⟨p, q, hA0, hV, rfl, hfz, hnd⟩ := hW
  have hA : DataW.TrodAll enc Try.prog W 0 (fun _ => true) true Try.f11.params.toList args.toList ds p := hA0
  rw [Try.params11] at hA hval
  obtain ⟨v0, vs0, d0, ds0, p0, q0, hargs, rfl, rfl, h0, r0⟩ := trodAll_cons hA
  obtain ⟨v1, vs1, d1, ds1, p1, q1, rfl, rfl, rfl, h1, r1⟩ := trodAll_cons r0
  obtain ⟨rfl, rfl, rfl⟩ := trodAll_nil r1
  obtain rfl : args = #[v0, v1] := by cases args; simp_all
  obtain ⟨rfl, rfl⟩ := trodVars_none hV
  obtain ⟨a0, len0, cap0, rfl⟩ := okWide_slice Try.underlying22 (hval 0 22 v0 rfl rfl)
  obtain ⟨a1, len1, cap1, rfl⟩ := okWide_slice Try.underlying55 (hval 1 55 v1 rfl rfl)
  have k0 := h0
  have k1 := h1
  have lt0 : ∀ x ∈ p0, x.block < W.heap.size := by obtain ⟨m, hm⟩ := k0; exact DataW.trod_lt m _ _ _ hm
  have lt1 : ∀ x ∈ p1, x.block < W.heap.size := by obtain ⟨m, hm⟩ := k1; exact DataW.trod_lt m _ _ _ hm
  obtain ⟨z0, w0⟩ : ∃ zs, IsRow .u8 W a0 len0 cap0 zs := by
    obtain ⟨fuel, hf⟩ := h0
    rcases open_ints Try.underlying22 Try.underlying5 (by kernel_rfl) hf with ⟨hcs, _⟩ | ⟨x, l, c, zs, hcs, _, hl, hm, hz, _, hcell, hwz⟩
    · simp [Value.cells] at hcs
      obtain ⟨rfl, rfl, rfl⟩ := hcs
      exact ⟨[], .inl ⟨rfl, rfl, rfl, rfl⟩⟩
    · simp [Value.cells] at hcs
      obtain ⟨rfl, rfl, rfl⟩ := hcs
      exact ⟨zs, .inr ⟨_, rfl, hl, hm, by simpa using hz, hcell, hwz⟩⟩
  obtain ⟨l, w1⟩ : ∃ l, IsSteps W a1 len1 cap1 l := by
    obtain ⟨fuel, hf⟩ := h1
    exact steps_of (by simpa [Value.cells] using hf)
  clear hA0 hval0
  refine (walk a0 len0 cap0 z0 a1 len1 cap1 l W w0 w1).mono fun e W' ⟨he, bel⟩ => ?_
  subst he
  exact ⟨_, rfl, _, _, _, [], _, [], hW', trodAll_mk1 (shut_bool Try.underlying4 _), (trodAll_cons_mk (Below.trod laidOut (by kernel_rfl) (of_decide_eq_true (by kernel_rfl)) k0 bel lt0) (trodAll_cons_mk (Below.trod laidOut (by kernel_rfl) (of_decide_eq_true (by kernel_rfl)) k1 bel lt1) trodAll_mk0)), rfl, bel.frame _, fun h => by cases h⟩

theorem over : Rows.cursorNeverRow.holds Try.pinned (OpenSpec.ofChange Rows.cursorNeverSpec) :=
  OpenClaim.holds_of_wide 11 Try.f11 rfl rfl rfl rfl rfl rfl rfl ⟨rfl, rfl, rfl, rfl, rfl⟩ rfl rfl rfl rfl rfl (by kernel_rfl) Try.func11 (by kernel_rfl)
    (of_decide_eq_true (by kernel_rfl)) (by unfold Func.isWrapper; first | (rw [if_pos (by decide +kernel)]; kernel_rfl) | (rw [if_neg (by decide +kernel)]; exact ⟨rfl, rfl⟩))
    (fun os started H enc _ => lifted os started H enc)

theorem proved : Rows.CursorNeverSaid := over
#print axioms proved
end Go.Proofs.Ytbbcbhecppnboaa.cursorNever
