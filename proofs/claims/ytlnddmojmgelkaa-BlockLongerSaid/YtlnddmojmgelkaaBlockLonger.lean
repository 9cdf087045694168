/-
  At every signature and every trace the law on how long payloads and frames are, point by point, returns true, and nothing that lay in memory has changed. No condition.
-/
import Derived.Test.YtlnddmojmgelkaaRows
import Derived.WalkKit
import Derived.ProofKit
import Derived.OpenShut
import Derived.ShutString
import Derived.ChangeOld
import Derived.Below
import Derived.Lib.SmallJoins
import Derived.Deep.LoopGhost
import Derived.Test.YtlnddmojmgelkaaBlockFrame
import Derived.Test.YtlnddmojmgelkaaBlockFix
import Derived.Test.YtlnddmojmgelkaaTraceGreat
import Derived.Test.YtlnddmojmgelkaaSigGreat
import Derived.Test.YtlnddmojmgelkaaTraceIn
namespace Go.Proofs.Ytlnddmojmgelkaa.blockLonger
open Go.Proofs.Ytlnddmojmgelkaa
open Go.ChangeShapes Go.WideShapes Go.ChangeAt Go.RowKit
open Go.ChangeMaps (open_string shut_string)
set_option linter.unusedVariables false

theorem own : ownKnob Try.prog.godebug = none := by kernel_rfl
theorem laidOut : laidOutB Try.prog = true := by kernel_rfl

set_option maxRecDepth 100000 in
set_option maxHeartbeats 2000000 in
theorem walk (a0 : Option Addr) (len0 cap0 : Nat) (l0 : List Pd) (a1 : Option Addr) (len1 cap1 : Nat) (l1 : List Pm) (w : World) (w0 : l0.length = len0 ∧ PredRow w w.heap.size (.slice a0 len0 cap0) l0) (w1 : l1.length = len1 ∧ TrRow w w.heap.size (.slice a1 len1 cap1) l1) :
    Calls Try.prog 5 #[.slice a0 len0 cap0, .slice a1 len1 cap1] w fun e w' => e = .returned (.bool true) ∧ Below w.heap.size w w' := by
  obtain ⟨rfl, hrow⟩ := w0
  obtain ⟨rfl, htr⟩ := w1
  obtain ⟨-, hc1, hc2⟩ := htr.1.len
  obtain ⟨hd1, hd2⟩ : l0.length ≤ cap0 ∧ cap0 ≤ 9223372036854775807 := by
    obtain ⟨A', c', hv, q1, q2⟩ := hrow.form
    injection hv with _ _ e3
    exact ⟨by omega, by omega⟩
  have HROW := Lib.hid hrow
  have HTR := Lib.hid htr
  have HFX := Lib.hid (fun W => fix14_any W)
  have hgr := great_any a0 cap0 l0 w hrow
  clear hrow htr
  cases hg : greatP (l0.map (·.p)) with
  | true =>
    rw [hg] at hgr
    have HG := Lib.hid hgr
    clear hg hgr
    go_enter Try.func5, Try.ntmps5
    go_wp2_with fail
    refine HG.out.mono ?_
    rintro e w2 ⟨rfl, hb2⟩
    have HB2 := Lib.hid hb2
    clear hb2
    go_wp2_with fail
    refine (HFX.out _).mono ?_
    rintro e w3 ⟨rfl, hb3⟩
    have HB3 := Lib.hid (HB2.out.trans (hb3.mono HB2.out.size))
    clear hb3
    go_wp2_with fail
    go_ret
    exact ⟨rfl, HB3.out⟩
  | false =>
    rw [hg] at hgr
    have HG := Lib.hid hgr
    clear hg hgr
    go_enter Try.func5, Try.ntmps5
    go_wp2_with fail
    refine HG.out.mono ?_
    rintro e w2 ⟨rfl, hb2⟩
    have HB2 := Lib.hid hb2
    clear hb2
    have HGT := Lib.hid (tgreat_any a1 cap1 l1 2000 w2 ((HTR.out.below HB2.out).more HB2.out.size))
    go_wp2_with fail
    refine HGT.out.mono ?_
    rintro e w3 ⟨⟨g, rfl⟩, hb3⟩
    have HB3 := Lib.hid (HB2.out.trans (hb3.mono HB2.out.size))
    clear hb3
    cases g with
    | true =>
      go_wp2_with fail
      refine (HFX.out _).mono ?_
      rintro e w4 ⟨rfl, hb4⟩
      have HB4 := Lib.hid (HB3.out.trans (hb4.mono HB3.out.size))
      clear hb4
      go_wp2_with fail
      go_ret
      exact ⟨rfl, HB4.out⟩
    | false =>
      obtain ⟨LP, hLP⟩ : ∃ LP : Nat → Nat, LP = fun j => if j = 0 then 0 else (payB (l1.take j)).length := ⟨_, rfl⟩
      have HL0 := Lib.hid (show LP 0 = 0 by rw [hLP]; rfl)
      have HLS := Lib.hid (show ∀ j, LP (j + 1) = (payB (l1.take (j + 1))).length from fun j => by rw [hLP]; exact if_neg (by omega))
      have HLT := Lib.hid (show ∀ j, j + 1 ≤ l1.length → checkB (l0.map (·.p)) (l1.take (j + 1)) = 0 → LP j < LP (j + 1) from fun j hj hc => by
        have hb := ((HTR.out).take hj).bok hc
        rw [HLS.out]
        cases j with
        | zero =>
          rw [HL0.out]
          have := encI_one_at_least (tmAt (l1.take (0 + 1)) 0).toNat
          simp only [payB, List.length_append]
          omega
        | succ j =>
          rw [HLS.out]
          have := payB_longer hb (n := j + 1) (by omega) (by rw [List.length_take]; omega)
          rw [List.take_take, List.take_take, Nat.min_eq_left (by omega), Nat.min_self] at this
          exact this)
      have HSZ := Lib.hid (fun W (h : Below w.heap.size w W) (n : Nat) (hn : n ≤ l1.length) => (show Calls Try.prog 21 #[.slice a0 l0.length cap0, .slice a1 n cap1] W fun e w' => e = .returned (.tuple #[.int .i64 ((wholeB (l0.map (·.p)) (l1.take n)).1.length : Nat), .int .i64 (wholeB (l0.map (·.p)) (l1.take n)).2]) ∧ Below W.heap.size W w' from by
        have := bsize_any a0 cap0 l0 a1 cap1 (l1.take n) W ((HROW.out.below h).more h.size) (((HTR.out.below h).more h.size).take hn)
        rw [List.length_take, Nat.min_eq_left hn] at this
        exact this))
      have HFR := Lib.hid (fun W (h : Below w.heap.size w W) (n : Nat) (hn : n ≤ l1.length) => (show Calls Try.prog 19 #[.slice a0 l0.length cap0, .slice a1 n cap1] W (BGot W (frameB (l0.map (·.p)) (l1.take n))) from by
        have := bframe_any a0 cap0 l0 a1 cap1 (l1.take n) W ((HROW.out.below h).more h.size) (((HTR.out.below h).more h.size).take hn)
        rw [List.length_take, Nat.min_eq_left hn] at this
        exact this))
      have HBO := Lib.hid (fun (n : Nat) (hn : n ≤ l1.length) (hc : checkB (l0.map (·.p)) (l1.take n) = 0) => ((HTR.out).take hn).bok hc)
      clear hLP
      go_wp2_with fail
      go_loopg [5, 6] (l1.length + 1) (fun gk s i wr => ∃ (j : Nat), j ≤ l1.length ∧ j ≤ 12 ∧ s = .int .i64 (LP j : Nat) ∧ i = .int .i64 ((j : Int) + 1) ∧ Hid (l1.length + 1 - j = gk) ∧ Hid (Below w.heap.size w wr))
      case atStart => exact ⟨0, Nat.zero_le _, by omega, by rw [HL0.out]; rfl, rfl, Lib.hid rfl, HB3⟩
      case round =>
        obtain ⟨j, hj1, hj2, rfl, rfl, HGK, HB⟩ := hrel
        by_cases h1 : j + 1 ≤ l1.length
        · by_cases h2 : j + 1 ≤ 12
          · have hsz := HSZ.out _ HB.out (j + 1) h1
            have hlt := HLT.out j h1
            have hls := HLS.out j
            have i1 : (j : Int) + 1 ≤ (l1.length : Int) := by omega
            have i2 : (j : Int) + 1 ≤ 12 := by omega
            have i3 : (j : Int) + 1 ≤ (cap1 : Int) := by omega
            have i4 : 0 ≤ (j : Int) + 1 := by omega
            have i5 : j + 1 ≤ cap1 := by omega
            unfold wholeB at hsz
            by_cases hc : checkB (l0.map (·.p)) (l1.take (j + 1)) = 0
            · rw [if_pos hc] at hsz
              have hpl := payB_len (HBO.out (j + 1) h1 hc)
              have hlt := hlt hc
              have hsz : Calls Try.prog 21 #[.slice a0 l0.length cap0, .slice a1 (j + 1) cap1] wr fun e w' => e = .returned (.tuple #[.int .i64 (LP (j + 1) : Nat), .int .i64 0]) ∧ Below wr.heap.size wr w' := by rw [hls]; exact hsz
              have HS := Lib.hid hsz
              by_cases hbig : 4096 < LP (j + 1)
              · have hfr : ∀ W (h : Below w.heap.size w W), Calls Try.prog 19 #[.slice a0 l0.length cap0, .slice a1 (j + 1) cap1] W (BGot W ([], 6)) := fun W h => by
                  have := HFR.out W h (j + 1) h1
                  have hp : putB (l0.map (·.p)) (l1.take (j + 1)) = ([], 6) := by rw [putB, if_pos hc, if_pos (by rw [← hls]; exact hbig)]
                  rw [frameB, hp] at this
                  exact this
                have HF := Lib.hid hfr
                rw [← hls] at hpl
                obtain ⟨p, hp⟩ : ∃ p, LP (j + 1) = p := ⟨_, rfl⟩
                obtain ⟨q, hq⟩ : ∃ q, LP j = q := ⟨_, rfl⟩
                rw [hp] at HS hbig hpl hlt
                rw [hq] at hlt ⊢
                have HPP := Lib.hid hp
                have j1 : (4096 : Int) < (p : Int) := by omega
                have j2 : ¬ (p : Int) ≤ 4096 := by omega
                have j3 : ¬ (p : Int) ≤ (q : Int) := by omega
                have j4 : (q : Int) < (p : Int) := by omega
                clear hsz hls hc hp hfr
                go_wp2_with fail
                refine HS.out.mono ?_
                rintro e w4 ⟨rfl, hb4⟩
                have HB4 := Lib.hid (HB.out.trans (hb4.mono HB.out.size))
                clear hb4
                go_wp2_with fail
                refine (HF.out _ HB4.out).mono ?_
                rintro e w5 ⟨A5, c5, rfl, -, hb5⟩
                have HB5 := Lib.hid (HB4.out.trans (hb5.mono HB4.out.size))
                clear hb5 HF HS
                dsimp only
                go_wp2_with fail
                go_roundg (l1.length + 1 - (j + 1))
                case measure => have := HGK.out; omega
                case rel => exact ⟨j + 1, h1, by omega, by rw [HPP.out], by go_num, Lib.hid rfl, HB5⟩
              · have hfr : ∀ W (h : Below w.heap.size w W), Calls Try.prog 19 #[.slice a0 l0.length cap0, .slice a1 (j + 1) cap1] W (BGot W (encFr 2 (payB (l1.take (j + 1))), 0)) := fun W h => by
                  have := HFR.out W h (j + 1) h1
                  have hp : putB (l0.map (·.p)) (l1.take (j + 1)) = (payB (l1.take (j + 1)), 0) := by rw [putB, if_pos hc, if_neg (by rw [← hls]; exact hbig)]
                  rw [frameB, hp] at this
                  exact this
                have hfl : (encFr 2 (payB (l1.take (j + 1)))).length = 9 + (encI (LP (j + 1))).length + LP (j + 1) := by rw [encFr_length, hls]
                generalize encFr 2 (payB (l1.take (j + 1))) = E at hfr hfl
                have HF := Lib.hid hfr
                rw [← hls] at hpl
                obtain ⟨p, hp⟩ : ∃ p, LP (j + 1) = p := ⟨_, rfl⟩
                obtain ⟨q, hq⟩ : ∃ q, LP j = q := ⟨_, rfl⟩
                rw [hp] at HS hbig hpl hlt hfl
                rw [hq] at hlt ⊢
                have HPP := Lib.hid hp
                have hsi := sizeI_ok (n := p) (by omega)
                rw [← hfl] at hsi
                have HSI := Lib.hid (fun W => fsize_any p (by omega) (by omega) W)
                rw [hsi] at HSI
                have j1 : ¬ (4096 : Int) < (p : Int) := by omega
                have j2 : (p : Int) ≤ 4096 := by omega
                have j3 : ¬ (p : Int) ≤ (q : Int) := by omega
                have j4 : (q : Int) < (p : Int) := by omega
                clear hsz hls hc hp hfr hfl hsi
                go_wp2_with fail
                refine HS.out.mono ?_
                rintro e w4 ⟨rfl, hb4⟩
                have HB4 := Lib.hid (HB.out.trans (hb4.mono HB.out.size))
                clear hb4
                go_wp2_with fail
                refine (HF.out _ HB4.out).mono ?_
                rintro e w5 ⟨A5, c5, rfl, -, hb5⟩
                have HB5 := Lib.hid (HB4.out.trans (hb5.mono HB4.out.size))
                clear hb5 HF HS
                dsimp only
                go_wp2_with fail
                refine (HSI.out _).mono ?_
                rintro e w6 ⟨rfl, hb6⟩
                have HB6 := Lib.hid (HB5.out.trans (hb6.mono HB5.out.size))
                clear hb6 HSI
                go_wp2_with fail
                go_roundg (l1.length + 1 - (j + 1))
                case measure => have := HGK.out; omega
                case rel => exact ⟨j + 1, h1, by omega, by rw [HPP.out], by go_num, Lib.hid rfl, HB6⟩
            · rw [if_neg hc] at hsz
              have hne : (checkB (l0.map (·.p)) (l1.take (j + 1)) != 0) = true := bne_iff_ne.2 hc
              generalize checkB (l0.map (·.p)) (l1.take (j + 1)) = C at hsz hne
              have HS := Lib.hid hsz
              generalize LP j = q
              clear hsz hlt hls hc
              go_wp2_with fail
              refine HS.out.mono ?_
              rintro e w4 ⟨rfl, hb4⟩
              have HB4 := Lib.hid (HB.out.trans (hb4.mono HB.out.size))
              clear hb4
              go_wp2_with fail
              refine (HFX.out _).mono ?_
              rintro e w5 ⟨rfl, hb5⟩
              have HB5 := Lib.hid (HB4.out.trans (hb5.mono HB4.out.size))
              clear hb5
              go_wp2_with fail
              go_ret
              exact ⟨rfl, HB5.out⟩
          · have i1 : (j : Int) + 1 ≤ (l1.length : Int) := by omega
            have i2 : ¬ (j : Int) + 1 ≤ 12 := by omega
            have i3 : (12 : Int) < (j : Int) + 1 := by omega
            go_wp2_with fail
            refine (HFX.out _).mono ?_
            rintro e w5 ⟨rfl, hb5⟩
            have HB5 := Lib.hid (HB.out.trans (hb5.mono HB.out.size))
            clear hb5
            go_wp2_with fail
            go_ret
            exact ⟨rfl, HB5.out⟩
        · have i1 : ¬ (j : Int) + 1 ≤ (l1.length : Int) := by omega
          have i3 : (l1.length : Int) < (j : Int) + 1 := by omega
          go_wp2_with fail
          refine (HFX.out _).mono ?_
          rintro e w5 ⟨rfl, hb5⟩
          have HB5 := Lib.hid (HB.out.trans (hb5.mono HB.out.size))
          clear hb5
          go_wp2_with fail
          go_ret
          exact ⟨rfl, HB5.out⟩

set_option maxRecDepth 100000 in
theorem lifted (os : Os) (started : os.Started) (H : Type) (enc : TypeId × Value → H) :
    ReturnsInHanded {} Try.checked os 5 .any (Rows.blockLongerSpec.pre6 enc Try.prog Try.f5 Rows.blockLongerRow.domain false) (Rows.blockLongerSpec.post enc Try.prog Try.f5 false true false false) := by
  refine returnsInHanded_of_change (C := Try.checked) own started (by kernel_rfl) Try.func5
    (ChangeSpec.witness6 (enc := enc) (C := Try.checked) false ⟨#[], #[.slice none 0 0, .slice none 0 0], []⟩ 8 (by kernel_rfl) (by kernel_rfl) (by kernel_rfl) (by kernel_rfl)) ?_
  intro W base args ds gs before hval0 hW hcnd _
  have hval : ∀ (j : Nat) t v, Try.f5.params[j]? = some t → args[j]? = some v → Value.okWide Try.prog W .any base t v := hval0
  have hW' := hW
  obtain ⟨p, q, hA0, hV, rfl, hfz, hnd⟩ := hW
  have hA : DataW.TrodAll enc Try.prog W 0 (fun _ => true) true Try.f5.params.toList args.toList ds p := hA0
  rw [Try.params5] at hA hval
  obtain ⟨v0, vs0, d0, ds0, p0, q0, hargs, rfl, rfl, h0, r0⟩ := trodAll_cons hA
  obtain ⟨v1, vs1, d1, ds1, p1, q1, rfl, rfl, rfl, h1, r1⟩ := trodAll_cons r0
  obtain ⟨rfl, rfl, rfl⟩ := trodAll_nil r1
  obtain rfl : args = #[v0, v1] := by cases args; simp_all
  obtain ⟨rfl, rfl⟩ := trodVars_none hV
  obtain ⟨a0, len0, cap0, rfl⟩ := okWide_slice Try.underlying22 (hval 0 22 v0 rfl rfl)
  have k0 := h0
  have lt0 : ∀ x ∈ p0, x.block < W.heap.size := by obtain ⟨m, hm⟩ := k0; exact DataW.trod_lt m _ _ _ hm
  obtain ⟨l0, w0⟩ : ∃ ds : List Pd, ds.length = len0 ∧ PredRow W W.heap.size (.slice a0 len0 cap0) ds := by
    obtain ⟨fuel, hf⟩ := h0
    exact preds_of hf
  obtain ⟨a1, len1, cap1, rfl⟩ := okWide_slice Try.underlying23 (hval 1 23 v1 rfl rfl)
  have k1 := h1
  have lt1 : ∀ x ∈ p1, x.block < W.heap.size := by obtain ⟨m, hm⟩ := k1; exact DataW.trod_lt m _ _ _ hm
  obtain ⟨l1, w1⟩ : ∃ ds : List Pm, ds.length = len1 ∧ TrRow W W.heap.size (.slice a1 len1 cap1) ds := by
    obtain ⟨fuel, hf⟩ := h1
    obtain ⟨ds, e1, e2, _⟩ := points_of hf
    exact ⟨ds, e1, e2⟩
  clear hA0 hval0
  refine (walk a0 len0 cap0 l0 a1 len1 cap1 l1 W w0 w1).mono fun e W' ⟨he, bel⟩ => ?_
  subst he
  exact ⟨_, rfl, _, _, _, [], _, [], hW', trodAll_mk1 (shut_bool Try.underlying4 _), (trodAll_cons_mk (Below.trod laidOut (by kernel_rfl) (of_decide_eq_true (by kernel_rfl)) k0 bel lt0) (trodAll_cons_mk (Below.trod laidOut (by kernel_rfl) (of_decide_eq_true (by kernel_rfl)) k1 bel lt1) (trodAll_mk0))), rfl, bel.frame _, fun h => by cases h⟩

theorem over : Rows.blockLongerRow.holds Try.pinned (OpenSpec.ofChange Rows.blockLongerSpec) :=
  OpenClaim.holds_of_wide 5 Try.f5 rfl rfl rfl rfl rfl rfl rfl ⟨rfl, rfl, rfl, rfl, rfl⟩ rfl rfl rfl rfl rfl (by kernel_rfl) Try.func5 (by kernel_rfl)
    (of_decide_eq_true (by kernel_rfl)) (by unfold Func.isWrapper; first | (rw [if_pos (by decide +kernel)]; kernel_rfl) | (rw [if_neg (by decide +kernel)]; exact ⟨rfl, rfl⟩))
    (fun os started H enc _ => lifted os started H enc)

theorem proved : Rows.BlockLongerSaid := over
#print axioms proved
end Go.Proofs.Ytlnddmojmgelkaa.blockLonger
