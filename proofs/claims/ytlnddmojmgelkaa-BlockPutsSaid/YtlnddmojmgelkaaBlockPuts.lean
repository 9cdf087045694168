/-
  At every signature and every trace the law on a payload, its size and its frame returns true, and nothing that lay in memory has changed. No condition.
-/
import Derived.Test.YtlnddmojmgelkaaRows
import Derived.WalkKit
import Derived.ProofKit
import Derived.OpenShut
import Derived.ShutString
import Derived.ChangeOld
import Derived.Below
import Derived.Lib.SmallJoins
import Derived.Deep.LoopGhost
import Derived.Test.YtlnddmojmgelkaaBlockRefAll
import Derived.Test.YtlnddmojmgelkaaBlockFrame
import Derived.Test.YtlnddmojmgelkaaBlockFix
import Derived.Test.YtlnddmojmgelkaaTraceGreat
import Derived.Test.YtlnddmojmgelkaaSigGreat
import Derived.Test.YtlnddmojmgelkaaTraceIn
namespace Go.Proofs.Ytlnddmojmgelkaa.blockPuts
open Go.Proofs.Ytlnddmojmgelkaa
open Go.ChangeShapes Go.WideShapes Go.ChangeAt Go.RowKit
open Go.ChangeMaps (open_string shut_string)
set_option linter.unusedVariables false

theorem own : ownKnob Try.prog.godebug = none := by kernel_rfl
theorem laidOut : laidOutB Try.prog = true := by kernel_rfl

set_option maxRecDepth 100000 in
set_option maxHeartbeats 2000000 in
theorem walk (a0 : Option Addr) (len0 cap0 : Nat) (l0 : List Pd) (a1 : Option Addr) (len1 cap1 : Nat) (l1 : List Pm) (w : World) (w0 : l0.length = len0 ∧ PredRow w w.heap.size (.slice a0 len0 cap0) l0) (w1 : l1.length = len1 ∧ TrRow w w.heap.size (.slice a1 len1 cap1) l1) :
    Calls Try.prog 4 #[.slice a0 len0 cap0, .slice a1 len1 cap1] w fun e w' => e = .returned (.bool true) ∧ Below w.heap.size w w' := by
  obtain ⟨rfl, hrow⟩ := w0
  obtain ⟨rfl, htr⟩ := w1
  obtain ⟨-, hc1, hc2⟩ := htr.1.len
  obtain ⟨hd1, hd2⟩ : l0.length ≤ cap0 ∧ cap0 ≤ 9223372036854775807 := by
    obtain ⟨A', c', hv, q1, q2⟩ := hrow.form
    injection hv with _ _ e3
    exact ⟨by omega, by omega⟩
  have HROW := Lib.hid hrow
  have HTR := Lib.hid htr
  have HFX := Lib.hid (fun W => fix14_any W)
  have hgr := great_any a0 cap0 l0 w hrow
  clear hrow htr
  cases hg : greatP (l0.map (·.p)) with
  | true =>
    rw [hg] at hgr
    have HG := Lib.hid hgr
    clear hg hgr
    go_enter Try.func4, Try.ntmps4
    go_wp2_with fail
    refine HG.out.mono ?_
    rintro e w2 ⟨rfl, hb2⟩
    have HB2 := Lib.hid hb2
    clear hb2
    go_wp2_with fail
    refine (HFX.out _).mono ?_
    rintro e w3 ⟨rfl, hb3⟩
    have HB3 := Lib.hid (HB2.out.trans (hb3.mono HB2.out.size))
    clear hb3
    go_wp2_with fail
    go_ret
    exact ⟨rfl, HB3.out⟩
  | false =>
    rw [hg] at hgr
    have HG := Lib.hid hgr
    clear hg hgr
    go_enter Try.func4, Try.ntmps4
    go_wp2_with fail
    refine HG.out.mono ?_
    rintro e w2 ⟨rfl, hb2⟩
    have HB2 := Lib.hid hb2
    clear hb2
    have HGT := Lib.hid (tgreat_any a1 cap1 l1 2000 w2 ((HTR.out.below HB2.out).more HB2.out.size))
    go_wp2_with fail
    refine HGT.out.mono ?_
    rintro e w3 ⟨⟨g, rfl⟩, hb3⟩
    have HB3 := Lib.hid (HB2.out.trans (hb3.mono HB2.out.size))
    clear hb3
    cases g with
    | true =>
      go_wp2_with fail
      refine (HFX.out _).mono ?_
      rintro e w4 ⟨rfl, hb4⟩
      have HB4 := Lib.hid (HB3.out.trans (hb4.mono HB3.out.size))
      clear hb4
      go_wp2_with fail
      go_ret
      exact ⟨rfl, HB4.out⟩
    | false =>
      have hpu := fun W (h : Below w.heap.size w W) => blput_any a0 cap0 l0 a1 cap1 l1 W ((HROW.out.below h).more h.size) ((HTR.out.below h).more h.size)
      have hrp := fun W (h : Below w.heap.size w W) => rput14_any a0 cap0 l0 a1 cap1 l1 W ((HROW.out.below h).more h.size) ((HTR.out.below h).more h.size)
      have hfr := fun W (h : Below w.heap.size w W) => bframe_any a0 cap0 l0 a1 cap1 l1 W ((HROW.out.below h).more h.size) ((HTR.out.below h).more h.size)
      have hrf := fun W (h : Below w.heap.size w W) => rframe14_any a0 cap0 l0 a1 cap1 l1 W ((HROW.out.below h).more h.size) ((HTR.out.below h).more h.size)
      have hsz := fun W (h : Below w.heap.size w W) => bsize_any a0 cap0 l0 a1 cap1 l1 W ((HROW.out.below h).more h.size) ((HTR.out.below h).more h.size)
      have hwh := fun W (h : Below w.heap.size w W) => rwhole_any a0 cap0 l0 a1 cap1 l1 W ((HROW.out.below h).more h.size) ((HTR.out.below h).more h.size)
      generalize putB (l0.map (·.p)) l1 = P at hpu hrp
      generalize frameB (l0.map (·.p)) l1 = Q at hfr hrf
      generalize wholeB (l0.map (·.p)) l1 = R at hsz hwh
      obtain ⟨P1, P2⟩ := P
      obtain ⟨Q1, Q2⟩ := Q
      obtain ⟨R1, R2⟩ := R
      dsimp only at hrp hrf hsz hwh
      unfold BGot at hpu hfr
      dsimp only at hpu hfr
      have HPU := Lib.hid hpu
      have HRP := Lib.hid hrp
      have HFR := Lib.hid hfr
      have HRF := Lib.hid hrf
      have HSZ := Lib.hid hsz
      have HWH := Lib.hid hwh
      have hss : (strOfNums R1).size = R1.length := strOfNums_size R1
      clear hpu hrp hfr hrf hsz hwh
      go_wp2_with fail
      refine (HPU.out _ HB3.out).mono ?_
      rintro e w4 ⟨A4, c4, rfl, hown4, hb4⟩
      have HR4 := Lib.hid (Row.of_own hown4)
      have HB4 := Lib.hid (HB3.out.trans (hb4.mono HB3.out.size))
      clear hown4 hb4 HPU
      go_wp2_with fail
      refine (HRP.out _ HB4.out).mono ?_
      rintro e w5 ⟨rfl, hb5⟩
      have HB5 := Lib.hid (HB4.out.trans (hb5.mono HB4.out.size))
      have HR5 := Lib.hid ((HR4.out.below hb5).more hb5.size)
      clear hb5 HRP
      go_wp2_with fail
      refine (HFR.out _ HB5.out).mono ?_
      rintro e w6 ⟨A6, c6, rfl, hown6, hb6⟩
      have HF6 := Lib.hid (Row.of_own hown6)
      have HR6 := Lib.hid ((HR5.out.below hb6).more hb6.size)
      have HB6 := Lib.hid (HB5.out.trans (hb6.mono HB5.out.size))
      clear hown6 hb6 HFR
      go_wp2_with fail
      refine (HRF.out _ HB6.out).mono ?_
      rintro e w7 ⟨rfl, hb7⟩
      have HB7 := Lib.hid (HB6.out.trans (hb7.mono HB6.out.size))
      have HR7 := Lib.hid ((HR6.out.below hb7).more hb7.size)
      have HF7 := Lib.hid ((HF6.out.below hb7).more hb7.size)
      clear hb7 HRF
      go_wp2_with fail
      refine (HSZ.out _ HB7.out).mono ?_
      rintro e w8 ⟨rfl, hb8⟩
      have HB8 := Lib.hid (HB7.out.trans (hb8.mono HB7.out.size))
      have HR8 := Lib.hid ((HR7.out.below hb8).more hb8.size)
      have HF8 := Lib.hid ((HF7.out.below hb8).more hb8.size)
      clear hb8 HSZ
      go_wp2_with fail
      refine (HWH.out _ HB8.out).mono ?_
      rintro e w9 ⟨rfl, hb9⟩
      have HB9 := Lib.hid (HB8.out.trans (hb9.mono HB8.out.size))
      have HR9 := Lib.hid ((HR8.out.below hb9).more hb9.size)
      have HF9 := Lib.hid ((HF8.out.below hb9).more hb9.size)
      clear hb9 HWH
      go_wp2_with fail
      refine (HFX.out _).mono ?_
      rintro e w10 ⟨rfl, hb10⟩
      have HB10 := Lib.hid (HB9.out.trans (hb10.mono HB9.out.size))
      have hcv1 := (HR9.out.below hb10).convert (P := Try.prog) 46 5 9 Try.underlying46 Try.underlying5 Try.underlying9
      have hcv2 := (HF9.out.below hb10).convert (P := Try.prog) 46 5 9 Try.underlying46 Try.underlying5 Try.underlying9
      clear hb10
      go_wp2_with fail
      go_ret
      exact ⟨rfl, HB10.out⟩

set_option maxRecDepth 100000 in
theorem lifted (os : Os) (started : os.Started) (H : Type) (enc : TypeId × Value → H) :
    ReturnsInHanded {} Try.checked os 4 .any (Rows.blockPutsSpec.pre6 enc Try.prog Try.f4 Rows.blockPutsRow.domain false) (Rows.blockPutsSpec.post enc Try.prog Try.f4 false true false false) := by
  refine returnsInHanded_of_change (C := Try.checked) own started (by kernel_rfl) Try.func4
    (ChangeSpec.witness6 (enc := enc) (C := Try.checked) false ⟨#[], #[.slice none 0 0, .slice none 0 0], []⟩ 8 (by kernel_rfl) (by kernel_rfl) (by kernel_rfl) (by kernel_rfl)) ?_
  intro W base args ds gs before hval0 hW hcnd _
  have hval : ∀ (j : Nat) t v, Try.f4.params[j]? = some t → args[j]? = some v → Value.okWide Try.prog W .any base t v := hval0
  have hW' := hW
  obtain ⟨p, q, hA0, hV, rfl, hfz, hnd⟩ := hW
  have hA : DataW.TrodAll enc Try.prog W 0 (fun _ => true) true Try.f4.params.toList args.toList ds p := hA0
  rw [Try.params4] at hA hval
  obtain ⟨v0, vs0, d0, ds0, p0, q0, hargs, rfl, rfl, h0, r0⟩ := trodAll_cons hA
  obtain ⟨v1, vs1, d1, ds1, p1, q1, rfl, rfl, rfl, h1, r1⟩ := trodAll_cons r0
  obtain ⟨rfl, rfl, rfl⟩ := trodAll_nil r1
  obtain rfl : args = #[v0, v1] := by cases args; simp_all
  obtain ⟨rfl, rfl⟩ := trodVars_none hV
  obtain ⟨a0, len0, cap0, rfl⟩ := okWide_slice Try.underlying22 (hval 0 22 v0 rfl rfl)
  have k0 := h0
  have lt0 : ∀ x ∈ p0, x.block < W.heap.size := by obtain ⟨m, hm⟩ := k0; exact DataW.trod_lt m _ _ _ hm
  obtain ⟨l0, w0⟩ : ∃ ds : List Pd, ds.length = len0 ∧ PredRow W W.heap.size (.slice a0 len0 cap0) ds := by
    obtain ⟨fuel, hf⟩ := h0
    exact preds_of hf
  obtain ⟨a1, len1, cap1, rfl⟩ := okWide_slice Try.underlying23 (hval 1 23 v1 rfl rfl)
  have k1 := h1
  have lt1 : ∀ x ∈ p1, x.block < W.heap.size := by obtain ⟨m, hm⟩ := k1; exact DataW.trod_lt m _ _ _ hm
  obtain ⟨l1, w1⟩ : ∃ ds : List Pm, ds.length = len1 ∧ TrRow W W.heap.size (.slice a1 len1 cap1) ds := by
    obtain ⟨fuel, hf⟩ := h1
    obtain ⟨ds, e1, e2, _⟩ := points_of hf
    exact ⟨ds, e1, e2⟩
  clear hA0 hval0
  refine (walk a0 len0 cap0 l0 a1 len1 cap1 l1 W w0 w1).mono fun e W' ⟨he, bel⟩ => ?_
  subst he
  exact ⟨_, rfl, _, _, _, [], _, [], hW', trodAll_mk1 (shut_bool Try.underlying4 _), (trodAll_cons_mk (Below.trod laidOut (by kernel_rfl) (of_decide_eq_true (by kernel_rfl)) k0 bel lt0) (trodAll_cons_mk (Below.trod laidOut (by kernel_rfl) (of_decide_eq_true (by kernel_rfl)) k1 bel lt1) (trodAll_mk0))), rfl, bel.frame _, fun h => by cases h⟩

theorem over : Rows.blockPutsRow.holds Try.pinned (OpenSpec.ofChange Rows.blockPutsSpec) :=
  OpenClaim.holds_of_wide 4 Try.f4 rfl rfl rfl rfl rfl rfl rfl ⟨rfl, rfl, rfl, rfl, rfl⟩ rfl rfl rfl rfl rfl (by kernel_rfl) Try.func4 (by kernel_rfl)
    (of_decide_eq_true (by kernel_rfl)) (by unfold Func.isWrapper; first | (rw [if_pos (by decide +kernel)]; kernel_rfl) | (rw [if_neg (by decide +kernel)]; exact ⟨rfl, rfl⟩))
    (fun os started H enc _ => lifted os started H enc)

theorem proved : Rows.BlockPutsSaid := over
#print axioms proved
end Go.Proofs.Ytlnddmojmgelkaa.blockPuts
