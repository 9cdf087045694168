/-
  At every signature and every text the law on what sig answers comes out true, and nothing that lay in memory has changed. No condition.
-/
import Derived.Test.YtfbpgkohekfkjaaRows
import Derived.WalkKit
import Derived.ProofKit
import Derived.OpenShut
import Derived.ShutString
import Derived.ChangeOld
import Derived.Below
import Derived.Lib.SmallJoins
import Derived.Deep.LoopGhost
import Derived.Test.YtfbpgkohekfkjaaSigCode
import Derived.Test.YtfbpgkohekfkjaaSigGreat
namespace Go.Proofs.Ytfbpgkohekfkjaa.sigChecks
open Go.Proofs.Ytfbpgkohekfkjaa
open Go.ChangeShapes Go.WideShapes Go.ChangeAt Go.RowKit
open Go.ChangeMaps (open_string shut_string)
set_option linter.unusedVariables false

theorem own : ownKnob Try.prog.godebug = none := by kernel_rfl
theorem laidOut : laidOutB Try.prog = true := by kernel_rfl

set_option maxRecDepth 100000 in
set_option maxHeartbeats 2000000 in
theorem walk (HCk : CheckC) (HFi : FindC) (HNa : NameC) (a0 : Option Addr) (len0 cap0 : Nat) (l0 : List Pd) (a1 : ByteArray) (w : World) (w0 : l0.length = len0 ∧ PredRow w w.heap.size (.slice a0 len0 cap0) l0) (w1 : a1.size ≤ maxLen) :
    Calls Try.prog 3 #[.slice a0 len0 cap0, .string a1] w fun e w' => e = .returned (.bool true) ∧ Below w.heap.size w w' := by
  obtain ⟨rfl, hrow⟩ := w0
  obtain ⟨nm, rfl, hnl, hnb⟩ := text_of a1
  have hn63 : nm.length ≤ 9223372036854775807 := by rw [hnl]; unfold maxLen at w1; omega
  clear w1 hnl
  have hsn := strOfNums_size nm
  have HK := Lib.hid HCk
  have HI := Lib.hid HFi
  have HA := Lib.hid HNa
  have HROW := Lib.hid hrow
  have HNB := Lib.hid hnb
  have HFX := Lib.hid (fun W => gfix_any HCk W)
  have hgr := great_any a0 cap0 l0 w hrow
  clear hrow hnb HCk HFi HNa
  cases hg : greatP (l0.map (·.p)) with
  | true =>
    rw [hg] at hgr
    have HG := Lib.hid hgr
    clear hg hgr
    go_enter Try.func3, Try.ntmps3
    go_wp2_with fail
    refine HG.out.mono ?_
    rintro e w2 ⟨rfl, hb2⟩
    have HB2 := Lib.hid hb2
    clear hb2
    go_wp2_with fail
    refine (HFX.out _).mono ?_
    rintro e w3 ⟨rfl, hb3⟩
    have HB3 := Lib.hid (HB2.out.trans (hb3.mono HB2.out.size))
    clear hb3
    go_wp2_with fail
    go_ret
    exact ⟨rfl, HB3.out⟩
  | false =>
    have hl1 := (greatP_no hg).1
    rw [List.length_map] at hl1
    rw [hg] at hgr
    have HG := Lib.hid hgr
    clear hg hgr
    by_cases h100 : 100 < nm.length
    · have h100i : (100 : Int) < (nm.length : Int) := by omega
      go_enter Try.func3, Try.ntmps3
      go_wp2_with fail
      refine HG.out.mono ?_
      rintro e w2 ⟨rfl, hb2⟩
      have HB2 := Lib.hid hb2
      clear hb2
      go_wp2_with fail
      refine (HFX.out _).mono ?_
      rintro e w3 ⟨rfl, hb3⟩
      have HB3 := Lib.hid (HB2.out.trans (hb3.mono HB2.out.size))
      clear hb3
      go_wp2_with fail
      go_ret
      exact ⟨rfl, HB3.out⟩
    · have h100i : (nm.length : Int) ≤ 100 := by omega
      go_enter Try.func3, Try.ntmps3
      go_wp2_with fail
      refine HG.out.mono ?_
      rintro e w2 ⟨rfl, hb2⟩
      have HB2 := Lib.hid hb2
      have HR2 := Lib.hid ((HROW.out.below hb2).more hb2.size)
      have hz2 := hb2.size
      clear hb2
      go_wp2_with fail
      have hfi := HI.out a0 cap0 l0 nm w2 HR2.out HNB.out (by unfold maxLen; omega)
      have hrf := fun W h => rfind_any a0 cap0 l0 nm HNB.out W h
      generalize findP (l0.map (·.p)) nm = F at hfi hrf
      have HRF := Lib.hid hrf
      refine hfi.mono ?_
      rintro e w3 ⟨rfl, hb3⟩
      have HB3 := Lib.hid (HB2.out.trans (hb3.mono hz2))
      have HR3 := Lib.hid ((HR2.out.below hb3).more hb3.size)
      have hz3 : w.heap.size ≤ w3.heap.size := Nat.le_trans hz2 hb3.size
      clear hb3 hrf hfi
      go_wp2_with fail
      refine (HRF.out _ HR3.out).mono ?_
      rintro e w4 ⟨rfl, rfl⟩
      go_wp2_with fail
      refine (HFX.out _).mono ?_
      rintro e w4 ⟨rfl, hb4⟩
      have HB4 := Lib.hid (HB3.out.trans (hb4.mono hz3))
      have HR4 := Lib.hid ((HR3.out.below hb4).more hb4.size)
      have hz4 : w.heap.size ≤ w4.heap.size := Nat.le_trans hz3 hb4.size
      clear hb4
      go_wp2_with fail
      have hck := HK.out a0 cap0 l0 w4 HR4.out
      have hrk := fun W h => rcheck_any a0 cap0 l0 W h
      generalize checkP (l0.map (·.p)) = C at hck hrk
      have HRK := Lib.hid hrk
      refine hck.mono ?_
      rintro e w5 ⟨rfl, hb5⟩
      have HB5 := Lib.hid (HB4.out.trans (hb5.mono hz4))
      have HR5 := Lib.hid ((HR4.out.below hb5).more hb5.size)
      have hz5 : w.heap.size ≤ w5.heap.size := Nat.le_trans hz4 hb5.size
      clear hb5 hck hrk
      go_wp2_with fail
      refine (HRK.out _ HR5.out).mono ?_
      rintro e w6 ⟨rfl, rfl⟩
      go_wp2_with fail
      have hna := HA.out nm w5 HNB.out (by unfold maxLen; omega)
      have hrn := fun W => rname_any nm HNB.out (by omega) W
      generalize okName nm = b at hna hrn
      have HRN := Lib.hid hrn
      refine hna.mono ?_
      rintro e w7 ⟨rfl, hb7⟩
      have HB7 := Lib.hid (HB5.out.trans (hb7.mono hz5))
      clear hb7 hna hrn
      go_wp2_with fail
      refine (HRN.out _).mono ?_
      rintro e w8 ⟨rfl, rfl⟩
      go_wp2_with fail
      go_ret
      exact ⟨rfl, HB7.out⟩

set_option maxRecDepth 100000 in
theorem lifted (os : Os) (started : os.Started) (H : Type) (enc : TypeId × Value → H) :
    ReturnsInHanded {} Try.checked os 3 .any (Rows.sigChecksSpec.pre6 enc Try.prog Try.f3 Rows.sigChecksRow.domain false) (Rows.sigChecksSpec.post enc Try.prog Try.f3 false true false false) := by
  refine returnsInHanded_of_change (C := Try.checked) own started (by kernel_rfl) Try.func3
    (ChangeSpec.witness6 (enc := enc) (C := Try.checked) false ⟨#[], #[.slice none 0 0, .string ⟨#[]⟩], []⟩ 8 (by kernel_rfl) (by kernel_rfl) (by kernel_rfl) (by kernel_rfl)) ?_
  intro W base args ds gs before hval0 hW hcnd _
  have hval : ∀ (j : Nat) t v, Try.f3.params[j]? = some t → args[j]? = some v → Value.okWide Try.prog W .any base t v := hval0
  have hW' := hW
  obtain ⟨p, q, hA0, hV, rfl, hfz, hnd⟩ := hW
  have hA : DataW.TrodAll enc Try.prog W 0 (fun _ => true) true Try.f3.params.toList args.toList ds p := hA0
  rw [Try.params3] at hA hval
  obtain ⟨v0, vs0, d0, ds0, p0, q0, hargs, rfl, rfl, h0, r0⟩ := trodAll_cons hA
  obtain ⟨v1, vs1, d1, ds1, p1, q1, rfl, rfl, rfl, h1, r1⟩ := trodAll_cons r0
  obtain ⟨rfl, rfl, rfl⟩ := trodAll_nil r1
  obtain rfl : args = #[v0, v1] := by cases args; simp_all
  obtain ⟨rfl, rfl⟩ := trodVars_none hV
  obtain ⟨a0, len0, cap0, rfl⟩ := okWide_slice Try.underlying22 (hval 0 22 v0 rfl rfl)
  have k0 := h0
  have lt0 : ∀ x ∈ p0, x.block < W.heap.size := by obtain ⟨m, hm⟩ := k0; exact DataW.trod_lt m _ _ _ hm
  obtain ⟨l0, w0⟩ : ∃ ds : List Pd, ds.length = len0 ∧ PredRow W W.heap.size (.slice a0 len0 cap0) ds := by
    obtain ⟨fuel, hf⟩ := h0
    exact preds_of hf
  obtain ⟨a1, rfl, rfl, rfl, w1⟩ := open_string Try.underlying9 (hval 1 9 v1 rfl rfl) h1
  clear hA0 hval0
  refine (walk scheck_any sfind_any sname_any a0 len0 cap0 l0 a1 W w0 w1).mono fun e W' ⟨he, bel⟩ => ?_
  subst he
  exact ⟨_, rfl, _, _, _, [], _, [], hW', trodAll_mk1 (shut_bool Try.underlying4 _), (trodAll_cons_mk (Below.trod laidOut (by kernel_rfl) (of_decide_eq_true (by kernel_rfl)) k0 bel lt0) (trodAll_cons_mk (shut_string Try.underlying9 w1) (trodAll_mk0))), rfl, bel.frame _, fun h => by cases h⟩

theorem over : Rows.sigChecksRow.holds Try.pinned (OpenSpec.ofChange Rows.sigChecksSpec) :=
  OpenClaim.holds_of_wide 3 Try.f3 rfl rfl rfl rfl rfl rfl rfl ⟨rfl, rfl, rfl, rfl, rfl⟩ rfl rfl rfl rfl rfl (by kernel_rfl) Try.func3 (by kernel_rfl)
    (of_decide_eq_true (by kernel_rfl)) (by unfold Func.isWrapper; first | (rw [if_pos (by decide +kernel)]; kernel_rfl) | (rw [if_neg (by decide +kernel)]; exact ⟨rfl, rfl⟩))
    (fun os started H enc _ => lifted os started H enc)

theorem proved : Rows.SigChecksSaid := over
#print axioms proved
end Go.Proofs.Ytfbpgkohekfkjaa.sigChecks
