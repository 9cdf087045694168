/-
  At every slice of bytes the law on which signature sigbin.Get reads of it, beside the document's own answer, and on that signature's payload, comes out true, and nothing that lay in memory has changed. No condition.
-/
import Derived.Test.YtnjhkjlekepjoaaRows
import Derived.WalkKit
import Derived.ProofKit
import Derived.OpenShut
import Derived.ShutString
import Derived.ChangeOld
import Derived.Below
import Derived.Lib.SmallJoins
import Derived.Deep.LoopGhost
import Derived.Test.YtnjhkjlekepjoaaSigbinFixed
import Derived.Test.YtnjhkjlekepjoaaSigbinRefGet
import Derived.Test.YtnjhkjlekepjoaaSigSameRef
namespace Go.Proofs.Ytnjhkjlekepjoaa.sigbinGets
open Go.Proofs.Ytnjhkjlekepjoaa
open Go.ChangeShapes Go.WideShapes Go.ChangeAt Go.RowKit
open Go.ChangeMaps (open_string shut_string)
set_option linter.unusedVariables false

theorem own : ownKnob Try.prog.godebug = none := by kernel_rfl
theorem laidOut : laidOutB Try.prog = true := by kernel_rfl

set_option maxRecDepth 100000 in
set_option maxHeartbeats 2000000 in
theorem walk (a0 : Option Addr) (len0 cap0 : Nat) (z0 : List Int) (w : World) (w0 : IsRow .u8 w a0 len0 cap0 z0) :
    Calls Try.prog 4 #[.slice a0 len0 cap0] w fun e w' => e = .returned (.bool true) ∧ Below w.heap.size w w' := by
  obtain ⟨xs, rfl, hrow, hxb⟩ := Row.of_arg w0
  clear w0
  have HFX := Lib.hid (fun W => bfix_any W)
  by_cases h3 : 3000 < xs.length
  · have h3i : (3000 : Int) < (xs.length : Int) := by omega
    clear h3
    go_enter Try.func4, Try.ntmps4
    go_wp2_with fail
    refine (HFX.out _).mono ?_
    rintro e w1 ⟨rfl, hb1⟩
    go_wp2_with fail
    go_ret
    exact ⟨rfl, hb1⟩
  · have h3i : ¬ (3000 : Int) < (xs.length : Int) := by omega
    have HGC := Lib.hid (bsget_any a0 cap0 xs (by omega) hxb w hrow)
    have HRG := Lib.hid (fun W => rsget_any xs hxb (by omega) W)
    have hbk := fun h => getSig_back (xs := xs) hxb h
    have HROW := Lib.hid hrow
    clear h3 hxb hrow
    generalize getSig xs = r at HGC HRG hbk
    obtain ⟨L, k⟩ := r
    simp only at hbk
    have HBK := Lib.hid hbk
    have hkk : (k != k) = false := by simp
    clear hbk
    go_enter Try.func4, Try.ntmps4
    go_wp2_with fail
    refine HGC.out.mono ?_
    rintro e w1 ⟨⟨A, c, es, rfl, hown, hes⟩, hb1⟩
    simp only at hes
    have HB1 := Lib.hid hb1
    have HOW := Lib.hid hown.fresh.1
    have HES := Lib.hid hes
    have hc12 : es.length ≤ c ∧ c ≤ 9223372036854775807 := by
      obtain ⟨A', c', hv, q1, q2⟩ := hown.fresh.1.form
      injection hv with _ _ e3
      omega
    have hcv1 := ((HROW.out.below hb1).convert (P := Try.prog) 25 5 9 Try.underlying25 Try.underlying5 Try.underlying9)
    clear hown hes hb1 HGC
    go_wp2_with fail
    refine (HRG.out _).mono ?_
    rintro e w2 ⟨⟨A2, c2, es2, rfl, hown2, hes2⟩, hb2⟩
    simp only at hes2
    have HB2 := Lib.hid (HB1.out.trans (hb2.mono HB1.out.size))
    have HO2 := Lib.hid ((HOW.out.below hb2).more hb2.size)
    have HSM := Lib.hid (rsigsame_any A c es A2 c2 es2 w2 HO2.out hown2.fresh.1)
    rw [HES.out, hes2, decide_eq_true rfl] at HSM
    clear hown2 hes2 hb2 HRG HB1 HOW hcv1
    go_wp2_with fail
    refine HSM.out.mono ?_
    rintro e w3 ⟨rfl, hb3⟩
    have HB3 := Lib.hid (HB2.out.trans (hb3.mono HB2.out.size))
    have HPU := Lib.hid (sbput_any A c es w3 ((HO2.out.below hb3).more hb3.size))
    rw [HES.out] at HPU
    clear hb3 HSM HB2 HO2
    by_cases hk0 : k = 0
    · obtain ⟨q1, q2⟩ := HBK.out hk0
      have hps : putS L = (xs, 0) := by unfold putS; rw [if_pos q1, q2]
      rw [hps] at HPU
      subst hk0
      clear q1 q2 hps
      go_wp2_with fail
      refine HPU.out.mono ?_
      rintro e w4 ⟨A4, c4, rfl, hown4, hb4⟩
      dsimp only at hown4
      have HB4 := Lib.hid (HB3.out.trans (hb4.mono HB3.out.size))
      have HR4 := Lib.hid (Row.of_own hown4)
      clear hown4 hb4 HPU
      go_wp2_with fail
      refine (HFX.out _).mono ?_
      rintro e w5 ⟨rfl, hb5⟩
      have HB5 := Lib.hid (HB4.out.trans (hb5.mono HB4.out.size))
      have hcv2 := ((HR4.out.below hb5).convert (P := Try.prog) 25 5 9 Try.underlying25 Try.underlying5 Try.underlying9)
      have hcv3 := ((HROW.out.below HB5.out).convert (P := Try.prog) 25 5 9 Try.underlying25 Try.underlying5 Try.underlying9)
      clear hb5
      go_wp2_with fail
      go_ret
      exact ⟨rfl, HB5.out⟩
    · have hne : (k != 0) = true := bne_iff_ne.2 hk0
      generalize putS L = pt at HPU
      obtain ⟨pl, pk⟩ := pt
      clear hk0
      go_wp2_with fail
      refine HPU.out.mono ?_
      rintro e w4 ⟨A4, c4, rfl, hown4, hb4⟩
      have HB4 := Lib.hid (HB3.out.trans (hb4.mono HB3.out.size))
      clear hown4 hb4 HPU
      go_wp2_with fail
      refine (HFX.out _).mono ?_
      rintro e w5 ⟨rfl, hb5⟩
      have HB5 := Lib.hid (HB4.out.trans (hb5.mono HB4.out.size))
      clear hb5
      go_wp2_with fail
      go_ret
      exact ⟨rfl, HB5.out⟩

set_option maxRecDepth 100000 in
theorem lifted (os : Os) (started : os.Started) (H : Type) (enc : TypeId × Value → H) :
    ReturnsInHanded {} Try.checked os 4 .any (Rows.sigbinGetsSpec.pre6 enc Try.prog Try.f4 Rows.sigbinGetsRow.domain false) (Rows.sigbinGetsSpec.post enc Try.prog Try.f4 false true false false) := by
  refine returnsInHanded_of_change (C := Try.checked) own started (by kernel_rfl) Try.func4
    (ChangeSpec.witness6 (enc := enc) (C := Try.checked) false ⟨#[], #[.slice none 0 0], []⟩ 8 (by kernel_rfl) (by kernel_rfl) (by kernel_rfl) (by kernel_rfl)) ?_
  intro W base args ds gs before hval0 hW hcnd _
  have hval : ∀ (j : Nat) t v, Try.f4.params[j]? = some t → args[j]? = some v → Value.okWide Try.prog W .any base t v := hval0
  have hW' := hW
  obtain ⟨p, q, hA0, hV, rfl, hfz, hnd⟩ := hW
  have hA : DataW.TrodAll enc Try.prog W 0 (fun _ => true) true Try.f4.params.toList args.toList ds p := hA0
  rw [Try.params4] at hA hval
  obtain ⟨v0, vs0, d0, ds0, p0, q0, hargs, rfl, rfl, h0, r0⟩ := trodAll_cons hA
  obtain ⟨rfl, rfl, rfl⟩ := trodAll_nil r0
  obtain rfl : args = #[v0] := by cases args; simp_all
  obtain ⟨rfl, rfl⟩ := trodVars_none hV
  obtain ⟨a0, len0, cap0, rfl⟩ := okWide_slice Try.underlying25 (hval 0 25 v0 rfl rfl)
  have k0 := h0
  have lt0 : ∀ x ∈ p0, x.block < W.heap.size := by obtain ⟨m, hm⟩ := k0; exact DataW.trod_lt m _ _ _ hm
  obtain ⟨z0, w0⟩ : ∃ zs, IsRow .u8 W a0 len0 cap0 zs := by
    obtain ⟨fuel, hf⟩ := h0
    rcases open_ints Try.underlying25 Try.underlying5 (by kernel_rfl) hf with ⟨hcs, _⟩ | ⟨x, l, c, zs, hcs, _, hl, hm, hz, _, hcell, hwz⟩
    · simp [Value.cells] at hcs
      obtain ⟨rfl, rfl, rfl⟩ := hcs
      exact ⟨[], .inl ⟨rfl, rfl, rfl, rfl⟩⟩
    · simp [Value.cells] at hcs
      obtain ⟨rfl, rfl, rfl⟩ := hcs
      exact ⟨zs, .inr ⟨_, rfl, hl, hm, by simpa using hz, hcell, hwz⟩⟩
  clear hA0 hval0
  refine (walk a0 len0 cap0 z0 W w0).mono fun e W' ⟨he, bel⟩ => ?_
  subst he
  exact ⟨_, rfl, _, _, _, [], _, [], hW', trodAll_mk1 (shut_bool Try.underlying4 _), (trodAll_cons_mk (Below.trod laidOut (by kernel_rfl) (of_decide_eq_true (by kernel_rfl)) k0 bel lt0) (trodAll_mk0)), rfl, bel.frame _, fun h => by cases h⟩

theorem over : Rows.sigbinGetsRow.holds Try.pinned (OpenSpec.ofChange Rows.sigbinGetsSpec) :=
  OpenClaim.holds_of_wide 4 Try.f4 rfl rfl rfl rfl rfl rfl rfl ⟨rfl, rfl, rfl, rfl, rfl⟩ rfl rfl rfl rfl rfl (by kernel_rfl) Try.func4 (by kernel_rfl)
    (of_decide_eq_true (by kernel_rfl)) (by unfold Func.isWrapper; first | (rw [if_pos (by decide +kernel)]; kernel_rfl) | (rw [if_neg (by decide +kernel)]; exact ⟨rfl, rfl⟩))
    (fun os started H enc _ => lifted os started H enc)

theorem proved : Rows.SigbinGetsSaid := over
#print axioms proved
end Go.Proofs.Ytnjhkjlekepjoaa.sigbinGets
