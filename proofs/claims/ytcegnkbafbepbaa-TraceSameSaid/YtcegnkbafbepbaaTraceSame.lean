/-
  Whether any two traces are the same is the document's; a clone is the same, and nothing that is written into it changes the other one. No condition.
-/
import Derived.Test.YtcegnkbafbepbaaRows
import Derived.WalkKit
import Derived.ProofKit
import Derived.OpenShut
import Derived.ShutString
import Derived.ChangeOld
import Derived.Below
import Derived.Lib.SmallJoins
import Derived.Deep.LoopGhost
import Derived.Test.YtcegnkbafbepbaaTraceRefEq
import Derived.Test.YtcegnkbafbepbaaTraceClone
import Derived.Test.YtcegnkbafbepbaaTraceOpen
import Derived.Test.YtcegnkbafbepbaaTraceGreat
import Derived.Test.YtcegnkbafbepbaaTraceGfix
import Derived.Test.YtcegnkbafbepbaaTraceIn
namespace Go.Proofs.Ytcegnkbafbepbaa.traceSame
open Go.Proofs.Ytcegnkbafbepbaa
open Go.ChangeShapes Go.WideShapes Go.ChangeAt Go.RowKit
open Go.ChangeMaps (open_string shut_string)
set_option linter.unusedVariables false

theorem own : ownKnob Try.prog.godebug = none := by kernel_rfl
theorem laidOut : laidOutB Try.prog = true := by kernel_rfl

set_option maxRecDepth 100000 in
set_option maxHeartbeats 2000000 in
theorem walk (a0 : Option Addr) (len0 cap0 : Nat) (l0 : List Pm) (a1 : Option Addr) (len1 cap1 : Nat) (l1 : List Pm) (w : World) (w0 : l0.length = len0 ∧ TrRow w w.heap.size (.slice a0 len0 cap0) l0 ∧ TrFit l0) (w1 : l1.length = len1 ∧ TrRow w w.heap.size (.slice a1 len1 cap1) l1 ∧ TrFit l1) :
    Calls Try.prog 4 #[.slice a0 len0 cap0, .slice a1 len1 cap1] w fun e w' => e = .returned (.bool true) ∧ Below w.heap.size w w' := by
  obtain ⟨rfl, htr0, hfit0⟩ := w0
  obtain ⟨rfl, htr1, hfit1⟩ := w1
  obtain ⟨-, hc1, hc2⟩ := htr0.1.len
  obtain ⟨-, hd1, hd2⟩ := htr1.1.len
  have HTR0 := Lib.hid (fun W (h : Below w.heap.size w W) => (htr0.below h).more h.size)
  have HTR1 := Lib.hid (fun W (h : Below w.heap.size w W) => (htr1.below h).more h.size)
  have HFX := Lib.hid (fun W => tfix12_any W)
  have HG0 := Lib.hid (tgreat_any a0 cap0 l0 3000 w htr0)
  have HK := Lib.hid (fun W (h : Below w.heap.size w W) => tclone_any a0 cap0 l0 W (HTR0.out W h) hfit0)
  clear htr0 htr1 hfit0 hfit1
  obtain ⟨r, hr⟩ : ∃ r, decide (l0.map (·.p) = l1.map (·.p)) = r := ⟨_, rfl⟩
  have HS1 := Lib.hid (fun W (h : Below w.heap.size w W) => tsame_any a0 cap0 l0 a1 cap1 l1 W (HTR0.out W h) (HTR1.out W h))
  have HS2 := Lib.hid (fun W (h : Below w.heap.size w W) => rtsame_any a0 cap0 l0 a1 cap1 l1 W (HTR0.out W h) (HTR1.out W h))
  rw [hr] at HS1 HS2
  have hrr : (r != r) = false := by simp
  clear hr
  go_enter Try.func4, Try.ntmps4
  go_wp2_with fail
  refine HG0.out.mono ?_
  rintro e w2 ⟨⟨g, rfl⟩, hb2⟩
  have HB2 := Lib.hid hb2
  clear hb2
  cases g with
  | true =>
    go_wp2_with fail
    refine (HFX.out _).mono ?_
    rintro e w3 ⟨rfl, hb3⟩
    have HB3 := Lib.hid (HB2.out.trans (hb3.mono HB2.out.size))
    clear hb3
    go_wp2_with fail
    go_ret
    exact ⟨rfl, HB3.out⟩
  | false =>
    have HG1 := Lib.hid (tgreat_any a1 cap1 l1 3000 w2 (HTR1.out _ HB2.out))
    go_wp2_with fail
    refine HG1.out.mono ?_
    rintro e w3 ⟨⟨g, rfl⟩, hb3⟩
    have HB3 := Lib.hid (HB2.out.trans (hb3.mono HB2.out.size))
    clear hb3 HG1
    cases g with
    | true =>
      go_wp2_with fail
      refine (HFX.out _).mono ?_
      rintro e w4 ⟨rfl, hb4⟩
      have HB4 := Lib.hid (HB3.out.trans (hb4.mono HB3.out.size))
      clear hb4
      go_wp2_with fail
      go_ret
      exact ⟨rfl, HB4.out⟩
    | false =>
      go_wp2_with fail
      refine (HK.out _ HB3.out).mono ?_
      rintro e w4 ⟨Ac, cc, es, rfl, hoc, hec, hb4⟩
      have hz3 : w.heap.size ≤ w3.heap.size := HB3.out.size
      have hz4 : w3.heap.size ≤ w4.heap.size := hb4.size
      have HB4 := Lib.hid (HB3.out.trans (hb4.mono hz3))
      have HOC := Lib.hid hoc
      have HEC := Lib.hid hec
      obtain ⟨-, hcc1, hcc2⟩ := hoc.row.1.len
      clear hb4 hoc hec
      go_wp2_with fail
      refine (HK.out _ HB4.out).mono ?_
      rintro e w5 ⟨Ad, cd, es2, rfl, hod, hed, hb5⟩
      have hz5 : w4.heap.size ≤ w5.heap.size := hb5.size
      have HB45 := Lib.hid hb5
      have HB5 := Lib.hid (HB4.out.trans (hb5.mono (by omega)))
      have HOD := Lib.hid hod
      have HED := Lib.hid hed
      obtain ⟨-, hcd1, hcd2⟩ := hod.row.1.len
      have HC5 := Lib.hid (HOC.out.below hb5)
      clear hb5 hod hed
      have HS3 := Lib.hid (fun W (h : Below w5.heap.size w5 W) => tsame_any a0 cap0 l0 Ac cc es W (HTR0.out W (HB5.out.trans (h.mono (by omega)))) ((HC5.out.below h).row))
      have HS4 := Lib.hid (fun W (h : Below w5.heap.size w5 W) => rtsame_any a0 cap0 l0 Ac cc es W (HTR0.out W (HB5.out.trans (h.mono (by omega)))) ((HC5.out.below h).row))
      rw [HEC.out, decide_eq_true rfl] at HS3 HS4
      go_wp2_with fail
      refine (HS1.out _ HB5.out).mono ?_
      rintro e w6 ⟨rfl, hb6⟩
      have HB6 := Lib.hid hb6
      have HX6 := Lib.hid (HB5.out.trans (hb6.mono (by omega)))
      have hz6 := hb6.size
      clear hb6
      go_wp2_with fail
      refine (HS2.out _ HX6.out).mono ?_
      rintro e w7 ⟨rfl, hb7⟩
      have HB7 := Lib.hid (HB6.out.trans (hb7.mono hz6))
      have hz7 := HB7.out.size
      clear hb7
      go_wp2_with fail
      refine (HS3.out _ HB7.out).mono ?_
      rintro e w8 ⟨rfl, hb8⟩
      have HB8 := Lib.hid (HB7.out.trans (hb8.mono hz7))
      have hz8 := HB8.out.size
      clear hb8
      go_wp2_with fail
      refine (HS4.out _ HB8.out).mono ?_
      rintro e w9 ⟨rfl, hb9⟩
      have HB9 := Lib.hid (HB8.out.trans (hb9.mono hz8))
      have hz9 := HB9.out.size
      clear hb9
      have HP9 := Lib.hid ((HOC.out.open.below HB45.out).below HB9.out)
      have HD9 := Lib.hid (HOD.out.below HB9.out)
      have HX9 := Lib.hid (HB5.out.trans (HB9.out.mono (by omega)))
      go_wp2_with fail
      clear hrr
      go_loopg [42] es.length (fun gk i wr => ∃ k : Nat, k ≤ es.length ∧ i = .int .i64 k ∧ Hid (es.length - k = gk) ∧ w9.heap.size ≤ wr.heap.size ∧ Hid (OpT wr w3.heap.size w4.heap.size Ac es ∧ Mid w3.heap.size w4.heap.size w9 wr))
      case atStart => exact ⟨0, Nat.zero_le _, rfl, Lib.hid rfl, Nat.le_refl _, Lib.hid ⟨HP9.out, Mid.refl _ _ _⟩⟩
      case round =>
        obtain ⟨k, hk, rfl, HGK, hzr, HQ⟩ := hrel
        by_cases hlt : k < es.length
        · obtain ⟨d, hd⟩ : ∃ d, es[k]? = some d := ⟨_, List.getElem?_eq_getElem hlt⟩
          have hdm := List.mem_of_getElem? hd
          have hdl : d.evs.length ≤ 9223372036854775807 := by have := (HOC.out.row.2 d hdm).1.1.len; omega
          obtain ⟨b, o, rfl, ⟨⟨z, hz⟩, hfz, hlo⟩, hce⟩ := HQ.out.1.pts k d hd
          have HQ2 := Lib.hid (fun y => (show OpT _ _ _ _ _ ∧ Mid _ _ _ _ from ⟨HQ.out.1.put hz y, HQ.out.2.put hlo (.int .u64 y)⟩))
          have hz2 : ∀ y, w9.heap.size ≤ (wr.setCell ⟨b, o + k * 2, none⟩ (.int .u64 y)).heap.size := fun y => by simpa [World.setCell] using hzr
          have HZ2 := Lib.hid hz2
          have hce2 : ∀ y, (wr.setCell ⟨b, o + k * 2, none⟩ (.int .u64 y)).cell? ⟨b, o + k * 2 + 1, none⟩ = some (.slice d.A d.evs.length d.c) := fun y => cell_put_ne hz hce (by simp)
          have HDM := Lib.hid hdm
          have HD := Lib.hid hd
          clear hd hdm hz2
          go_wp2_with fail
          clear hce hce2 hz hfz
          obtain ⟨wx, hwx⟩ : ∃ wx, wx = wr := ⟨_, rfl⟩
          subst hwx
          go_loopg [59] d.evs.length (fun gm i wr2 => ∃ m : Nat, m ≤ d.evs.length ∧ i = .int .i64 m ∧ Hid (d.evs.length - m = gm) ∧ w9.heap.size ≤ wr2.heap.size ∧ Hid (OpT wr2 w3.heap.size w4.heap.size (some ⟨b, o, none⟩) es ∧ Mid w3.heap.size w4.heap.size w9 wr2))
          case atStart => exact ⟨0, Nat.zero_le _, rfl, Lib.hid rfl, HZ2.out _, Lib.hid (HQ2.out _)⟩
          case round =>
            clear hzr
            obtain ⟨m, hm, rfl, HGM, hzr, HQ3⟩ := hrel
            by_cases hml : m < d.evs.length
            · obtain ⟨x, hx⟩ : ∃ x, d.evs[m]? = some x := ⟨_, List.getElem?_eq_getElem hml⟩
              obtain ⟨b2, o2, e2, ⟨⟨z2, hz2⟩, hfz2, hlo2⟩, hce3⟩ := HQ3.out.1.evs d HDM.out m x hx
              have hce := (HQ3.out.1.pt HD.out).2
              rw [e2] at hce
              have HQ4 := Lib.hid (fun y => (show OpT _ _ _ _ _ ∧ Mid _ _ _ _ from ⟨HQ3.out.1.put hz2 y, HQ3.out.2.put hlo2 (.int .i64 y)⟩))
              have HZ4 := Lib.hid (show ∀ y, w9.heap.size ≤ (wr.setCell ⟨b2, o2 + m * 2, none⟩ (.int .i64 y)).heap.size from fun y => by simpa [World.setCell] using hzr)
              have hce2 : ∀ y, (wr.setCell ⟨b2, o2 + m * 2, none⟩ (.int .i64 y)).cell? ⟨b, o + k * 2 + 1, none⟩ = some (.slice (some ⟨b2, o2, none⟩) d.evs.length d.c) := fun y => cell_put_ne hz2 hce (by simp)
              have hce4 : ∀ y, (wr.setCell ⟨b2, o2 + m * 2, none⟩ (.int .i64 y)).cell? ⟨b2, o2 + m * 2 + 1, none⟩ = some (.slice x.A x.args.length x.c) := fun y => cell_put_ne hz2 hce3 (by simp)
              have HX := Lib.hid hx
              have HXM := Lib.hid (List.mem_of_getElem? hx)
              have hxl : x.args.length ≤ 9223372036854775807 := by have := ((HOC.out.row.2 d HDM.out).1.2 x HXM.out).1.1.len; omega
              have HE2 := Lib.hid e2
              clear hx e2
              go_wp2_with fail
              clear hce hce2 hce3 hce4 hz2 hfz2
              obtain ⟨wy, hwy⟩ : ∃ wy, wy = wr := ⟨_, rfl⟩
              subst hwy
              go_loopg [84] x.args.length (fun gj i wr3 => ∃ j : Nat, j ≤ x.args.length ∧ i = .int .i64 j ∧ Hid (x.args.length - j = gj) ∧ w9.heap.size ≤ wr3.heap.size ∧ Hid (OpT wr3 w3.heap.size w4.heap.size (some ⟨b, o, none⟩) es ∧ Mid w3.heap.size w4.heap.size w9 wr3))
              case atStart => exact ⟨0, Nat.zero_le _, rfl, Lib.hid rfl, HZ4.out _, Lib.hid (HQ4.out _)⟩
              case round =>
                clear hzr
                obtain ⟨j, hj, rfl, HGJ, hzr, HQ5⟩ := hrel
                by_cases hjl : j < x.args.length
                · obtain ⟨b3, o3, e3, ⟨⟨z3, hz3'⟩, hfz3, hlo3⟩⟩ := HQ5.out.1.args d HDM.out x HXM.out j hjl
                  have hce := (HQ5.out.1.pt HD.out).2
                  rw [HE2.out] at hce
                  have hce3 := (HQ5.out.1.ev HDM.out HE2.out HX.out).2
                  rw [e3] at hce3
                  have HQ6 := Lib.hid (fun y => (show OpT _ _ _ _ _ ∧ Mid _ _ _ _ from ⟨HQ5.out.1.put hz3' y, HQ5.out.2.put hlo3 (.int .i64 y)⟩))
                  have HZ6 := Lib.hid (show ∀ y, w9.heap.size ≤ (wr.setCell ⟨b3, o3 + j * 3 + 1, none⟩ (.int .i64 y)).heap.size from fun y => by simpa [World.setCell] using hzr)
                  clear e3
                  go_wp2_with fail
                  go_roundg (x.args.length - (j + 1))
                  case measure => have := HGJ.out; omega
                  case rel => exact ⟨j + 1, by omega, by go_num, Lib.hid rfl, HZ6.out _, Lib.hid (HQ6.out _)⟩
                · obtain rfl : j = x.args.length := by omega
                  go_wp2_with fail
                  go_roundg (d.evs.length - (m + 1))
                  case measure => have := HGM.out; omega
                  case rel => exact ⟨m + 1, by omega, by go_num, Lib.hid rfl, hzr, HQ5⟩
            · obtain rfl : m = d.evs.length := by omega
              go_wp2_with fail
              go_roundg (es.length - (k + 1))
              case measure => have := HGK.out; omega
              case rel => exact ⟨k + 1, by omega, by go_num, Lib.hid rfl, hzr, HQ3⟩
        · have hge : es.length ≤ k := by omega
          have hzw : w.heap.size ≤ wr.heap.size := by omega
          have HBW := Lib.hid (HX9.out.trans (HQ.out.2.below.mono hz3))
          have HDW := Lib.hid ((HD9.out.base (Nat.le_refl _)).mid HQ.out.2)
          go_wp2_with fail
          refine (HFX.out _).mono ?_
          rintro e w13 ⟨rfl, hb13⟩
          have hsm := rtsame_any a0 cap0 l0 Ad cd es2 w13 (HTR0.out _ (HBW.out.trans (hb13.mono hzw))) (HDW.out.below hb13).row
          rw [HED.out, decide_eq_true rfl] at hsm
          have HSM := Lib.hid hsm
          have HB13 := Lib.hid (HBW.out.trans (hb13.mono hzw))
          have hz13 : w.heap.size ≤ w13.heap.size := Nat.le_trans hzw hb13.size
          clear hb13 hsm
          go_wp2_with fail
          refine HSM.out.mono ?_
          rintro e w14 ⟨rfl, hb14⟩
          have HB14 := Lib.hid (HB13.out.trans (hb14.mono hz13))
          clear hb14
          go_wp2_with fail
          go_ret
          exact ⟨rfl, HB14.out⟩

set_option maxRecDepth 100000 in
theorem lifted (os : Os) (started : os.Started) (H : Type) (enc : TypeId × Value → H) :
    ReturnsInHanded {} Try.checked os 4 .any (Rows.traceSameSpec.pre6 enc Try.prog Try.f4 Rows.traceSameRow.domain false) (Rows.traceSameSpec.post enc Try.prog Try.f4 false true false false) := by
  refine returnsInHanded_of_change_sized (C := Try.checked) own started (by kernel_rfl) Try.func4
    (ChangeSpec.witness6 (enc := enc) (C := Try.checked) false ⟨#[], #[.slice none 0 0, .slice none 0 0], []⟩ 8 (by kernel_rfl) (by kernel_rfl) (by kernel_rfl) (by kernel_rfl)) ?_
  intro W base args ds gs before hval0 hW hcnd hsz _
  have hval : ∀ (j : Nat) t v, Try.f4.params[j]? = some t → args[j]? = some v → Value.okWide Try.prog W .any base t v := hval0
  have hW' := hW
  obtain ⟨p, q, hA0, hV, rfl, hfz, hnd⟩ := hW
  have hA : DataW.TrodAll enc Try.prog W 0 (fun _ => true) true Try.f4.params.toList args.toList ds p := hA0
  rw [Try.params4] at hA hval hsz
  obtain ⟨v0, vs0, d0, ds0, p0, q0, hargs, rfl, rfl, h0, r0⟩ := trodAll_cons hA
  obtain ⟨v1, vs1, d1, ds1, p1, q1, rfl, rfl, rfl, h1, r1⟩ := trodAll_cons r0
  obtain ⟨rfl, rfl, rfl⟩ := trodAll_nil r1
  obtain rfl : args = #[v0, v1] := by cases args; simp_all
  obtain ⟨rfl, rfl⟩ := trodVars_none hV
  obtain ⟨a0, len0, cap0, rfl⟩ := okWide_slice Try.underlying23 (hval 0 23 v0 rfl rfl)
  have k0 := h0
  have lt0 : ∀ x ∈ p0, x.block < W.heap.size := by obtain ⟨m, hm⟩ := k0; exact DataW.trod_lt m _ _ _ hm
  obtain ⟨l0, w0⟩ : ∃ ds : List Pm, ds.length = len0 ∧ TrRow W W.heap.size (.slice a0 len0 cap0) ds ∧ TrFit ds := by
    obtain ⟨fuel, hf⟩ := h0
    exact points_fit hf (fun n hn => by simpa using List.all_eq_true.1 hsz n (DataW.weights_mem_each (j := 0) rfl rfl n hn))
  obtain ⟨a1, len1, cap1, rfl⟩ := okWide_slice Try.underlying23 (hval 1 23 v1 rfl rfl)
  have k1 := h1
  have lt1 : ∀ x ∈ p1, x.block < W.heap.size := by obtain ⟨m, hm⟩ := k1; exact DataW.trod_lt m _ _ _ hm
  obtain ⟨l1, w1⟩ : ∃ ds : List Pm, ds.length = len1 ∧ TrRow W W.heap.size (.slice a1 len1 cap1) ds ∧ TrFit ds := by
    obtain ⟨fuel, hf⟩ := h1
    exact points_fit hf (fun n hn => by simpa using List.all_eq_true.1 hsz n (DataW.weights_mem_each (j := 1) rfl rfl n hn))
  clear hA0 hval0
  refine (walk a0 len0 cap0 l0 a1 len1 cap1 l1 W w0 w1).mono fun e W' ⟨he, bel⟩ => ?_
  subst he
  exact ⟨_, rfl, _, _, _, [], _, [], hW', trodAll_mk1 (shut_bool Try.underlying4 _), (trodAll_cons_mk (Below.trod laidOut (by kernel_rfl) (of_decide_eq_true (by kernel_rfl)) k0 bel lt0) (trodAll_cons_mk (Below.trod laidOut (by kernel_rfl) (of_decide_eq_true (by kernel_rfl)) k1 bel lt1) (trodAll_mk0))), rfl, bel.frame _, fun h => by cases h⟩

theorem over : Rows.traceSameRow.holds Try.pinned (OpenSpec.ofChange Rows.traceSameSpec) :=
  OpenClaim.holds_of_wide 4 Try.f4 rfl rfl rfl rfl rfl rfl rfl ⟨rfl, rfl, rfl, rfl, rfl⟩ rfl rfl rfl rfl rfl (by kernel_rfl) Try.func4 (by kernel_rfl)
    (of_decide_eq_true (by kernel_rfl)) (by unfold Func.isWrapper; first | (rw [if_pos (by decide +kernel)]; kernel_rfl) | (rw [if_neg (by decide +kernel)]; exact ⟨rfl, rfl⟩))
    (fun os started H enc _ => lifted os started H enc)

theorem proved : Rows.TraceSameSaid := over
#print axioms proved
end Go.Proofs.Ytcegnkbafbepbaa.traceSame
