/-
  At every two signatures the law on whether they are the same, and on a clone, comes out true, and nothing that lay in memory has changed. No condition.
-/
import Derived.Test.YtfbpgkohekfkjaaRows
import Derived.WalkKit
import Derived.ProofKit
import Derived.OpenShut
import Derived.ShutString
import Derived.ChangeOld
import Derived.Below
import Derived.Lib.SmallJoins
import Derived.Deep.LoopGhost
import Derived.Test.YtfbpgkohekfkjaaSigCode
import Derived.Test.YtfbpgkohekfkjaaSigSameAll
import Derived.Test.YtfbpgkohekfkjaaSigCloneCode
import Derived.Test.YtfbpgkohekfkjaaSigClone
import Derived.Test.YtfbpgkohekfkjaaSigGreat
import Derived.Test.YtfbpgkohekfkjaaSigSameRef
namespace Go.Proofs.Ytfbpgkohekfkjaa.sigSame
open Go.Proofs.Ytfbpgkohekfkjaa
open Go.ChangeShapes Go.WideShapes Go.ChangeAt Go.RowKit
open Go.ChangeMaps (open_string shut_string)
set_option linter.unusedVariables false

theorem own : ownKnob Try.prog.godebug = none := by kernel_rfl
theorem laidOut : laidOutB Try.prog = true := by kernel_rfl

set_option maxRecDepth 100000 in
set_option maxHeartbeats 2000000 in
theorem walk (HCk : CheckC) (HCl : CloneC) (HSa : SameC) (a0 : Option Addr) (len0 cap0 : Nat) (l0 : List Pd) (a1 : Option Addr) (len1 cap1 : Nat) (l1 : List Pd) (w : World) (w0 : l0.length = len0 ∧ PredRow w w.heap.size (.slice a0 len0 cap0) l0) (w1 : l1.length = len1 ∧ PredRow w w.heap.size (.slice a1 len1 cap1) l1) :
    Calls Try.prog 4 #[.slice a0 len0 cap0, .slice a1 len1 cap1] w fun e w' => e = .returned (.bool true) ∧ Below w.heap.size w w' := by
  obtain ⟨rfl, hrow0⟩ := w0
  obtain ⟨rfl, hrow1⟩ := w1
  have HK := Lib.hid HCl
  have HS := Lib.hid HSa
  have HROW0 := Lib.hid hrow0
  have HROW1 := Lib.hid hrow1
  have HFX := Lib.hid (fun W => gfix_any HCk W)
  have hgr0 := great_any a0 cap0 l0 w hrow0
  have hgr1 := fun W h => great_any a1 cap1 l1 W h
  clear hrow0 hrow1 HCk HCl HSa
  cases hg : greatP (l0.map (·.p)) with
  | true =>
    rw [hg] at hgr0
    have HG := Lib.hid hgr0
    clear hg hgr0 hgr1
    go_enter Try.func4, Try.ntmps4
    go_wp2_with fail
    refine HG.out.mono ?_
    rintro e w2 ⟨rfl, hb2⟩
    have HB2 := Lib.hid hb2
    clear hb2
    go_wp2_with fail
    refine (HFX.out _).mono ?_
    rintro e w3 ⟨rfl, hb3⟩
    have HB3 := Lib.hid (HB2.out.trans (hb3.mono HB2.out.size))
    clear hb3
    go_wp2_with fail
    go_ret
    exact ⟨rfl, HB3.out⟩
  | false =>
    obtain ⟨hl1, hl2⟩ := greatP_no hg
    rw [List.length_map] at hl1
    have HL2 := Lib.hid hl2
    have HSM := Lib.hid (show ∀ d ∈ l0, d.p.args.length ≤ 1000000000 from fun d hd => by have := (hl2 d.p (List.mem_map.2 ⟨d, hd, rfl⟩)).1; omega)
    rw [hg] at hgr0
    have HG := Lib.hid hgr0
    clear hg hgr0 hl2
    cases hg1 : greatP (l1.map (·.p)) with
    | true =>
      rw [hg1] at hgr1
      have HG1 := Lib.hid hgr1
      clear hg1 hgr1
      go_enter Try.func4, Try.ntmps4
      go_wp2_with fail
      refine HG.out.mono ?_
      rintro e w2 ⟨rfl, hb2⟩
      have HB2 := Lib.hid hb2
      have HR2 := Lib.hid ((HROW1.out.below hb2).more hb2.size)
      clear hb2
      go_wp2_with fail
      refine (HG1.out _ HR2.out).mono ?_
      rintro e w3 ⟨rfl, hb3⟩
      have HB3 := Lib.hid (HB2.out.trans (hb3.mono HB2.out.size))
      clear hb3
      go_wp2_with fail
      refine (HFX.out _).mono ?_
      rintro e w4 ⟨rfl, hb4⟩
      have HB4 := Lib.hid (HB3.out.trans (hb4.mono HB3.out.size))
      clear hb4
      go_wp2_with fail
      go_ret
      exact ⟨rfl, HB4.out⟩
    | false =>
      rw [hg1] at hgr1
      have HG1 := Lib.hid hgr1
      clear hg1 hgr1
      go_enter Try.func4, Try.ntmps4
      go_wp2_with fail
      refine HG.out.mono ?_
      rintro e w2 ⟨rfl, hb2⟩
      have HB2 := Lib.hid hb2
      have HR2 := Lib.hid ((HROW1.out.below hb2).more hb2.size)
      clear hb2
      go_wp2_with fail
      refine (HG1.out _ HR2.out).mono ?_
      rintro e w3 ⟨rfl, hb3⟩
      have HB3 := Lib.hid (HB2.out.trans (hb3.mono HB2.out.size))
      have HX3 := Lib.hid ((HROW0.out.below HB3.out).more HB3.out.size)
      clear hb3
      go_wp2_with fail
      refine (HK.out a0 cap0 l0 w3 HX3.out (by omega) HSM.out).mono ?_
      rintro e w4 ⟨Ac, cc, es, rfl, hfr, hes, hb4⟩
      have hz3 : w.heap.size ≤ w3.heap.size := HB3.out.size
      have hz4 : w3.heap.size ≤ w4.heap.size := hb4.size
      have HB4 := Lib.hid (HB3.out.trans (hb4.mono hz3))
      have HX4 := Lib.hid ((HROW0.out.below HB4.out).more HB4.out.size)
      have HY4 := Lib.hid ((HROW1.out.below HB4.out).more HB4.out.size)
      have HFR := Lib.hid hfr
      have HES := Lib.hid hes
      clear hb4 hfr hes
      obtain ⟨_, hcc1, hcc2⟩ : ∃ _ : True, es.length ≤ cc ∧ cc ≤ 9223372036854775807 := by
        obtain ⟨A', c', hv, q1, q2⟩ := HFR.out.1.form
        injection hv with _ _ e3
        exact ⟨trivial, by omega, by omega⟩
      obtain ⟨r, hr⟩ : ∃ r, decide (l0.map (·.p) = l1.map (·.p)) = r := ⟨_, rfl⟩
      have hr2 : decide (l1.map (·.p) = l0.map (·.p)) = r := by rw [← hr]; exact decide_eq_decide.2 eq_comm
      have HS1 := Lib.hid (fun W h k => HS.out a0 cap0 l0 a1 cap1 l1 W h k)
      have HS2 := Lib.hid (fun W h k => HS.out a1 cap1 l1 a0 cap0 l0 W h k)
      have HS3 := Lib.hid (fun W h k => rsigsame_any a0 cap0 l0 a1 cap1 l1 W h k)
      have HS4 := Lib.hid (fun W h k => HS.out a0 cap0 l0 Ac cc es W h k)
      have HS5 := Lib.hid (fun W h k => rsigsame_any Ac cc es a0 cap0 l0 W h k)
      rw [hr] at HS1 HS3
      rw [hr2] at HS2
      rw [HES.out, decide_eq_true rfl] at HS4 HS5
      have hrr : (r != r) = false := by simp
      clear hr hr2
      go_wp2_with fail
      refine (HS1.out _ HX4.out HY4.out).mono ?_
      rintro e w5 ⟨rfl, hb5⟩
      have hz5 : w4.heap.size ≤ w5.heap.size := hb5.size
      have HB5 := Lib.hid hb5
      have HX5 := Lib.hid ((HX4.out.below hb5).more hz5)
      have HY5 := Lib.hid ((HY4.out.below hb5).more hz5)
      clear hb5
      go_wp2_with fail
      refine (HS3.out _ HX5.out HY5.out).mono ?_
      rintro e w6 ⟨rfl, hb6⟩
      have hz6 : w5.heap.size ≤ w6.heap.size := hb6.size
      have HB6 := Lib.hid (HB5.out.trans (hb6.mono hz5))
      have HX6 := Lib.hid ((HX5.out.below hb6).more hz6)
      have HY6 := Lib.hid ((HY5.out.below hb6).more hz6)
      clear hb6
      go_wp2_with fail
      refine (HS2.out _ HY6.out HX6.out).mono ?_
      rintro e w7 ⟨rfl, hb7⟩
      have hz7 : w6.heap.size ≤ w7.heap.size := hb7.size
      have HB7 := Lib.hid (HB6.out.trans (hb7.mono (by omega)))
      have HX7 := Lib.hid ((HX6.out.below hb7).more hz7)
      have HY7 := Lib.hid ((HY6.out.below hb7).more hz7)
      clear hb7
      go_wp2_with fail
      refine (HS1.out _ HX7.out HY7.out).mono ?_
      rintro e w8 ⟨rfl, hb8⟩
      have hz8 : w7.heap.size ≤ w8.heap.size := hb8.size
      have HB8 := Lib.hid (HB7.out.trans (hb8.mono (by omega)))
      have HX8 := Lib.hid ((HX7.out.below hb8).more hz8)
      have HY8 := Lib.hid ((HY7.out.below hb8).more hz8)
      clear hb8
      go_wp2_with fail
      have hc8 := (HFR.out.1.below HB8.out).more (by omega : w4.heap.size ≤ w8.heap.size)
      refine (HS4.out _ HX8.out hc8).mono ?_
      rintro e w9 ⟨rfl, hb9⟩
      have hz9 : w8.heap.size ≤ w9.heap.size := hb9.size
      have HB9 := Lib.hid (HB8.out.trans (hb9.mono (by omega)))
      have HX9 := Lib.hid ((HX8.out.below hb9).more hz9)
      have HY9 := Lib.hid ((HY8.out.below hb9).more hz9)
      clear hb9
      go_wp2_with fail
      have hc9 := (HFR.out.1.below HB9.out).more (by omega : w4.heap.size ≤ w9.heap.size)
      refine (HS5.out _ hc9 HX9.out).mono ?_
      rintro e w10 ⟨rfl, hb10⟩
      have hz10 : w9.heap.size ≤ w10.heap.size := hb10.size
      have HB10 := Lib.hid (HB9.out.trans (hb10.mono (by omega)))
      have HX10 := Lib.hid ((HX9.out.below hb10).more hz10)
      have HY10 := Lib.hid ((HY9.out.below hb10).more hz10)
      clear hb10
      go_wp2_with fail
      refine (HK.out a0 cap0 l0 w10 HX10.out (by omega) HSM.out).mono ?_
      rintro e w11 ⟨Ad, cd, es2, rfl, hfr2, hes2, hb11⟩
      have hz11 : w10.heap.size ≤ w11.heap.size := hb11.size
      obtain ⟨_, hcd1, hcd2⟩ : ∃ _ : True, es2.length ≤ cd ∧ cd ≤ 9223372036854775807 := by
        obtain ⟨A', c', hv, q1, q2⟩ := hfr2.1.form
        injection hv with _ _ e3
        exact ⟨trivial, by omega, by omega⟩
      have HB11 := Lib.hid (HB10.out.trans (hb11.mono (by omega)))
      have HFR2 := Lib.hid hfr2
      have HES2 := Lib.hid hes2
      clear hb11 hfr2 hes2 hc8 hc9
      have hnames : ∀ d ∈ es, d.p.name.length ≤ 100 := fun d hd => (HL2.out d.p (by rw [← HES.out]; exact List.mem_map.2 ⟨d, hd, rfl⟩)).2
      have hop := fun b o (e : Ac = some ⟨b, o, none⟩) => (show Open w11 b o es 0 from by
        have h := HFR.out
        rw [e] at h
        exact (h.open hnames).below HB11.out)
      have HOP := Lib.hid hop
      have HLO := Lib.hid (show ∀ b o, Ac = some ⟨b, o, none⟩ → 0 < es.length → w3.heap.size ≤ b ∧ b < w4.heap.size from fun b o e hn => by
        obtain ⟨A', c', hv, _, _, _, h4, _⟩ := HFR.out.1
        injection hv with e1 _ _
        obtain ⟨b', o', e', hlt, _⟩ := h4 hn
        have e2 := e.symm.trans (e1.trans e')
        injection e2 with e2
        injection e2 with e2 _ _
        exact ⟨HFR.out.2.1 _ e, by rw [e2]; exact hlt⟩)
      have HLA := Lib.hid (show ∀ d ∈ es, ∀ b o, d.A = some ⟨b, o, none⟩ → 0 < d.p.args.length → w3.heap.size ≤ b ∧ b < w4.heap.size from fun d hd b o e hn => by
        obtain ⟨j, hj⟩ := List.mem_iff_getElem?.1 hd
        obtain ⟨_, _, _, _, _, _, hir, _⟩ := HFR.out.1.at hj
        obtain ⟨b', o', e', hlt, _⟩ := hir.at hn
        have e2 := e.symm.trans e'
        injection e2 with e2
        injection e2 with e2 _ _
        exact ⟨HFR.out.2.2.1 d hd _ e, by rw [e2]; exact hlt⟩)
      have HAL := Lib.hid (show ∀ d ∈ es, d.p.args.length ≤ 30 from fun d hd => (HL2.out d.p (by rw [← HES.out]; exact List.mem_map.2 ⟨d, hd, rfl⟩)).1)
      have hesl : es.length ≤ 100 := by have := congrArg List.length HES.out; rw [List.length_map, List.length_map] at this; omega
      have HNIL := Lib.hid (show 0 < es.length → ∃ b o, Ac = some ⟨b, o, none⟩ from fun hn => by
        obtain ⟨A', c', hv, _, _, _, h4, _⟩ := HFR.out.1
        injection hv with e1 _ _
        obtain ⟨b', o', e', _⟩ := h4 hn
        exact ⟨b', o', e1.trans e'⟩)
      clear hnames hop
      go_wp2_with fail
      go_loopg [50] es.length (fun gk i wr => ∃ k : Nat, k ≤ es.length ∧ i = .int .i64 k ∧ Hid (es.length - k = gk) ∧ Hid (∀ b o, Ac = some ⟨b, o, none⟩ → Open wr b o es k) ∧ w11.heap.size ≤ wr.heap.size ∧ Hid (Mid w3.heap.size w4.heap.size w11 wr))
      case atStart => exact ⟨0, Nat.zero_le _, rfl, Lib.hid rfl, Lib.hid HOP.out, Nat.le_refl _, Lib.hid (Mid.refl _ _ _)⟩
      case round =>
        obtain ⟨k, hk, rfl, HGK, HQ, hzr, HM⟩ := hrel
        by_cases hlt : k < es.length
        · obtain ⟨d, hd⟩ : ∃ d, es[k]? = some d := ⟨_, List.getElem?_eq_getElem hlt⟩
          have hdm := List.mem_of_getElem? hd
          obtain ⟨b, o, rfl⟩ := HNIL.out (by omega)
          obtain ⟨⟨s, hs, hcs⟩, hfs⟩ := (HQ.out b o rfl).1 k d (Nat.le_refl _) hd
          have hcA := (HQ.out b o rfl).2.1 k d hd
          have hlo := HLO.out b o rfl (by omega)
          have hadd : ∀ W, (Op.stringOp .add s { data := #[120] }).run Try.prog W = .ok (.string (s ++ { data := #[120] })) W := fun W => run_string_add_sum (P := Try.prog) (w := W) _ _ (by show s.size + 1 ≤ _; omega)
          have hq2 := (HQ.out b o rfl).name hd (s ++ { data := #[120] })
          have hm2 := HM.out.put (p := ⟨b, o + k * 2, none⟩) hlo (.string (s ++ { data := #[120] }))
          have hz2 : wr.heap.size ≤ (wr.setCell ⟨b, o + k * 2, none⟩ (.string (s ++ { data := #[120] }))).heap.size := by simp [World.setCell]
          have hcA2 := hq2.2.1 k d hd
          have HQ2 := Lib.hid hq2
          have HM2 := Lib.hid hm2
          have hal := HAL.out d hdm
          have hla := HLA.out d hdm
          have HLD := Lib.hid hla
          have hpc : d.p.args.length ≤ d.c ∧ d.c ≤ 9223372036854775807 := by
            obtain ⟨_, _, _, _, _, _, _, _, q1, q2⟩ := HFR.out.1.at hd
            exact ⟨q1, q2⟩
          obtain ⟨hpc1, hpc2⟩ := hpc
          have HDM := Lib.hid hdm
          obtain ⟨dA, hdA⟩ : ∃ dA, d.A = dA := ⟨_, rfl⟩
          rw [hdA] at hcA hcA2
          have HDA := Lib.hid hdA
          have HD := Lib.hid hd
          clear hq2 hm2 hla hd hdm hdA
          obtain ⟨w12, hw12⟩ : ∃ w12, wr.setCell ⟨b, o + k * 2, none⟩ (.string (s ++ { data := #[120] })) = w12 := ⟨_, rfl⟩
          rw [hw12] at HQ2 HM2 hz2 hcA2
          go_wp2_with fail
          go_loopg [67] d.p.args.length (fun gm i wr2 => ∃ m : Nat, m ≤ d.p.args.length ∧ i = .int .i64 m ∧ Hid (d.p.args.length - m = gm) ∧ Hid (Open wr2 b o es (k + 1)) ∧ w11.heap.size ≤ wr2.heap.size ∧ Hid (Mid w3.heap.size w4.heap.size w11 wr2))
          case atStart => exact ⟨0, Nat.zero_le _, rfl, Lib.hid rfl, HQ2, by omega, HM2⟩
          case round =>
            obtain ⟨m, hm, rfl, HGM, HQ3, hzr2, HM3⟩ := hrel
            have hcA3 := HQ3.out.2.1 k d HD.out
            rw [HDA.out] at hcA3
            by_cases hml : m < d.p.args.length
            · obtain ⟨b2, o2, z, e2, hcz, hfz⟩ := HQ3.out.2.2 d HDM.out m hml
              obtain rfl : dA = some ⟨b2, o2, none⟩ := HDA.out.symm.trans e2
              have hlz := HLD.out b2 o2 e2 (by omega)
              have hq4 := fun y => HQ3.out.arg hcz y
              have hm4 := fun y => HM3.out.put (p := ⟨b2, o2 + m, none⟩) hlz (.int .i64 y)
              have HQ4 := Lib.hid hq4
              have HM4 := Lib.hid hm4
              clear hq4 hm4 e2 hcA hcA2 hw12
              go_wp2_with fail
              go_roundg (d.p.args.length - (m + 1))
              case measure => have := HGM.out; omega
              case rel => exact ⟨m + 1, by omega, by go_num, Lib.hid rfl, Lib.hid (HQ4.out _), by simpa [World.setCell] using hzr2, Lib.hid (HM4.out _)⟩
            · clear hcA hcA2 hw12 hcs hfs hadd
              go_wp2_with fail
              go_roundg (es.length - (k + 1))
              case measure => have := HGK.out; omega
              case rel => exact ⟨k + 1, by omega, by go_num, Lib.hid rfl, Lib.hid (fun b' o' e => by injection e with e; injection e with e1 e2 _; subst e1 e2; exact HQ3.out), hzr2, HM3⟩
        · have hge : es.length ≤ k := by omega
          have hz12 : w.heap.size ≤ w4.heap.size := by omega
          have HBW := Lib.hid ((HB4.out.trans (HB11.out.mono hz12)).trans (HM.out.below.mono hz3))
          have HXW := Lib.hid ((HROW0.out.below HBW.out).more HBW.out.size)
          have HDW := Lib.hid ((HFR2.out.less (by omega : w4.heap.size ≤ w10.heap.size)).mid HM.out)
          have hzw : w.heap.size ≤ wr.heap.size := by omega
          go_wp2_with fail
          refine (HFX.out _).mono ?_
          rintro e w13 ⟨rfl, hb13⟩
          have hsm := rsigsame_any a0 cap0 l0 Ad cd es2 w13 ((HXW.out.below hb13).more hb13.size) ((HDW.out.below hb13).more hb13.size)
          rw [HES2.out, decide_eq_true rfl] at hsm
          have HSM := Lib.hid hsm
          have HB13 := Lib.hid (HBW.out.trans (hb13.mono hzw))
          have hz13 : w.heap.size ≤ w13.heap.size := Nat.le_trans hzw hb13.size
          clear hb13 hsm
          go_wp2_with fail
          refine HSM.out.mono ?_
          rintro e w14 ⟨rfl, hb14⟩
          have HB14 := Lib.hid (HB13.out.trans (hb14.mono hz13))
          clear hb14
          go_wp2_with fail
          go_ret
          exact ⟨rfl, HB14.out⟩

set_option maxRecDepth 100000 in
theorem lifted (os : Os) (started : os.Started) (H : Type) (enc : TypeId × Value → H) :
    ReturnsInHanded {} Try.checked os 4 .any (Rows.sigSameSpec.pre6 enc Try.prog Try.f4 Rows.sigSameRow.domain false) (Rows.sigSameSpec.post enc Try.prog Try.f4 false true false false) := by
  refine returnsInHanded_of_change (C := Try.checked) own started (by kernel_rfl) Try.func4
    (ChangeSpec.witness6 (enc := enc) (C := Try.checked) false ⟨#[], #[.slice none 0 0, .slice none 0 0], []⟩ 8 (by kernel_rfl) (by kernel_rfl) (by kernel_rfl) (by kernel_rfl)) ?_
  intro W base args ds gs before hval0 hW hcnd _
  have hval : ∀ (j : Nat) t v, Try.f4.params[j]? = some t → args[j]? = some v → Value.okWide Try.prog W .any base t v := hval0
  have hW' := hW
  obtain ⟨p, q, hA0, hV, rfl, hfz, hnd⟩ := hW
  have hA : DataW.TrodAll enc Try.prog W 0 (fun _ => true) true Try.f4.params.toList args.toList ds p := hA0
  rw [Try.params4] at hA hval
  obtain ⟨v0, vs0, d0, ds0, p0, q0, hargs, rfl, rfl, h0, r0⟩ := trodAll_cons hA
  obtain ⟨v1, vs1, d1, ds1, p1, q1, rfl, rfl, rfl, h1, r1⟩ := trodAll_cons r0
  obtain ⟨rfl, rfl, rfl⟩ := trodAll_nil r1
  obtain rfl : args = #[v0, v1] := by cases args; simp_all
  obtain ⟨rfl, rfl⟩ := trodVars_none hV
  obtain ⟨a0, len0, cap0, rfl⟩ := okWide_slice Try.underlying22 (hval 0 22 v0 rfl rfl)
  have k0 := h0
  have lt0 : ∀ x ∈ p0, x.block < W.heap.size := by obtain ⟨m, hm⟩ := k0; exact DataW.trod_lt m _ _ _ hm
  obtain ⟨l0, w0⟩ : ∃ ds : List Pd, ds.length = len0 ∧ PredRow W W.heap.size (.slice a0 len0 cap0) ds := by
    obtain ⟨fuel, hf⟩ := h0
    exact preds_of hf
  obtain ⟨a1, len1, cap1, rfl⟩ := okWide_slice Try.underlying22 (hval 1 22 v1 rfl rfl)
  have k1 := h1
  have lt1 : ∀ x ∈ p1, x.block < W.heap.size := by obtain ⟨m, hm⟩ := k1; exact DataW.trod_lt m _ _ _ hm
  obtain ⟨l1, w1⟩ : ∃ ds : List Pd, ds.length = len1 ∧ PredRow W W.heap.size (.slice a1 len1 cap1) ds := by
    obtain ⟨fuel, hf⟩ := h1
    exact preds_of hf
  clear hA0 hval0
  refine (walk scheck_any sclone_any ssame_any a0 len0 cap0 l0 a1 len1 cap1 l1 W w0 w1).mono fun e W' ⟨he, bel⟩ => ?_
  subst he
  exact ⟨_, rfl, _, _, _, [], _, [], hW', trodAll_mk1 (shut_bool Try.underlying4 _), (trodAll_cons_mk (Below.trod laidOut (by kernel_rfl) (of_decide_eq_true (by kernel_rfl)) k0 bel lt0) (trodAll_cons_mk (Below.trod laidOut (by kernel_rfl) (of_decide_eq_true (by kernel_rfl)) k1 bel lt1) (trodAll_mk0))), rfl, bel.frame _, fun h => by cases h⟩

theorem over : Rows.sigSameRow.holds Try.pinned (OpenSpec.ofChange Rows.sigSameSpec) :=
  OpenClaim.holds_of_wide 4 Try.f4 rfl rfl rfl rfl rfl rfl rfl ⟨rfl, rfl, rfl, rfl, rfl⟩ rfl rfl rfl rfl rfl (by kernel_rfl) Try.func4 (by kernel_rfl)
    (of_decide_eq_true (by kernel_rfl)) (by unfold Func.isWrapper; first | (rw [if_pos (by decide +kernel)]; kernel_rfl) | (rw [if_neg (by decide +kernel)]; exact ⟨rfl, rfl⟩))
    (fun os started H enc _ => lifted os started H enc)

theorem proved : Rows.SigSameSaid := over
#print axioms proved
end Go.Proofs.Ytfbpgkohekfkjaa.sigSame
