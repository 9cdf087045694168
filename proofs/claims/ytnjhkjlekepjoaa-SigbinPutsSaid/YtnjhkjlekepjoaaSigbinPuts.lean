/-
  At every signature the law on what sigbin's Put and Frame answer, beside the document's own answers, and on what is read of them, comes out true, and nothing that lay in memory has changed. No condition.
-/
import Derived.Test.YtnjhkjlekepjoaaRows
import Derived.WalkKit
import Derived.ProofKit
import Derived.OpenShut
import Derived.ShutString
import Derived.ChangeOld
import Derived.Below
import Derived.Lib.SmallJoins
import Derived.Deep.LoopGhost
import Derived.Test.YtnjhkjlekepjoaaSigbinFixed
import Derived.Test.YtnjhkjlekepjoaaSigbinRefFrame
import Derived.Test.YtnjhkjlekepjoaaSigbinReads
import Derived.Test.YtnjhkjlekepjoaaSigSameRef
import Derived.Test.YtnjhkjlekepjoaaSigGreat
import Derived.Test.YtnjhkjlekepjoaaFrameGet
namespace Go.Proofs.Ytnjhkjlekepjoaa.sigbinPuts
open Go.Proofs.Ytnjhkjlekepjoaa
open Go.ChangeShapes Go.WideShapes Go.ChangeAt Go.RowKit
open Go.ChangeMaps (open_string shut_string)
set_option linter.unusedVariables false

theorem own : ownKnob Try.prog.godebug = none := by kernel_rfl
theorem laidOut : laidOutB Try.prog = true := by kernel_rfl

set_option maxRecDepth 100000 in
set_option maxHeartbeats 2000000 in
theorem walk (a0 : Option Addr) (len0 cap0 : Nat) (l0 : List Pd) (w : World) (w0 : l0.length = len0 ∧ PredRow w w.heap.size (.slice a0 len0 cap0) l0) :
    Calls Try.prog 3 #[.slice a0 len0 cap0] w fun e w' => e = .returned (.bool true) ∧ Below w.heap.size w w' := by
  obtain ⟨rfl, hrow⟩ := w0
  have HFX := Lib.hid (fun W => bfix_any W)
  have hgr := great_any a0 cap0 l0 w hrow
  have HROW := Lib.hid hrow
  clear hrow
  cases hg : greatP (l0.map (·.p)) with
  | true =>
    rw [hg] at hgr
    have HG := Lib.hid hgr
    clear hg hgr
    go_enter Try.func3, Try.ntmps3
    go_wp2_with fail
    refine HG.out.mono ?_
    rintro e w2 ⟨rfl, hb2⟩
    have HB2 := Lib.hid hb2
    clear hb2
    go_wp2_with fail
    refine (HFX.out _).mono ?_
    rintro e w3 ⟨rfl, hb3⟩
    have HB3 := Lib.hid (HB2.out.trans (hb3.mono HB2.out.size))
    clear hb3
    go_wp2_with fail
    go_ret
    exact ⟨rfl, HB3.out⟩
  | false =>
    rw [hg] at hgr
    have HG := Lib.hid hgr
    have HPC := Lib.hid (fun W (h : Below w.heap.size w W) => sbput_any a0 cap0 l0 W ((HROW.out.below h).more h.size))
    have HPR := Lib.hid (fun W (h : Below w.heap.size w W) => rsbput_any a0 cap0 l0 W ((HROW.out.below h).more h.size))
    have HFC := Lib.hid (fun W (h : Below w.heap.size w W) => sbframe_any a0 cap0 l0 W ((HROW.out.below h).more h.size))
    have HFR := Lib.hid (fun W (h : Below w.heap.size w W) => rsbframe_any a0 cap0 l0 W ((HROW.out.below h).more h.size))
    have hgi := fun (h : checkP (l0.map (·.p)) = 0) => (show putS (l0.map (·.p)) = (encS (l0.map (·.p)), 0) ∧ frameS (l0.map (·.p)) = (encFr 1 (encS (l0.map (·.p))), 0) from ⟨if_pos h, if_pos h⟩)
    have hgn := fun (h : ¬ checkP (l0.map (·.p)) = 0) => (show putS (l0.map (·.p)) = ([], checkP (l0.map (·.p))) ∧ frameS (l0.map (·.p)) = ([], checkP (l0.map (·.p))) from ⟨if_neg h, if_neg h⟩)
    have HGI := Lib.hid hgi
    have HGN := Lib.hid hgn
    clear hg hgr hgi hgn
    obtain ⟨P, hP⟩ : ∃ P, putS (l0.map (·.p)) = P := ⟨_, rfl⟩
    obtain ⟨F, hF⟩ : ∃ F, frameS (l0.map (·.p)) = F := ⟨_, rfl⟩
    rw [hP] at HPC HPR
    rw [hF] at HFC HFR
    have HP := Lib.hid hP
    have HF := Lib.hid hF
    obtain ⟨p, e0⟩ := P
    obtain ⟨f, e1⟩ := F
    have hee : (e0 != e0) = false := by simp
    have hee1 : (e1 != e1) = false := by simp
    clear hP hF
    go_enter Try.func3, Try.ntmps3
    go_wp2_with fail
    refine HG.out.mono ?_
    rintro e w2 ⟨rfl, hb2⟩
    have HB2 := Lib.hid hb2
    have HC := Lib.hid (HPC.out w2 hb2)
    clear hb2 HG HPC
    go_wp2_with fail
    refine HC.out.mono ?_
    rintro e w3 ⟨A, c, rfl, hown, hb3⟩
    dsimp only at hown
    have HB3 := Lib.hid (HB2.out.trans (hb3.mono HB2.out.size))
    have HR3 := Lib.hid (Row.of_own hown)
    have HC2 := Lib.hid (HPR.out w3 HB3.out)
    clear hown hb3 HC HPR HB2
    go_wp2_with fail
    refine HC2.out.mono ?_
    rintro e w4 ⟨rfl, hb4⟩
    have HB4 := Lib.hid (HB3.out.trans (hb4.mono HB3.out.size))
    have HR4 := Lib.hid ((HR3.out.below hb4).more hb4.size)
    have HC3 := Lib.hid (HFC.out w4 HB4.out)
    clear hb4 HC2 HB3 HR3 HFC
    go_wp2_with fail
    refine HC3.out.mono ?_
    rintro e w5 ⟨Af, cf, rfl, hownf, hb5⟩
    dsimp only at hownf
    have HB5 := Lib.hid (HB4.out.trans (hb5.mono HB4.out.size))
    have HR5 := Lib.hid ((HR4.out.below hb5).more hb5.size)
    have HS5 := Lib.hid (Row.of_own hownf)
    have HC4 := Lib.hid (HFR.out w5 HB5.out)
    clear hownf hb5 HC3 HB4 HR4 HFR
    go_wp2_with fail
    refine HC4.out.mono ?_
    rintro e w6 ⟨rfl, hb6⟩
    have HB6 := Lib.hid (HB5.out.trans (hb6.mono HB5.out.size))
    have HR6 := Lib.hid ((HR5.out.below hb6).more hb6.size)
    have HS6 := Lib.hid ((HS5.out.below hb6).more hb6.size)
    have hcv1 := HR6.out.convert (P := Try.prog) 25 5 9 Try.underlying25 Try.underlying5 Try.underlying9
    have hcv2 := HS6.out.convert (P := Try.prog) 25 5 9 Try.underlying25 Try.underlying5 Try.underlying9
    clear hb6 HC4 HB5 HR5 HS5
    by_cases h0 : checkP (l0.map (·.p)) = 0
    · obtain ⟨q1, q2⟩ := HGI.out h0
      rw [HP.out] at q1
      rw [HF.out] at q2
      injection q1 with q3 q4
      injection q2 with q5 q6
      subst q4 q6
      obtain ⟨hl1, hl2⟩ := encS_le h0
      have hby := encS_bytes h0
      have hgs := getSig_enc h0
      rw [← q3] at q5 hl1 hl2 hby hgs
      have hfb := encFr_one_byte (by omega) hby
      have hfg := getFr_enc (k := 1) (p := p) (.inl rfl) (by omega) []
      rw [List.append_nil] at hfg
      have hfl := encFr_length 1 p
      rw [← q5] at hfb hfg hfl
      have hl10 := encI_ten (n := p.length) (by omega)
      have hG1 := bsget_any A c p (by omega) hby w6 HR6.out
      rw [hgs] at hG1
      have HG1 := Lib.hid hG1
      have HG2 := Lib.hid (fun (W : World) (h : Row W W.heap.size (.slice Af f.length cf) f) => (show Calls Try.prog 13 #[.slice Af f.length cf] W (FGot W ((1, p), f.length, 0)) by rw [← hfg]; exact fget_any Af cf f (by omega) W h hfb))
      clear q3 q5 h0 hby hgs hfb hfg hG1 hfl hl10
      go_wp2_with fail
      refine HG1.out.mono ?_
      rintro e w7 ⟨⟨Am, cm, es, rfl, hown7, hes7⟩, hb7⟩
      simp only at hes7
      have HB7 := Lib.hid (HB6.out.trans (hb7.mono HB6.out.size))
      have HG3 := Lib.hid (HG2.out w7 ((HS6.out.below hb7).more hb7.size))
      have HM7 := Lib.hid hown7.fresh.1
      have HES := Lib.hid hes7
      clear hown7 hes7 hb7 HG1 HG2 hcv1 hcv2
      go_wp2_with fail
      refine HG3.out.mono ?_
      rintro e w8 ⟨Ap, cp, rfl, hr8, hb8⟩
      dsimp only at hr8
      obtain ⟨w9, hw9⟩ : ∃ w9, w8.alloc (.cells #[.int .i64 1, .slice Ap p.length cp] 34) = w9 := ⟨_, rfl⟩
      have h9 : Held w9 w8.heap.size 34 #[.int .i64 1, .slice Ap p.length cp] := by rw [← hw9]; exact heap_alloc_new w8 _
      have b9 : Below w8.heap.size w8 w9 := by rw [← hw9]; exact (Below.refl _ _).alloc (Nat.le_refl _) _
      have hs78 := hb8.size
      have HB8 := Lib.hid (HB7.out.trans (hb8.mono HB7.out.size))
      have HB9 := Lib.hid (HB8.out.trans (b9.mono HB8.out.size))
      have HM9 := Lib.hid ((HM7.out.below (hb8.trans (b9.mono hs78))).more (Nat.le_trans hs78 b9.size))
      have HR9 := Lib.hid ((hr8.below b9).more b9.size)
      have HH9 := Lib.hid h9
      have y0 := h9.cell 0
      have y1 := h9.cell 1
      simp at y0 y1
      clear h9 b9 hs78 hb8 hr8 HG3 HM7
      go_wp2_with fail
      clear hw9
      refine (HFX.out w9).mono ?_
      rintro e w10 ⟨rfl, hb10⟩
      have HB10 := Lib.hid (HB9.out.trans (hb10.mono HB9.out.size))
      have HSM := Lib.hid (rsigsame_any Am cm es a0 cap0 l0 w10 ((HM9.out.below hb10).more hb10.size) ((HROW.out.below HB10.out).more HB10.out.size))
      rw [HES.out, decide_eq_true rfl] at HSM
      have HR10 := Lib.hid ((HR9.out.below hb10).more hb10.size)
      have HH10 := Lib.hid (HH9.out.below hb10 HH9.out.lt)
      clear hb10 y0 y1 HM9 HR9 HH9
      go_wp2_with fail
      refine HSM.out.mono ?_
      rintro e w11 ⟨rfl, hb11⟩
      have HB11 := Lib.hid (HB10.out.trans (hb11.mono HB10.out.size))
      have h11 := HH10.out.below hb11 HH10.out.lt
      have y0 := h11.cell 0
      have y1 := h11.cell 1
      simp at y0 y1
      have hcv := (HR10.out.below hb11).convert (P := Try.prog) 25 5 9 Try.underlying25 Try.underlying5 Try.underlying9
      clear h11 hb11 HSM
      go_wp2_with fail
      go_ret
      exact ⟨rfl, HB11.out⟩
    · obtain ⟨q1, q2⟩ := HGN.out h0
      have hne : (checkP (l0.map (·.p)) != 0) = true := bne_iff_ne.2 h0
      rw [HP.out] at q1
      rw [HF.out] at q2
      injection q1 with q3 q4
      injection q2 with q5 q6
      rw [← q4] at hne
      clear q3 q4 q5 q6 h0
      go_wp2_with fail
      refine (HFX.out _).mono ?_
      rintro e w7 ⟨rfl, hb7⟩
      have HB7 := Lib.hid (HB6.out.trans (hb7.mono HB6.out.size))
      clear hb7
      go_wp2_with fail
      go_ret
      exact ⟨rfl, HB7.out⟩

set_option maxRecDepth 100000 in
theorem lifted (os : Os) (started : os.Started) (H : Type) (enc : TypeId × Value → H) :
    ReturnsInHanded {} Try.checked os 3 .any (Rows.sigbinPutsSpec.pre6 enc Try.prog Try.f3 Rows.sigbinPutsRow.domain false) (Rows.sigbinPutsSpec.post enc Try.prog Try.f3 false true false false) := by
  refine returnsInHanded_of_change (C := Try.checked) own started (by kernel_rfl) Try.func3
    (ChangeSpec.witness6 (enc := enc) (C := Try.checked) false ⟨#[], #[.slice none 0 0], []⟩ 8 (by kernel_rfl) (by kernel_rfl) (by kernel_rfl) (by kernel_rfl)) ?_
  intro W base args ds gs before hval0 hW hcnd _
  have hval : ∀ (j : Nat) t v, Try.f3.params[j]? = some t → args[j]? = some v → Value.okWide Try.prog W .any base t v := hval0
  have hW' := hW
  obtain ⟨p, q, hA0, hV, rfl, hfz, hnd⟩ := hW
  have hA : DataW.TrodAll enc Try.prog W 0 (fun _ => true) true Try.f3.params.toList args.toList ds p := hA0
  rw [Try.params3] at hA hval
  obtain ⟨v0, vs0, d0, ds0, p0, q0, hargs, rfl, rfl, h0, r0⟩ := trodAll_cons hA
  obtain ⟨rfl, rfl, rfl⟩ := trodAll_nil r0
  obtain rfl : args = #[v0] := by cases args; simp_all
  obtain ⟨rfl, rfl⟩ := trodVars_none hV
  obtain ⟨a0, len0, cap0, rfl⟩ := okWide_slice Try.underlying22 (hval 0 22 v0 rfl rfl)
  have k0 := h0
  have lt0 : ∀ x ∈ p0, x.block < W.heap.size := by obtain ⟨m, hm⟩ := k0; exact DataW.trod_lt m _ _ _ hm
  obtain ⟨l0, w0⟩ : ∃ ds : List Pd, ds.length = len0 ∧ PredRow W W.heap.size (.slice a0 len0 cap0) ds := by
    obtain ⟨fuel, hf⟩ := h0
    exact preds_of hf
  clear hA0 hval0
  refine (walk a0 len0 cap0 l0 W w0).mono fun e W' ⟨he, bel⟩ => ?_
  subst he
  exact ⟨_, rfl, _, _, _, [], _, [], hW', trodAll_mk1 (shut_bool Try.underlying4 _), (trodAll_cons_mk (Below.trod laidOut (by kernel_rfl) (of_decide_eq_true (by kernel_rfl)) k0 bel lt0) (trodAll_mk0)), rfl, bel.frame _, fun h => by cases h⟩

theorem over : Rows.sigbinPutsRow.holds Try.pinned (OpenSpec.ofChange Rows.sigbinPutsSpec) :=
  OpenClaim.holds_of_wide 3 Try.f3 rfl rfl rfl rfl rfl rfl rfl ⟨rfl, rfl, rfl, rfl, rfl⟩ rfl rfl rfl rfl rfl (by kernel_rfl) Try.func3 (by kernel_rfl)
    (of_decide_eq_true (by kernel_rfl)) (by unfold Func.isWrapper; first | (rw [if_pos (by decide +kernel)]; kernel_rfl) | (rw [if_neg (by decide +kernel)]; exact ⟨rfl, rfl⟩))
    (fun os started H enc _ => lifted os started H enc)

theorem proved : Rows.SigbinPutsSaid := over
#print axioms proved
end Go.Proofs.Ytnjhkjlekepjoaa.sigbinPuts
