/-
  What was written is read as it is, however many points a block has: the signature, the trace, no byte skipped, no frame refused: ReadBack answers true for every signature, trace and number, whose memory is of a size that a machine has.
-/
import Derived.Test.YtimihhcidbeonaaGreatRows
import Derived.WalkKit
import Derived.ProofKit
import Derived.OpenShut
import Derived.ShutString
import Derived.ChangeOld
import Derived.Below
import Derived.Lib.SmallJoins
import Derived.Deep.LoopGhost
import Derived.Test.YtimihhcidbeonaaGreatReadBackZ15
namespace Go.Proofs.YtimihhcidbeonaaGreat.readBack
open Go.Proofs.YtimihhcidbeonaaGreat
open Go.ChangeShapes Go.WideShapes Go.ChangeAt Go.RowKit
open Go.ChangeMaps (open_string shut_string)
set_option linter.unusedVariables false
theorem own : ownKnob Tryz.prog.godebug = none := by kernel_rfl
theorem laidOut : laidOutB Tryz.prog = true := by kernel_rfl
set_option maxRecDepth 100000 in
set_option maxHeartbeats 2000000 in
theorem walk (a0 : Option Addr) (len0 cap0 : Nat) (l0 : List Pd) (a1 : Option Addr) (len1 cap1 : Nat) (l1 : List Pm) (a2 : Int) (w : World) (w0 : l0.length = len0 ∧ PredRow w w.heap.size (.slice a0 len0 cap0) l0) (w1 : l1.length = len1 ∧ TrRow w w.heap.size (.slice a1 len1 cap1) l1 ∧ TrFit l1) (w2 : (Lit.int .i64 a2).wf = true) :
    Calls Tryz.prog 8 #[.slice a0 len0 cap0, .slice a1 len1 cap1, .int .i64 a2] w fun e w' => e = .returned (.bool true) ∧ Below w.heap.size w w' := by
  obtain ⟨rfl, hrow⟩ := w0
  obtain ⟨rfl, htr, hft⟩ := w1
  have HFX := Lib.hid (fun W => fix18_any W)
  have HGR := Lib.hid (great17_len a0 cap0 l0 a1 cap1 l1 w hrow htr hft)
  have HROW := Lib.hid hrow
  have HTR := Lib.hid htr
  obtain ⟨hd1, hd2⟩ : l0.length ≤ cap0 ∧ cap0 ≤ 9223372036854775807 := by
    obtain ⟨A', c', hv, q1, q2⟩ := hrow.form
    injection hv with _ _ e3
    exact ⟨by omega, by omega⟩
  obtain ⟨-, hc1, hc2⟩ := htr.1.len
  by_cases hy : whyC (l0.map (·.p)) l1 a2 = 0
  · have hck := cok_of hy htr.fits
    have HWB := Lib.hid (fun (W : World) (hW : Below w.heap.size w W) (hl : l1.length ≤ 1500) => wbytes_ok W a0 cap0 l0 a1 cap1 l1 a2 ((HROW.out.below hW).more hW.size) ((HTR.out.below hW).more hW.size) hft (by omega) hy)
    have HWF := Lib.hid (fun (W : World) (hW : Below w.heap.size w W) (hl : l1.length ≤ 1500) => wframes_ok W a0 cap0 l0 a1 cap1 l1 a2 ((HROW.out.below hW).more hW.size) ((HTR.out.below hW).more hW.size) hft (by omega) hy)
    have HCK := Lib.hid hck
    clear hrow htr hft hy hck
    go_enter Tryz.func8, Tryz.ntmps8
    go_wp2_with fail
    refine HGR.out.mono ?_
    rintro e w2 ⟨⟨b, rfl, hbl⟩, hb2⟩
    have HB2 := Lib.hid hb2
    have HBL := Lib.hid hbl
    clear hb2 hbl
    cases b with
    | true =>
      go_wp2_with fail
      refine (HFX.out _).mono ?_
      rintro e w3 ⟨rfl, hb3⟩
      have HB3 := Lib.hid (HB2.out.trans (hb3.mono HB2.out.size))
      clear hb3
      go_wp2_with fail
      go_ret
      exact ⟨rfl, HB3.out⟩
    | false =>
      have hl15 := HBL.out rfl
      have HW2 := Lib.hid (HWB.out w2 HB2.out hl15)
      go_wp2_with fail
      refine HW2.out.mono ?_
      rintro e w3 ⟨TA, tc, L, rfl, hrb, hblk, hb3⟩
      have hxb := blkX_bytes hblk
      have hxl := blkX_length (l0.map (·.p)) L
      obtain ⟨q1, q2, q3⟩ := blk_right HCK.out hblk
      have hpl : ∀ l, PartsS (blkX (l0.map (·.p)) L) 0 l → l.length ≤ 100000 := fun l h => by
        have := blkX_parts HCK.out hblk h
        omega
      have HRD := Lib.hid (fun g (h : ofG (blkX (l0.map (·.p)) L) g) => blkX_read HCK.out hblk h)
      have hcl : (cutsC (l0.map (·.p)) l1 a2).length = L.length := by
        have h3 := congrArg List.length hblk.1
        rw [List.length_map, List.length_map] at h3
        omega
      have HB3 := Lib.hid (HB2.out.trans (hb3.mono HB2.out.size))
      have hwf := HWF.out w3 HB3.out hl15
      rw [hcl] at hwf
      have HF3 := Lib.hid hwf
      have HOF := Lib.hid (fun (W : World) (hW : Below w3.heap.size w3 W) => readOf_most TA tc (blkX (l0.map (·.p)) L) hxb (by omega) hpl W ((hrb.below hW).more hW.size))
      have HTF := Lib.hid (fun (W : World) (hW : Below w3.heap.size w3 W) => readTrace_most TA tc (blkX (l0.map (·.p)) L) hxb (by omega) hpl W ((hrb.below hW).more hW.size))
      have hXl : (blkX (l0.map (·.p)) L).length ≤ 10000000 := by omega
      obtain ⟨Lc, hLc⟩ : ∃ Lc, L.length = Lc := ⟨_, rfl⟩
      have hLc2 : Lc ≤ 1500 := by omega
      rw [hLc] at HF3 HRD
      generalize blkX (l0.map (·.p)) L = X at HOF HTF HRD hXl
      clear hrb hblk hxb hxl q1 q2 q3 hpl hcl hwf hb3 hLc
      go_wp2_with fail
      refine HF3.out.mono ?_
      rintro e w4 ⟨FA, fc, rfl, hb4⟩
      have z4 := hb4.size
      have HB4 := Lib.hid (HB3.out.trans (hb4.mono HB3.out.size))
      have HO4 := Lib.hid (HOF.out w4 hb4)
      have HB34 := Lib.hid hb4
      clear hb4
      go_wp2_with fail
      refine HO4.out.mono ?_
      rintro e w5 ⟨g, hof, SA, Sc, es, PA, Pc, qs, RA, Rc, rfl, hg5, hb5⟩
      obtain ⟨B, hB⟩ : ∃ B, w5.heap.size = B := ⟨_, rfl⟩
      obtain ⟨u, hu⟩ : ∃ u, w5.alloc (.cells #[.slice SA es.length Sc, .slice PA qs.length Pc, .int .i64 g.sk, .int .i64 g.fr, .slice RA g.rej.length Rc] 64) = u := ⟨_, rfl⟩
      have su : u.heap.size = B + 1 := by rw [← hu, World.size_alloc, hB]
      have bu : Below w5.heap.size w5 u := by rw [← hu]; exact (Below.refl _ _).alloc (Nat.le_refl _) _
      have ku : Held u B 64 #[.slice SA es.length Sc, .slice PA qs.length Pc, .int .i64 g.sk, .int .i64 g.fr, .slice RA g.rej.length Rc] := by rw [← hu, ← hB]; exact heap_alloc_new w5 _
      have HKU := Lib.hid ku
      have HGU := Lib.hid (hg5.below bu).row
      have HBU := Lib.hid (HB4.out.trans ((hb5.trans (bu.mono hb5.size)).mono HB4.out.size))
      have HB3U := Lib.hid (HB34.out.trans ((hb5.trans (bu.mono hb5.size)).mono HB34.out.size))
      have HGE := Lib.hid (HRD.out g hof)
      have HT5 := Lib.hid (HTF.out u HB3U.out)
      have HOG := Lib.hid hof
      clear hg5 bu ku hb5 hof
      go_wp2_with fail
      refine HT5.out.mono ?_
      rintro e w6 ⟨g2, SA2, Sc2, es2, PA2, Pc2, ps2, hof2, rfl, hpr, htr2, hz, -, hb6⟩
      have hg2 := HRD.out g2 hof2
      have hT0 : trcE g2 = 0 := by rw [hg2]; rfl
      obtain ⟨he2, hp2⟩ := hz hT0
      rw [hT0]
      have z6 := hb6.size
      have HB6 := Lib.hid (HBU.out.trans (hb6.mono HBU.out.size))
      have HK6 := Lib.hid (HKU.out.below hb6 (by omega))
      have HG6 := Lib.hid ((HGU.out.below hb6).more z6)
      have HS6 := Lib.hid (rsigsame_any SA2 Sc2 es2 a0 cap0 l0 w6 hpr ((HROW.out.below HB6.out).more HB6.out.size))
      rw [he2, show g2.sig = l0.map (·.p) by rw [hg2], decide_eq_true rfl] at HS6
      have HTT := Lib.hid htr2
      have HPE := Lib.hid (show ps2.map (·.p) = l1.map (·.p) by rw [hp2, hg2])
      have hBlt : B < w6.heap.size := HK6.out.lt
      clear hof2 hpr htr2 hz hb6 hg2 hT0 he2 hp2
      go_wp2_with fail
      refine HS6.out.mono ?_
      rintro e w7 ⟨rfl, hb7⟩
      have z7 := hb7.size
      have HB7 := Lib.hid (HB6.out.trans (hb7.mono HB6.out.size))
      have HP7 := Lib.hid (rtsame_any PA2 Pc2 ps2 a1 cap1 l1 w7 ((HTT.out.below hb7).more z7) ((HTR.out.below HB7.out).more HB7.out.size))
      rw [HPE.out, decide_eq_true rfl] at HP7
      have HK7 := Lib.hid (HK6.out.below hb7 hBlt)
      have HG7 := Lib.hid ((HG6.out.below hb7).more z7)
      clear hb7
      go_wp2_with fail
      refine HP7.out.mono ?_
      rintro e w8 ⟨rfl, hb8⟩
      have z8 := hb8.size
      have HB8 := Lib.hid (HB7.out.trans (hb8.mono HB7.out.size))
      have HK8 := Lib.hid (HK7.out.below hb8 (by omega))
      have HG8 := Lib.hid ((HG7.out.below hb8).more z8)
      have HF8 := Lib.hid (HFX.out w8)
      clear hb8
      go_wp2_with fail
      refine HF8.out.mono ?_
      rintro e w9 ⟨rfl, hb9⟩
      have z9 := hb9.size
      have HB9 := Lib.hid (HB8.out.trans (hb9.mono HB8.out.size))
      have k9 := HK8.out.below hb9 (by omega)
      have x0 := k9.cell 0
      have x1 := k9.cell 1
      have x2 := k9.cell 2
      have x3 := k9.cell 3
      have x4 := k9.cell 4
      simp at x0 x1 x2 x3 x4
      have hga : GAt w9 w9.heap.size ⟨l0.map (·.p), true, l1.map (·.p), 0, 1 + (Lc : Int), []⟩ a0 cap0 l0 a1 cap1 l1 none 0 := ⟨(HROW.out.below HB9.out).more HB9.out.size, rfl, (HTR.out.below HB9.out).more HB9.out.size, rfl, ERow.nil _ _⟩
      have hsm := rgsame_any g SA Sc es PA Pc qs RA Rc ⟨l0.map (·.p), true, l1.map (·.p), 0, 1 + (Lc : Int), []⟩ a0 cap0 l0 a1 cap1 l1 none 0 w9 ((HG8.out.below hb9).more z9) hga
      rw [show sameG g ⟨l0.map (·.p), true, l1.map (·.p), 0, 1 + (Lc : Int), []⟩ = true by rw [HGE.out]; unfold sameG; exact decide_eq_true ⟨rfl, rfl, rfl, rfl, rfl⟩] at hsm
      have hcc : ((1 + Lc : Nat) : Int) = 1 + (Lc : Int) := by omega
      have HSM : Hid (Calls Tryz.prog 32 #[.agg #[.slice SA es.length Sc, .slice PA qs.length Pc, .int .i64 g.sk, .int .i64 g.fr, .slice RA g.rej.length Rc], .agg #[.slice a0 l0.length cap0, .slice a1 l1.length cap1, .int .i64 0, .int .i64 (1 + (Lc : Int)), .slice none 0 0]] w9 fun e w' => e = .returned (.bool true) ∧ Below w9.heap.size w9 w') := Lib.hid hsm
      clear hb9 k9 hga hsm
      go_wp2_with fail
      refine HSM.out.mono ?_
      rintro e w10 ⟨rfl, hb10⟩
      have HB10 := Lib.hid (HB9.out.trans (hb10.mono HB9.out.size))
      clear hb10
      go_wp2_with fail
      go_ret
      exact ⟨rfl, HB10.out⟩
  · have hne : (whyC (l0.map (·.p)) l1 a2 != 0) = true := bne_iff_ne.2 hy
    have HWB := Lib.hid (fun (W : World) (hW : Below w.heap.size w W) => wbytes_err W a0 cap0 l0 a1 cap1 l1 a2 ((HROW.out.below hW).more hW.size) ((HTR.out.below hW).more hW.size) hft hy)
    obtain ⟨C, hC⟩ : ∃ C, whyC (l0.map (·.p)) l1 a2 = C := ⟨_, rfl⟩
    rw [hC] at hne HWB
    clear hrow htr hft hy hC
    go_enter Tryz.func8, Tryz.ntmps8
    go_wp2_with fail
    refine HGR.out.mono ?_
    rintro e w2 ⟨⟨b, rfl, hbl⟩, hb2⟩
    have HB2 := Lib.hid hb2
    clear hb2 hbl
    cases b with
    | true =>
      go_wp2_with fail
      refine (HFX.out _).mono ?_
      rintro e w3 ⟨rfl, hb3⟩
      have HB3 := Lib.hid (HB2.out.trans (hb3.mono HB2.out.size))
      clear hb3
      go_wp2_with fail
      go_ret
      exact ⟨rfl, HB3.out⟩
    | false =>
      have HW2 := Lib.hid (HWB.out w2 HB2.out)
      go_wp2_with fail
      refine HW2.out.mono ?_
      rintro e w3 ⟨rfl, hb3⟩
      have HB3 := Lib.hid (HB2.out.trans (hb3.mono HB2.out.size))
      clear hb3
      go_wp2_with fail
      refine (HFX.out _).mono ?_
      rintro e w4 ⟨rfl, hb4⟩
      have HB4 := Lib.hid (HB3.out.trans (hb4.mono HB3.out.size))
      clear hb4
      go_wp2_with fail
      go_ret
      exact ⟨rfl, HB4.out⟩
set_option maxRecDepth 100000 in
theorem lifted (os : Os) (started : os.Started) (H : Type) (enc : TypeId × Value → H) :
    ReturnsInHanded {} Tryz.checked os 8 .any (Rows.readBackSpec.pre6 enc Tryz.prog Tryz.f8 Rows.readBackRow.domain false) (Rows.readBackSpec.post enc Tryz.prog Tryz.f8 false true false false) := by
  refine returnsInHanded_of_change_sized (C := Tryz.checked) own started (by kernel_rfl) Tryz.func8
    (ChangeSpec.witness6 (enc := enc) (C := Tryz.checked) false ⟨#[], #[.slice none 0 0, .slice none 0 0, .int .i64 0], []⟩ 8 (by kernel_rfl) (by kernel_rfl) (by kernel_rfl) (by kernel_rfl)) ?_
  intro W base args ds gs before hval0 hW hcnd hsz _
  have hval : ∀ (j : Nat) t v, Tryz.f8.params[j]? = some t → args[j]? = some v → Value.okWide Tryz.prog W .any base t v := hval0
  have hW' := hW
  obtain ⟨p, q, hA0, hV, rfl, hfz, hnd⟩ := hW
  have hA : DataW.TrodAll enc Tryz.prog W 0 (fun _ => true) true Tryz.f8.params.toList args.toList ds p := hA0
  rw [Tryz.params8] at hA hval hsz
  obtain ⟨v0, vs0, d0, ds0, p0, q0, hargs, rfl, rfl, h0, r0⟩ := trodAll_cons hA
  obtain ⟨v1, vs1, d1, ds1, p1, q1, rfl, rfl, rfl, h1, r1⟩ := trodAll_cons r0
  obtain ⟨v2, vs2, d2, ds2, p2, q2, rfl, rfl, rfl, h2, r2⟩ := trodAll_cons r1
  obtain ⟨rfl, rfl, rfl⟩ := trodAll_nil r2
  obtain rfl : args = #[v0, v1, v2] := by cases args; simp_all
  obtain ⟨rfl, rfl⟩ := trodVars_none hV
  obtain ⟨a0, len0, cap0, rfl⟩ := okWide_slice Tryz.underlying22 (hval 0 22 v0 rfl rfl)
  have k0 := h0
  have lt0 : ∀ x ∈ p0, x.block < W.heap.size := by obtain ⟨m, hm⟩ := k0; exact DataW.trod_lt m _ _ _ hm
  obtain ⟨l0, w0⟩ : ∃ ds : List Pd, ds.length = len0 ∧ PredRow W W.heap.size (.slice a0 len0 cap0) ds := by
    obtain ⟨fuel, hf⟩ := h0
    exact preds_of hf
  obtain ⟨a1, len1, cap1, rfl⟩ := okWide_slice Tryz.underlying26 (hval 1 26 v1 rfl rfl)
  have k1 := h1
  have lt1 : ∀ x ∈ p1, x.block < W.heap.size := by obtain ⟨m, hm⟩ := k1; exact DataW.trod_lt m _ _ _ hm
  obtain ⟨l1, w1⟩ : ∃ ds : List Pm, ds.length = len1 ∧ TrRow W W.heap.size (.slice a1 len1 cap1) ds ∧ TrFit ds := by
    obtain ⟨fuel, hf⟩ := h1
    exact points_fit hf (fun n hn => by simpa using List.all_eq_true.1 hsz n (DataW.weights_mem_each (j := 1) rfl rfl n hn))
  obtain ⟨a2, rfl, rfl, rfl, w2⟩ := open_int Tryz.underlying3 (hval 2 3 v2 rfl rfl) h2
  clear hA0 hval0
  refine (walk a0 len0 cap0 l0 a1 len1 cap1 l1 a2 W w0 w1 w2).mono fun e W' ⟨he, bel⟩ => ?_
  subst he
  exact ⟨_, rfl, _, _, _, [], _, [], hW', trodAll_mk1 (shut_bool Tryz.underlying4 _), (trodAll_cons_mk (Below.trod laidOut (by kernel_rfl) (of_decide_eq_true (by kernel_rfl)) k0 bel lt0) (trodAll_cons_mk (Below.trod laidOut (by kernel_rfl) (of_decide_eq_true (by kernel_rfl)) k1 bel lt1) (trodAll_cons_mk (shut_int Tryz.underlying3 w2) (trodAll_mk0)))), rfl, bel.frame _, fun h => by cases h⟩
theorem over : Rows.readBackRow.holds Tryz.pinned (OpenSpec.ofChange Rows.readBackSpec) :=
  OpenClaim.holds_of_wide 8 Tryz.f8 rfl rfl rfl rfl rfl rfl rfl ⟨rfl, rfl, rfl, rfl, rfl⟩ rfl rfl rfl rfl rfl (by kernel_rfl) Tryz.func8 (by kernel_rfl)
    (of_decide_eq_true (by kernel_rfl)) (by unfold Func.isWrapper; first | (rw [if_pos (by decide +kernel)]; kernel_rfl) | (rw [if_neg (by decide +kernel)]; exact ⟨rfl, rfl⟩))
    (fun os started H enc _ => lifted os started H enc)
theorem proved : Rows.ReadBackSaid := over
end Go.Proofs.YtimihhcidbeonaaGreat.readBack
