/-
  ReadOf: what is read of any bytes is the document's; so is their trace, or why there is none (up to 1500 bytes). No conditions.
-/
import Derived.Test.YtimihhcidbeonaaGreatRows
import Derived.WalkKit
import Derived.ProofKit
import Derived.OpenShut
import Derived.ShutString
import Derived.ChangeOld
import Derived.Below
import Derived.Lib.SmallJoins
import Derived.Deep.LoopGhost
import Derived.Test.YtimihhcidbeonaaGreatReadOfZ18
set_option maxRecDepth 100000
set_option maxHeartbeats 16000000
namespace Go.Proofs.YtimihhcidbeonaaGreat.readOf
open Lib (hid)
open Go.Proofs.YtimihhcidbeonaaGreat
open Go.ChangeShapes Go.WideShapes Go.ChangeAt Go.RowKit
open Go.ChangeMaps (open_string shut_string)
set_option linter.unusedVariables false
theorem own : ownKnob Tryz.prog.godebug = none := by kernel_rfl
theorem laidOut : laidOutB Tryz.prog = true := by kernel_rfl
theorem walk (a0 : Option Addr) (len0 cap0 : Nat) (z0 : List Int) (w : World) (w0 : IsRow .u8 w a0 len0 cap0 z0) :
  Calls Tryz.prog 5 #[.slice a0 len0 cap0] w fun e w' => e = .returned (.bool true) ∧ Below w.heap.size w w' := by
 obtain ⟨xs, rfl, hx, hxb⟩ := Row.of_arg w0
 clear w0
 have HX := hid hx
 have HFX := hid (fun W => fix18_any W)
 by_cases h15 : 1500 < xs.length
 ·have h15i : (1500 : Int) < (xs.length : Int) := by omega
  clear hx hxb h15
  go_enter Tryz.func5, Tryz.ntmps5
  go_wp2_with fail
  refine (HFX.out _).mono ?_
  rintro e w1 ⟨rfl, hb1⟩
  have HB1 := hid hb1
  clear hb1
  go_wp2_with fail
  go_ret
  exact ⟨rfl, HB1.out⟩
 ·have h15i : ¬ (1500 : Int) < (xs.length : Int) := by omega
  have HOF := hid (rgof_any xs hxb (by omega) w (fun _ => False) (fun _ _ e => e))
  have HTC := hid (fun (W : World) (h : Below w.heap.size w W) => readTrace_any a0 cap0 xs hxb (by omega) W ((HX.out.below h).more h.size))
  have HOC := hid (fun (W : World) (h : Below w.heap.size w W) => readOf_any a0 cap0 xs hxb (by omega) W ((HX.out.below h).more h.size))
  have HRJ := hid (fun g (h : ofG xs g) => ofG_bound hxb (by omega) h)
  have hcv := HX.out.convert (P := Tryz.prog) 23 5 9 Tryz.underlying23 Tryz.underlying5 Tryz.underlying9
  clear hx hxb h15
  go_enter Tryz.func5, Tryz.ntmps5
  go_wp2_with fail
  refine HOF.out.mono ?_
  rintro e w1 ⟨g, hof, SA, Sc, es, PA, Pc, ps, RA, Rc, rfl, hgi, hb1⟩
  have hga := hgi.here
  obtain ⟨B, hB⟩ : ∃ B, w1.heap.size = B := ⟨_, rfl⟩
  obtain ⟨u, hu⟩ : ∃ u, w1.alloc (.cells #[.slice SA es.length Sc, .slice PA ps.length Pc, .int .i64 g.sk, .int .i64 g.fr, .slice RA g.rej.length Rc, .bool g.isg] 66) = u := ⟨_, rfl⟩
  have su : u.heap.size = B + 1 := by rw [← hu, World.size_alloc, hB]
  have bu : Below w1.heap.size w1 u := by rw [← hu]; exact (Below.refl _ _).alloc (Nat.le_refl _) _
  have ku : Held u B 66 #[.slice SA es.length Sc, .slice PA ps.length Pc, .int .i64 g.sk, .int .i64 g.fr, .slice RA g.rej.length Rc, .bool g.isg] := by rw [← hu, ← hB]; exact heap_alloc_new w1 _
  have HKU := hid ku
  have HGU := hid ((hga.below bu).more bu.size)
  have HBU := hid (hb1.trans (bu.mono hb1.size))
  have HT1 := hid (HTC.out u HBU.out)
  have HOG := hid hof
  have hrl := (HRJ.out g hof).2
  clear hgi hga bu ku hof hb1
  go_wp2_with fail
  refine HT1.out.mono ?_
  rintro e w2 ⟨g', SA2, Sc2, es2, PA2, Pc2, ps2, hof2, rfl, hpr, htr, hz, hnz, hb2⟩
  obtain rfl := ofG_same HOG.out hof2
  have z2 := hb2.size
  have HB2 := hid (HBU.out.trans (hb2.mono HBU.out.size))
  have HK2 := hid (HKU.out.below hb2 (by omega))
  have HG2 := hid (HGU.out.below hb2)
  have HPR := hid hpr
  have HTT := hid htr
  have HZ := hid hz
  have HNZ := hid hnz
  obtain ⟨T, hT⟩ : ∃ T, trcE g = T := ⟨_, rfl⟩
  have HT := hid hT
  rw [hT] at HZ HNZ ⊢
  have HV := hid (fun W (hW : Below w2.heap.size w2 W) => show W.cell? ⟨B, 0, none⟩ = some (.slice SA es.length Sc) ∧ W.cell? ⟨B, 1, none⟩ = some (.slice PA ps.length Pc) ∧ W.cell? ⟨B, 2, none⟩ = some (.int .i64 g.sk) ∧ W.cell? ⟨B, 3, none⟩ = some (.int .i64 g.fr) ∧ W.cell? ⟨B, 4, none⟩ = some (.slice RA g.rej.length Rc) ∧ W.cell? ⟨B, 5, none⟩ = some (.bool g.isg) from by
   have h := HK2.out.below hW HK2.out.lt
   exact ⟨h.cell 0, h.cell 1, h.cell 2, h.cell 3, h.cell 4, h.cell 5⟩)
  have HV5 := hid (fun W (hW : Below w2.heap.size w2 W) => show W.cell? ⟨B, 0, none⟩ = some (.slice SA es.length Sc) ∧ W.cell? ⟨B, 1, none⟩ = some (.slice PA ps.length Pc) ∧ W.cell? ⟨B, 2, none⟩ = some (.int .i64 g.sk) ∧ W.cell? ⟨B, 3, none⟩ = some (.int .i64 g.fr) ∧ W.cell? ⟨B, 4, none⟩ = some (.slice RA g.rej.length Rc) from by
   have h := HV.out W hW
   exact ⟨h.1, h.2.1, h.2.2.1, h.2.2.2.1, h.2.2.2.2.1⟩)
  have HRO := hid (fun (W : World) (h : Below w2.heap.size w2 W) => HOC.out W (HB2.out.trans (h.mono HB2.out.size)))
  have HSG := hid (show sameG g g = true by unfold sameG; exact decide_eq_true ⟨rfl, rfl, rfl, rfl, rfl⟩)
  have hB2 := HK2.out.lt
  clear hof2 hpr htr hz hnz hb2 hT
  go_wp2_with fail
  go_region_held3 (fun W => W.cell? ⟨B, 0, none⟩ = some (.slice SA es.length Sc) ∧ W.cell? ⟨B, 1, none⟩ = some (.slice PA ps.length Pc) ∧ W.cell? ⟨B, 2, none⟩ = some (.int .i64 g.sk) ∧ W.cell? ⟨B, 3, none⟩ = some (.int .i64 g.fr) ∧ W.cell? ⟨B, 4, none⟩ = some (.slice RA g.rej.length Rc))
   (first | exact HV5.out _ (Below.refl _ _) | exact HV5.out _ (Below.refl _ _).drew | exact HV5.out _ b4 | exact HV5.out _ b3)
   (first
    | (go_at_call 33; (with_reducible refine (HRO.out _ (Below.refl _ _).drew).mono ?_); rintro e w3 ⟨g3, hof3, SA3, Sc3, es3, PA3, Pc3, ps3, RA3, Rc3, rfl, hg3, hb3⟩; obtain rfl := ofG_same HOG.out hof3; have b3 : Below w2.heap.size w2 w3 := (Below.refl w2.heap.size w2).drew.trans hb3; have HSM := hid (rgsame_any g SA3 Sc3 es3 PA3 Pc3 ps3 RA3 Rc3 g SA Sc es PA Pc ps RA Rc w3 hg3.row ((HG2.out.below (b3.mono z2)).more (Nat.le_trans z2 b3.size))); rw [HSG.out] at HSM)
    | (go_at_call 32; (with_reducible refine HSM.out.mono ?_); rintro e w4 ⟨rfl, hb4⟩; have b4 : Below w2.heap.size w2 w4 := b3.trans (hb4.mono b3.size)))
  have z4 := b4.size
  obtain ⟨x0, x1, x2, x3, x4, x5⟩ := HV.out w4 b4
  have HB4 := hid (HB2.out.trans (b4.mono HB2.out.size))
  have HG4 := hid (((HG2.out.below (b4.mono z2)).more (Nat.le_trans z2 z4)))
  have HPR4 := hid ((HPR.out.below b4).more z4)
  have HTT4 := hid ((HTT.out.below b4).more z4)
  have HBV := hid b4
  clear b4 hb4 hg3 hb3 b3 hof3
  by_cases hs : 0 < g.sk
  ·have hT5 : T = 5 := by rw [← HT.out]; unfold trcE; rw [if_pos hs]
   subst hT5
   obtain ⟨he, hp⟩ := HNZ.out (by decide)
   subst he hp
   have hs2 : g.sk > 0 := hs
   go_wp2_with fail
   refine (HFX.out _).mono ?_
   rintro e w5 ⟨rfl, hb5⟩
   have HB5 := hid (HB4.out.trans (hb5.mono HB4.out.size))
   clear hb5
   go_wp2_with fail
   go_ret
   exact ⟨rfl, HB5.out⟩
  ·have hs2 : ¬ g.sk > 0 := hs
   by_cases hr : 0 < g.rej.length
   ·obtain ⟨d, hd⟩ : ∃ d, g.rej[0]? = some d := ⟨_, List.getElem?_eq_getElem hr⟩
    have hTd : T = d.2 := by rw [← HT.out]; unfold trcE; rw [if_neg hs, if_pos hr]; simp only [List.getD, hd, Option.getD_some]
    have hdn : d.2 ≠ 0 := ofG_rej HOG.out d (List.mem_of_getElem? hd)
    obtain ⟨he, hp⟩ := HNZ.out (by rw [hTd]; exact hdn)
    subst he hp
    subst hTd
    obtain ⟨b, o, rfl, hbl, hc⟩ := HG4.out.rej.block hr
    have v1 := hc 1 _ (by have := (flatJ_at g.rej 0 d hd).2; simpa using this)
    have hr2 : (g.rej.length : Int) > 0 := by omega
    have hr3 : (0 : Int) < (g.rej.length : Int) := by omega
    have hdb : (d.2 != 0) = true := bne_iff_ne.2 hdn
    have hdd : (d.2 == d.2) = true := beq_self_eq_true _
    clear hd hdn hc
    go_wp2_with fail
    refine (HFX.out _).mono ?_
    rintro e w5 ⟨rfl, hb5⟩
    have HB5 := hid (HB4.out.trans (hb5.mono HB4.out.size))
    clear hb5
    go_wp2_with fail
    go_ret
    exact ⟨rfl, HB5.out⟩
   ·have hr2 : ¬ (g.rej.length : Int) > 0 := by omega
    have hr3 : ¬ (0 : Int) < (g.rej.length : Int) := by omega
    cases hi : g.isg with
    | false =>
     have hT5 : T = 10 := by rw [← HT.out]; unfold trcE; rw [if_neg hs, if_neg hr, if_pos hi]
     subst hT5
     obtain ⟨he, hp⟩ := HNZ.out (by decide)
     subst he hp
     rw [hi] at x5
     clear hi
     go_wp2_with fail
     refine (HFX.out _).mono ?_
     rintro e w5 ⟨rfl, hb5⟩
     have HB5 := hid (HB4.out.trans (hb5.mono HB4.out.size))
     clear hb5
     go_wp2_with fail
     go_ret
     exact ⟨rfl, HB5.out⟩
    | true =>
     have hT5 : T = 0 := by rw [← HT.out]; unfold trcE; rw [if_neg hs, if_neg hr, if_neg (by rw [hi]; decide)]
     subst hT5
     obtain ⟨he, hp⟩ := HZ.out rfl
     rw [hi] at x5
     have HE := hid he
     have HP := hid hp
     clear hi he hp
     go_wp2_with fail
     refine (HFX.out _).mono ?_
     rintro e w5 ⟨rfl, hb5⟩
     have z5 := hb5.size
     have HB5 := hid (HB4.out.trans (hb5.mono HB4.out.size))
     have hga5 := (HG4.out.below hb5).more z5
     have HG5 := hid hga5
     have HSS := hid (rsigsame_any SA2 Sc2 es2 SA Sc es w5 ((HPR4.out.below hb5).more z5) hga5.sig)
     rw [HE.out, hga5.sigp, decide_eq_true rfl] at HSS
     have HTT5 := hid ((HTT4.out.below hb5).more z5)
     clear x0 x1 x2 x3 x4 x5 hga5
     obtain ⟨x0, x1, x2, x3, x4, x5⟩ := HV.out w5 (HBV.out.trans (hb5.mono z4))
     have HBV5 := hid (HBV.out.trans (hb5.mono z4))
     clear hb5
     go_wp2_with fail
     refine HSS.out.mono ?_
     rintro e w6 ⟨rfl, hb6⟩
     have z6 := hb6.size
     have HB6 := hid (HB5.out.trans (hb6.mono HB5.out.size))
     have hga6 := (HG5.out.below hb6).more z6
     have HSP := hid (rtsame_any PA2 Pc2 ps2 PA Pc ps w6 ((HTT5.out.below hb6).more z6) hga6.pts)
     rw [HP.out, hga6.ptsp, decide_eq_true rfl] at HSP
     clear x0 x1 x2 x3 x4 x5 hga6
     obtain ⟨x0, x1, x2, x3, x4, x5⟩ := HV.out w6 (HBV5.out.trans (hb6.mono (Nat.le_trans z4 z5)))
     clear hb6
     go_wp2_with fail
     refine HSP.out.mono ?_
     rintro e w7 ⟨rfl, hb7⟩
     have HB7 := hid (HB6.out.trans (hb7.mono HB6.out.size))
     clear hb7
     go_wp2_with fail
     go_ret
     exact ⟨rfl, HB7.out⟩
theorem lifted (os : Os) (started : os.Started) (H : Type) (enc : TypeId × Value → H) :
  ReturnsInHanded {} Tryz.checked os 5 .any (Rows.readOfSpec.pre6 enc Tryz.prog Tryz.f5 Rows.readOfRow.domain false) (Rows.readOfSpec.post enc Tryz.prog Tryz.f5 false true false false) := by
 refine returnsInHanded_of_change (C := Tryz.checked) own started (by kernel_rfl) Tryz.func5
  (ChangeSpec.witness6 (enc := enc) (C := Tryz.checked) false ⟨#[], #[.slice none 0 0], []⟩ 8 (by kernel_rfl) (by kernel_rfl) (by kernel_rfl) (by kernel_rfl)) ?_
 intro W base args ds gs before hval0 hW hcnd _
 have hval : ∀ (j : Nat) t v, Tryz.f5.params[j]? = some t → args[j]? = some v → Value.okWide Tryz.prog W .any base t v := hval0
 have hW' := hW
 obtain ⟨p, q, hA0, hV, rfl, hfz, hnd⟩ := hW
 have hA : DataW.TrodAll enc Tryz.prog W 0 (fun _ => true) true Tryz.f5.params.toList args.toList ds p := hA0
 rw [Tryz.params5] at hA hval
 obtain ⟨v0, vs0, d0, ds0, p0, q0, hargs, rfl, rfl, h0, r0⟩ := trodAll_cons hA
 obtain ⟨rfl, rfl, rfl⟩ := trodAll_nil r0
 obtain rfl : args = #[v0] := by cases args; simp_all
 obtain ⟨rfl, rfl⟩ := trodVars_none hV
 obtain ⟨a0, len0, cap0, rfl⟩ := okWide_slice Tryz.underlying23 (hval 0 23 v0 rfl rfl)
 have k0 := h0
 have lt0 : ∀ x ∈ p0, x.block < W.heap.size := by obtain ⟨m, hm⟩ := k0; exact DataW.trod_lt m _ _ _ hm
 obtain ⟨z0, w0⟩ : ∃ zs, IsRow .u8 W a0 len0 cap0 zs := by
  obtain ⟨fuel, hf⟩ := h0
  rcases open_ints Tryz.underlying23 Tryz.underlying5 (by kernel_rfl) hf with ⟨hcs, _⟩ | ⟨x, l, c, zs, hcs, _, hl, hm, hz, _, hcell, hwz⟩
  ·simp [Value.cells] at hcs
   obtain ⟨rfl, rfl, rfl⟩ := hcs
   exact ⟨[], .inl ⟨rfl, rfl, rfl, rfl⟩⟩
  ·simp [Value.cells] at hcs
   obtain ⟨rfl, rfl, rfl⟩ := hcs
   exact ⟨zs, .inr ⟨_, rfl, hl, hm, by simpa using hz, hcell, hwz⟩⟩
 clear hA0 hval0
 refine (walk a0 len0 cap0 z0 W w0).mono fun e W' ⟨he, bel⟩ => ?_
 subst he
 exact ⟨_, rfl, _, _, _, [], _, [], hW', trodAll_mk1 (shut_bool Tryz.underlying4 _), (trodAll_cons_mk (Below.trod laidOut (by kernel_rfl) (of_decide_eq_true (by kernel_rfl)) k0 bel lt0) (trodAll_mk0)), rfl, bel.frame _, fun h => by cases h⟩
theorem over : Rows.readOfRow.holds Tryz.pinned (OpenSpec.ofChange Rows.readOfSpec) :=
 OpenClaim.holds_of_wide 5 Tryz.f5 rfl rfl rfl rfl rfl rfl rfl ⟨rfl, rfl, rfl, rfl, rfl⟩ rfl rfl rfl rfl rfl (by kernel_rfl) Tryz.func5 (by kernel_rfl)
  (of_decide_eq_true (by kernel_rfl)) (by unfold Func.isWrapper; first | (rw [if_pos (by decide +kernel)]; kernel_rfl) | (rw [if_neg (by decide +kernel)]; exact ⟨rfl, rfl⟩))
  (fun os started H enc _ => lifted os started H enc)
theorem proved : Rows.ReadOfSaid := over
end Go.Proofs.YtimihhcidbeonaaGreat.readOf
