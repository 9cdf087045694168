/-
  No block of a trace but the last one could have the first point of the one behind, too: CutNoLess answers true for every signature, trace and number of points, whose memory is of a size that a machine has.
-/
import Derived.Test.YtlmpicfhbpnpbaaRows
import Derived.WalkKit
import Derived.ProofKit
import Derived.OpenShut
import Derived.ShutString
import Derived.ChangeOld
import Derived.Below
import Derived.Lib.SmallJoins
import Derived.Deep.LoopGhost
import Derived.Test.YtlmpicfhbpnpbaaCutBlocks
import Derived.Test.YtlmpicfhbpnpbaaCutFix
import Derived.Test.YtlmpicfhbpnpbaaSigGreat
import Derived.Test.YtlmpicfhbpnpbaaTraceGreat
import Derived.Test.YtlmpicfhbpnpbaaTraceIn
namespace Go.Proofs.Ytlmpicfhbpnpbaa.cutNoLess
open Go.Proofs.Ytlmpicfhbpnpbaa
open Go.ChangeShapes Go.WideShapes Go.ChangeAt Go.RowKit
open Go.ChangeMaps (open_string shut_string)
set_option linter.unusedVariables false

theorem own : ownKnob Try.prog.godebug = none := by kernel_rfl
theorem laidOut : laidOutB Try.prog = true := by kernel_rfl

set_option maxRecDepth 100000 in
set_option maxHeartbeats 2000000 in
theorem walk (a0 : Option Addr) (len0 cap0 : Nat) (l0 : List Pd) (a1 : Option Addr) (len1 cap1 : Nat) (l1 : List Pm) (a2 : Int) (w : World) (w0 : l0.length = len0 ∧ PredRow w w.heap.size (.slice a0 len0 cap0) l0) (w1 : l1.length = len1 ∧ TrRow w w.heap.size (.slice a1 len1 cap1) l1 ∧ TrFit l1) (w2 : (Lit.int .i64 a2).wf = true) :
    Calls Try.prog 5 #[.slice a0 len0 cap0, .slice a1 len1 cap1, .int .i64 a2] w fun e w' => e = .returned (.bool true) ∧ Below w.heap.size w w' := by
  obtain ⟨rfl, hrow⟩ := w0
  obtain ⟨rfl, htr, hfitl⟩ := w1
  obtain ⟨-, hc1, hc2⟩ := htr.1.len
  obtain ⟨hd1, hd2⟩ : l0.length ≤ cap0 ∧ cap0 ≤ 9223372036854775807 := by
    obtain ⟨A', c', hv, q1, q2⟩ := hrow.form
    injection hv with _ _ e3
    exact ⟨by omega, by omega⟩
  have HROW := Lib.hid hrow
  have HTR := Lib.hid htr
  have HFT := Lib.hid hfitl
  have HFX := Lib.hid (fun W => fix16_any W)
  have hgr := great_any a0 cap0 l0 w hrow
  clear hrow htr hfitl
  cases hg : greatP (l0.map (·.p)) with
  | true =>
    rw [hg] at hgr
    have HG := Lib.hid hgr
    clear hg hgr
    go_enter Try.func5, Try.ntmps5
    go_wp2_with fail
    refine HG.out.mono ?_
    rintro e w2 ⟨rfl, hb2⟩
    have HB2 := Lib.hid hb2
    clear hb2
    go_wp2_with fail
    refine (HFX.out _).mono ?_
    rintro e w3 ⟨rfl, hb3⟩
    have HB3 := Lib.hid (HB2.out.trans (hb3.mono HB2.out.size))
    clear hb3
    go_wp2_with fail
    go_ret
    exact ⟨rfl, HB3.out⟩
  | false =>
    rw [hg] at hgr
    have HG := Lib.hid hgr
    clear hg hgr
    go_enter Try.func5, Try.ntmps5
    go_wp2_with fail
    refine HG.out.mono ?_
    rintro e w2 ⟨rfl, hb2⟩
    have HB2 := Lib.hid hb2
    clear hb2
    have HGT := Lib.hid (tgreat_any a1 cap1 l1 1500 w2 ((HTR.out.below HB2.out).more HB2.out.size))
    go_wp2_with fail
    refine HGT.out.mono ?_
    rintro e w3 ⟨⟨g, rfl⟩, hb3⟩
    have HB3 := Lib.hid (HB2.out.trans (hb3.mono HB2.out.size))
    clear hb3
    cases g with
    | true =>
      go_wp2_with fail
      refine (HFX.out _).mono ?_
      rintro e w4 ⟨rfl, hb4⟩
      have HB4 := Lib.hid (HB3.out.trans (hb4.mono HB3.out.size))
      clear hb4
      go_wp2_with fail
      go_ret
      exact ⟨rfl, HB4.out⟩
    | false =>
      have hbl := cblocks_any a0 cap0 l0 a1 cap1 l1 a2 w3 ((HROW.out.below HB3.out).more HB3.out.size) ((HTR.out.below HB3.out).more HB3.out.size) HFT.out
      unfold blocksR at hbl
      by_cases hw : whyC (l0.map (·.p)) l1 a2 = 0
      · rw [if_pos hw] at hbl
        have hgood := (COk.cut _ (cok_of hw HTR.out.fits) rfl).good
        obtain ⟨L, hL⟩ : ∃ L, cutsOf (sizesC (l0.map (·.p)) l1 a2) l1 = L := ⟨_, rfl⟩
        rw [hL] at hbl hgood
        have HGD := Lib.hid hgood
        have HBL := Lib.hid hbl
        clear hL hgood hbl hw
        go_wp2_with fail
        refine HBL.out.mono ?_
        rintro e w4 ⟨A4, c4, bs, rfl, hok, hbs, hb4⟩
        have HGB := Lib.hid (GoodC.same (L' := bs.map (·.ps)) (by rw [← hbs, List.map_map]; rfl) HGD.out)
        have HOK := Lib.hid hok
        have HB4 := Lib.hid (HB3.out.trans (hb4.mono HB3.out.size))
        obtain ⟨N, hN⟩ : ∃ N, w3.heap.size = N := ⟨_, rfl⟩
        rw [hN] at HOK
        have hNw : N ≤ w4.heap.size := by rw [← hN]; exact hb4.size
        have hww : w.heap.size ≤ w4.heap.size := HB4.out.size
        clear hok hbs hb4 HGD HBL hN
        obtain ⟨iP, hiP, hpz, hps, hpb⟩ := info_parts Try.infoPoint
        obtain ⟨n, hn⟩ : ∃ n, bs.length = n := ⟨_, rfl⟩
        rw [hn]
        have HN := Lib.hid hn
        obtain ⟨-, hn1, hn2⟩ := (ERow.of_own HOK.out.1).len
        rw [hn] at hn1
        clear hn
        go_wp2_with fail
        go_loopg [40] n (fun gk i wr => ∃ k : Nat, i = .int .i64 k ∧ k ≤ n ∧ Hid (n - k ≤ gk) ∧ Hid (Below w4.heap.size w4 wr))
        case atStart => exact ⟨0, rfl, Nat.zero_le _, Lib.hid (Nat.sub_le _ _), Lib.hid (Below.refl _ _)⟩
        case round =>
          obtain ⟨k, rfl, hk, HGK, HBR⟩ := hrel
          by_cases hlt : k < n
          · obtain ⟨b, hb⟩ : ∃ b, bs[k]? = some b := ⟨_, List.getElem?_eq_getElem (by rw [HN.out]; exact hlt)⟩
            obtain ⟨⟨g1, g2, g3, g4⟩, gn⟩ := HGB.out k b.ps (by rw [List.getElem?_map, hb]; rfl)
            obtain ⟨q, o, rfl, hqlt, hcell⟩ := (ERow.of_own HOK.out.1).block (by rw [HN.out]; omega)
            have hwr := HBR.out.size
            have x0 : wr.cell? ⟨q, o + k, none⟩ = some b.val := (HBR.out.cell (p := ⟨q, o + k, none⟩) hqlt).trans (hcell k _ (bkVs_at hb))
            have hrow := ((HOK.out.2 b (List.mem_of_getElem? hb)).row.below HBR.out).more hwr
            obtain ⟨-, hbc1, hbc2⟩ := hrow.1.len
            have hput := blput_any a0 cap0 l0 b.A b.c b.ps wr ((HROW.out.below (HB4.out.trans (HBR.out.mono hww))).more (by omega)) hrow
            obtain ⟨P1, hP1⟩ : ∃ P1, (putB (l0.map (·.p)) b.ps).1 = P1 := ⟨_, rfl⟩
            have hpp : putB (l0.map (·.p)) b.ps = (P1, 0) := by rw [← hP1, ← g4]
            rw [hpp] at hput
            have HPUT := Lib.hid hput
            have HTB := Lib.hid hrow
            have HNB := Lib.hid gn
            have HCELL := Lib.hid hcell
            have e1 : ¬ (b.ps.length : Int) < 1 := by omega
            have e2 : ¬ a2 < (b.ps.length : Int) := by omega
            have e3 : ¬ (1024 : Int) < (b.ps.length : Int) := by omega
            unfold Bk.val at x0
            clear g1 g3 g4 gn hput hrow hcell hP1 hpp
            go_wp2_with fail
            refine HPUT.out.mono ?_
            rintro e w5 ⟨A5, c5, rfl, hown5, hb5⟩
            have HB5 := Lib.hid (HBR.out.trans (hb5.mono hwr))
            have z5 := hb5.size
            have HTB5 := Lib.hid ((HTB.out.below hb5).more z5)
            clear hown5 hb5 x0
            by_cases hnx : k + 1 < n
            · obtain ⟨b2, hb2⟩ : ∃ b2, bs[k + 1]? = some b2 := ⟨_, List.getElem?_eq_getElem (by rw [HN.out]; exact hnx)⟩
              obtain ⟨d, hd, hroom⟩ := HNB.out b2.ps (by rw [List.getElem?_map, hb2]; rfl)
              have hl2 : 1 ≤ b2.ps.length := (List.getElem?_eq_some_iff.1 hd).1
              have x1 : w5.cell? ⟨q, o + (k + 1), none⟩ = some (.slice b2.A b2.ps.length b2.c) := (HB5.out.cell (p := ⟨q, o + (k + 1), none⟩) hqlt).trans (HCELL.out (k + 1) _ (bkVs_at hb2))
              have hqlt5 : q < w5.heap.size := by omega
              have HX := Lib.hid (fun (W : World) (h : Below w5.heap.size w5 W) => (h.cell (p := ⟨q, o + (k + 1), none⟩) hqlt5).trans x1)
              have ht2 := ((HOK.out.2 b2 (List.mem_of_getElem? hb2)).row.below HB5.out).more (show w4.heap.size ≤ w5.heap.size from HB5.out.size)
              obtain ⟨-, hcc1, hcc2⟩ := ht2.1.len
              have htk := ht2.take hl2
              have htk1 : b2.ps.take 1 = [d] := by
                rw [List.take_add_one, hd]
                rfl
              rw [htk1] at htk
              have HT2 := Lib.hid htk
              have e4 : ¬ (b2.ps.length : Int) < 1 := by omega
              have e5 : (k : Int) + 1 < (n : Int) := by omega
              have e6 : 1 ≤ b2.c := by omega
              have HRM := Lib.hid hroom
              clear ht2 htk htk1 hroom hd hb2
              have ba : Below w5.heap.size w5 ((w5.drewN 1).alloc (.cells #[] 39)) := (Below.refl w5.heap.size w5).drew.alloc (Nat.le_refl _) _
              have hln : b.ps.length ≤ 1024 := g2
              have f1 : (0 : Int) ≤ (k : Int) + 1 := by omega
              have f2 : ¬ (k : Int) + 1 < 0 := by omega
              have f3 : ¬ (n : Int) ≤ (k : Int) + 1 := by omega
              have f6 : min (1 : Int) (b2.ps.length : Int) = 1 := by omega
              have f7 : (1 : Int) ≤ (b2.c : Int) := by omega
              have f8 : (1 : Int) ≤ (b2.ps.length : Int) := by omega
              have f4 : ((k : Int) + 1).toNat = k + 1 := by omega
              have f5 : IntKind.i64.wrap ((k : Int) + 1) = (k : Int) + 1 := IntWalk.i64_in _ (by omega)
              go_wp2_with fail
              go_region_held3 (fun W => W.cell? ⟨q, o + (k + 1), none⟩ = some (.slice b2.A b2.ps.length b2.c))
                (first | exact HX.out _ (Below.refl _ _) | exact HX.out _ (Below.refl _ _).drew | exact HX.out _ ((Below.refl w5.heap.size w5).drew.alloc (Nat.le_refl _) _) | exact HX.out _ b6 | exact HX.out _ b7)
                (first
                  | (refine step_append_erow (by rfl) (.tmp 72) (.tmp 73) 23 39 (by rfl) w5.heap.size iP _ 2 32 Try.underlying23 hiP hpz hps hpb rfl (by omega) (.slice (some ⟨w5.heap.size, 0, none⟩) 0 0) 0 [] (by rfl) (own_none (w := w5.drew) (Nat.le_refl _)) w5.heap.size (.slice b.A b.ps.length b.c) b.ps.length (flatN b.ps) (by rfl) (HTB5.out.below ((Below.refl w5.heap.size w5).drew.alloc (Nat.le_refl _) _)).1 (flatN_length _) (oneN _) (by unfold maxLen; omega) (by omega) (by simp) b.ps.length (Nat.zero_add _) (flatN b.ps) rfl ?_; intro A6 c6 w6 hO6 hg6; have b6 : Below w5.heap.size w5 w6 := ((Below.refl w5.heap.size w5).drew.alloc (Nat.le_refl _) _).grown hg6 (by simp) (by intro j e; simp [Value.ownBlock] at e; omega))
                  | (refine step_append_erow (by rfl) (.tmp 74) (.tmp 87) 23 39 (by rfl) w5.heap.size iP _ 2 32 Try.underlying23 hiP hpz hps hpb rfl (by omega) (.slice A6 b.ps.length c6) b.ps.length (flatN b.ps) (by rfl) hO6 w5.heap.size (.slice b2.A 1 b2.c) 1 (flatN [d]) (by rfl) (HT2.out.below b6).1 (flatN_length _) (oneN _) (by unfold maxLen; omega) (by omega) b6.size (b.ps.length + 1) rfl (flatN b.ps ++ flatN [d]) rfl ?_; intro A7 c7 w7 hO7 hg7; have b7 : Below w5.heap.size w5 w7 := b6.grown hg7 b6.size (fun j e => (World.ownsRow.lt hO6 j e).1))
                  | (refine step_min (by rfl) (.const (.int .i64 1)) (.tmp 85) 3 (by rfl) .i64 1 b2.ps.length 1 (by rfl) (by rfl) f6 ?_))
              all_goals (
              have z7 := b7.size
              have hmore : TrRow w7 w7.heap.size (.slice A7 (b.ps ++ [d]).length c7) (b.ps ++ [d]) := by
                refine ⟨?_, fun x hx => ?_⟩
                · rw [flatN_append, List.length_append]
                  exact ERow.of_own hO7
                · rcases List.mem_append.1 hx with hx | hx
                  · exact ((HTB5.out.2 x hx).below b7).more z7
                  · exact ((HT2.out.2 x hx).below b7).more z7
              have hbw := HB4.out.trans ((HB5.out.trans (b7.mono HB5.out.size)).mono hww)
              have hput2 := blput_any a0 cap0 l0 A7 c7 (b.ps ++ [d]) w7 ((HROW.out.below hbw).more hbw.size) hmore
              rw [show (b.ps ++ [d]).length = b.ps.length + 1 by rw [List.length_append]; rfl] at hput2
              have HB7 := Lib.hid (HB5.out.trans (b7.mono HB5.out.size))
              have hrm := HRM.out
              generalize putB (l0.map (·.p)) (b.ps ++ [d]) = P2 at hput2 hrm
              have HPUT2 := Lib.hid hput2
              have hz7 : w4.heap.size ≤ w7.heap.size := HB7.out.size
              clear hmore hbw hput2 hO7 hg7 b7 HRM
              by_cases hroom : (b.ps.length : Int) < min a2 1024
              · have hc6 := hrm (by omega) (by omega)
                go_wp2_with fail
                refine HPUT2.out.mono ?_
                rintro e w8 ⟨A8, c8, rfl, hown8, hb8⟩
                have HB8 := Lib.hid (HB7.out.trans (hb8.mono hz7))
                rw [hc6]
                clear hown8 hb8 hrm hc6
                go_wp2_with fail
                go_roundg (n - (k + 1))
                case measure => have := HGK.out; omega
                case rel => exact ⟨k + 1, by go_num, by omega, Lib.hid (Nat.le_refl _), HB8⟩
              · go_wp2_with fail
                refine HPUT2.out.mono ?_
                rintro e w8 ⟨A8, c8, rfl, hown8, hb8⟩
                have HB8 := Lib.hid (HB7.out.trans (hb8.mono hz7))
                clear hown8 hb8 hrm
                go_wp2_with fail
                go_roundg (n - (k + 1))
                case measure => have := HGK.out; omega
                case rel => exact ⟨k + 1, by go_num, by omega, Lib.hid (Nat.le_refl _), HB8⟩)
            · go_wp2_with fail
              go_roundg (n - (k + 1))
              case measure => have := HGK.out; omega
              case rel => exact ⟨k + 1, by go_num, by omega, Lib.hid (Nat.le_refl _), HB5⟩
          · have hB := HB4.out.trans (HBR.out.mono hww)
            have HBB := Lib.hid hB
            clear hB
            go_wp2_with fail
            refine (HFX.out _).mono ?_
            rintro e w5 ⟨rfl, hb5⟩
            have HB5 := Lib.hid (HBB.out.trans (hb5.mono HBB.out.size))
            clear hb5
            go_wp2_with fail
            go_ret
            exact ⟨rfl, HB5.out⟩
      · rw [if_neg hw] at hbl
        have hne : (whyC (l0.map (·.p)) l1 a2 != 0) = true := bne_iff_ne.2 hw
        generalize whyC (l0.map (·.p)) l1 a2 = C at hbl hne
        have HBL := Lib.hid hbl
        clear hbl hw
        go_wp2_with fail
        refine HBL.out.mono ?_
        rintro e w4 ⟨A4, c4, bs, rfl, hok, hbs, hb4⟩
        have hbs0 : bs = [] := by simpa using hbs
        subst hbs0
        have HB4 := Lib.hid (HB3.out.trans (hb4.mono HB3.out.size))
        clear hok hbs hb4
        go_wp2_with fail
        refine (HFX.out _).mono ?_
        rintro e w5 ⟨rfl, hb5⟩
        have HB5 := Lib.hid (HB4.out.trans (hb5.mono HB4.out.size))
        clear hb5
        go_wp2_with fail
        go_ret
        exact ⟨rfl, HB5.out⟩

set_option maxRecDepth 100000 in
theorem lifted (os : Os) (started : os.Started) (H : Type) (enc : TypeId × Value → H) :
    ReturnsInHanded {} Try.checked os 5 .any (Rows.cutNoLessSpec.pre6 enc Try.prog Try.f5 Rows.cutNoLessRow.domain false) (Rows.cutNoLessSpec.post enc Try.prog Try.f5 false true false false) := by
  refine returnsInHanded_of_change_sized (C := Try.checked) own started (by kernel_rfl) Try.func5
    (ChangeSpec.witness6 (enc := enc) (C := Try.checked) false ⟨#[], #[.slice none 0 0, .slice none 0 0, .int .i64 0], []⟩ 8 (by kernel_rfl) (by kernel_rfl) (by kernel_rfl) (by kernel_rfl)) ?_
  intro W base args ds gs before hval0 hW hcnd hsz _
  have hval : ∀ (j : Nat) t v, Try.f5.params[j]? = some t → args[j]? = some v → Value.okWide Try.prog W .any base t v := hval0
  have hW' := hW
  obtain ⟨p, q, hA0, hV, rfl, hfz, hnd⟩ := hW
  have hA : DataW.TrodAll enc Try.prog W 0 (fun _ => true) true Try.f5.params.toList args.toList ds p := hA0
  rw [Try.params5] at hA hval hsz
  obtain ⟨v0, vs0, d0, ds0, p0, q0, hargs, rfl, rfl, h0, r0⟩ := trodAll_cons hA
  obtain ⟨v1, vs1, d1, ds1, p1, q1, rfl, rfl, rfl, h1, r1⟩ := trodAll_cons r0
  obtain ⟨v2, vs2, d2, ds2, p2, q2, rfl, rfl, rfl, h2, r2⟩ := trodAll_cons r1
  obtain ⟨rfl, rfl, rfl⟩ := trodAll_nil r2
  obtain rfl : args = #[v0, v1, v2] := by cases args; simp_all
  obtain ⟨rfl, rfl⟩ := trodVars_none hV
  obtain ⟨a0, len0, cap0, rfl⟩ := okWide_slice Try.underlying22 (hval 0 22 v0 rfl rfl)
  have k0 := h0
  have lt0 : ∀ x ∈ p0, x.block < W.heap.size := by obtain ⟨m, hm⟩ := k0; exact DataW.trod_lt m _ _ _ hm
  obtain ⟨l0, w0⟩ : ∃ ds : List Pd, ds.length = len0 ∧ PredRow W W.heap.size (.slice a0 len0 cap0) ds := by
    obtain ⟨fuel, hf⟩ := h0
    exact preds_of hf
  obtain ⟨a1, len1, cap1, rfl⟩ := okWide_slice Try.underlying23 (hval 1 23 v1 rfl rfl)
  have k1 := h1
  have lt1 : ∀ x ∈ p1, x.block < W.heap.size := by obtain ⟨m, hm⟩ := k1; exact DataW.trod_lt m _ _ _ hm
  obtain ⟨l1, w1⟩ : ∃ ds : List Pm, ds.length = len1 ∧ TrRow W W.heap.size (.slice a1 len1 cap1) ds ∧ TrFit ds := by
    obtain ⟨fuel, hf⟩ := h1
    exact points_fit hf (fun n hn => by simpa using List.all_eq_true.1 hsz n (DataW.weights_mem_each (j := 1) rfl rfl n hn))
  obtain ⟨a2, rfl, rfl, rfl, w2⟩ := open_int Try.underlying3 (hval 2 3 v2 rfl rfl) h2
  clear hA0 hval0
  refine (walk a0 len0 cap0 l0 a1 len1 cap1 l1 a2 W w0 w1 w2).mono fun e W' ⟨he, bel⟩ => ?_
  subst he
  exact ⟨_, rfl, _, _, _, [], _, [], hW', trodAll_mk1 (shut_bool Try.underlying4 _), (trodAll_cons_mk (Below.trod laidOut (by kernel_rfl) (of_decide_eq_true (by kernel_rfl)) k0 bel lt0) (trodAll_cons_mk (Below.trod laidOut (by kernel_rfl) (of_decide_eq_true (by kernel_rfl)) k1 bel lt1) (trodAll_cons_mk (shut_int Try.underlying3 w2) (trodAll_mk0)))), rfl, bel.frame _, fun h => by cases h⟩

theorem over : Rows.cutNoLessRow.holds Try.pinned (OpenSpec.ofChange Rows.cutNoLessSpec) :=
  OpenClaim.holds_of_wide 5 Try.f5 rfl rfl rfl rfl rfl rfl rfl ⟨rfl, rfl, rfl, rfl, rfl⟩ rfl rfl rfl rfl rfl (by kernel_rfl) Try.func5 (by kernel_rfl)
    (of_decide_eq_true (by kernel_rfl)) (by unfold Func.isWrapper; first | (rw [if_pos (by decide +kernel)]; kernel_rfl) | (rw [if_neg (by decide +kernel)]; exact ⟨rfl, rfl⟩))
    (fun os started H enc _ => lifted os started H enc)

theorem proved : Rows.CutNoLessSaid := over
#print axioms proved
end Go.Proofs.Ytlmpicfhbpnpbaa.cutNoLess
