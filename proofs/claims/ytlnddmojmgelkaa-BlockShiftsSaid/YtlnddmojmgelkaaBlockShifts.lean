/-
  At every signature, every trace and every number the law on payloads of points that are all later by as much returns true, and nothing that lay in memory has changed. No condition.
-/
import Derived.Test.YtlnddmojmgelkaaRows
import Derived.WalkKit
import Derived.ProofKit
import Derived.OpenShut
import Derived.ShutString
import Derived.ChangeOld
import Derived.Below
import Derived.Lib.SmallJoins
import Derived.Deep.LoopGhost
import Derived.Test.YtlnddmojmgelkaaBlockFix
import Derived.Test.YtlnddmojmgelkaaBlockTail
import Derived.Test.YtlnddmojmgelkaaTraceGreat
import Derived.Test.YtlnddmojmgelkaaSigGreat
import Derived.Test.YtlnddmojmgelkaaTraceIn
namespace Go.Proofs.Ytlnddmojmgelkaa.blockShifts
open Go.Proofs.Ytlnddmojmgelkaa
open Go.ChangeShapes Go.WideShapes Go.ChangeAt Go.RowKit
open Go.ChangeMaps (open_string shut_string)
set_option linter.unusedVariables false

theorem own : ownKnob Try.prog.godebug = none := by kernel_rfl
theorem laidOut : laidOutB Try.prog = true := by kernel_rfl

set_option maxRecDepth 100000 in
set_option maxHeartbeats 2000000 in
theorem walk (a0 : Option Addr) (len0 cap0 : Nat) (l0 : List Pd) (a1 : Option Addr) (len1 cap1 : Nat) (l1 : List Pm) (a2 : Int) (w : World) (w0 : l0.length = len0 ∧ PredRow w w.heap.size (.slice a0 len0 cap0) l0) (w1 : l1.length = len1 ∧ TrRow w w.heap.size (.slice a1 len1 cap1) l1 ∧ TrFit l1) (w2 : (Lit.int .u64 a2).wf = true) :
    Calls Try.prog 6 #[.slice a0 len0 cap0, .slice a1 len1 cap1, .int .u64 a2] w fun e w' => e = .returned (.bool true) ∧ Below w.heap.size w w' := by
  obtain ⟨rfl, hrow⟩ := w0
  obtain ⟨rfl, htr, hfitl⟩ := w1
  obtain ⟨-, hc1, hc2⟩ := htr.1.len
  obtain ⟨hd1, hd2⟩ : l0.length ≤ cap0 ∧ cap0 ≤ 9223372036854775807 := by
    obtain ⟨A', c', hv, q1, q2⟩ := hrow.form
    injection hv with _ _ e3
    exact ⟨by omega, by omega⟩
  obtain ⟨hy1, hy2⟩ : 0 ≤ a2 ∧ a2 < 18446744073709551616 := by
    have := bounds_u64 w2
    omega
  have hlong := hfitl.1
  have HROW := Lib.hid hrow
  have HTR := Lib.hid htr
  have HFX := Lib.hid (fun W => fix14_any W)
  have hgr := great_any a0 cap0 l0 w hrow
  clear hrow htr hfitl
  cases hg : greatP (l0.map (·.p)) with
  | true =>
    rw [hg] at hgr
    have HG := Lib.hid hgr
    clear hg hgr
    go_enter Try.func6, Try.ntmps6
    go_wp2_with fail
    refine HG.out.mono ?_
    rintro e w2 ⟨rfl, hb2⟩
    have HB2 := Lib.hid hb2
    clear hb2
    go_wp2_with fail
    refine (HFX.out _).mono ?_
    rintro e w3 ⟨rfl, hb3⟩
    have HB3 := Lib.hid (HB2.out.trans (hb3.mono HB2.out.size))
    clear hb3
    go_wp2_with fail
    go_ret
    exact ⟨rfl, HB3.out⟩
  | false =>
    rw [hg] at hgr
    have HG := Lib.hid hgr
    clear hg hgr
    go_enter Try.func6, Try.ntmps6
    go_wp2_with fail
    refine HG.out.mono ?_
    rintro e w2 ⟨rfl, hb2⟩
    have HB2 := Lib.hid hb2
    clear hb2
    have HGT := Lib.hid (tgreat_any a1 cap1 l1 2000 w2 ((HTR.out.below HB2.out).more HB2.out.size))
    go_wp2_with fail
    refine HGT.out.mono ?_
    rintro e w3 ⟨⟨g, rfl⟩, hb3⟩
    have HB3 := Lib.hid (HB2.out.trans (hb3.mono HB2.out.size))
    clear hb3
    cases g with
    | true =>
      go_wp2_with fail
      refine (HFX.out _).mono ?_
      rintro e w4 ⟨rfl, hb4⟩
      have HB4 := Lib.hid (HB3.out.trans (hb4.mono HB3.out.size))
      clear hb4
      go_wp2_with fail
      go_ret
      exact ⟨rfl, HB4.out⟩
    | false =>
      by_cases hz : l1.length = 0
      · have e0 : ((l1.length : Int) == 0) = true := beq_iff_eq.2 (by omega)
        go_wp2_with fail
        refine (HFX.out _).mono ?_
        rintro e w4 ⟨rfl, hb4⟩
        have HB4 := Lib.hid (HB3.out.trans (hb4.mono HB3.out.size))
        clear hb4
        go_wp2_with fail
        go_ret
        exact ⟨rfl, HB4.out⟩
      · obtain ⟨m, hm⟩ : ∃ m, l1.length = m + 1 := ⟨l1.length - 1, by omega⟩
        obtain ⟨p, hp⟩ : ∃ p, l1[m]? = some p := ⟨_, List.getElem?_eq_getElem (by omega)⟩
        obtain ⟨b, o, rfl, hb, x0, -, -, -, -⟩ := (HTR.out.below HB3.out).at hp
        have e0 : ((l1.length : Int) == 0) = false := beq_eq_false_iff_ne.2 (by omega)
        have e2 : IntKind.i64.wrap ((l1.length : Int) - 1) = (m : Int) := by rw [IntWalk.i64_in _ (by omega)]; omega
        have i1 : (0 : Int) ≤ (m : Int) := by omega
        have i2 : (m : Int) < (l1.length : Int) := by omega
        have i3 : ¬ (m : Int) < 0 := by omega
        have i4 : ¬ (l1.length : Int) ≤ (m : Int) := by omega
        have i5 : m < l1.length := by omega
        have HM := Lib.hid hm
        clear hm
        by_cases ht : 9223372036854775808 < p.tm
        · have j1 : ¬ p.tm ≤ 9223372036854775808 := by omega
          go_wp2_with fail
          all_goals
            refine (HFX.out _).mono ?_
            rintro e w4 ⟨rfl, hb4⟩
            have HB4 := Lib.hid (HB3.out.trans (hb4.mono HB3.out.size))
            clear hb4
            go_wp2_with fail
            go_ret
            exact ⟨rfl, HB4.out⟩
        · have j1 : p.tm ≤ 9223372036854775808 := by omega
          by_cases hbig : 4611686018427387904 < a2
          · have j2 : ¬ a2 ≤ 4611686018427387904 := by omega
            go_wp2_with fail
            refine (HFX.out _).mono ?_
            rintro e w4 ⟨rfl, hb4⟩
            have HB4 := Lib.hid (HB3.out.trans (hb4.mono HB3.out.size))
            clear hb4
            go_wp2_with fail
            go_ret
            exact ⟨rfl, HB4.out⟩
          · have j2 : a2 ≤ 4611686018427387904 := by omega
            obtain ⟨N, hN⟩ : ∃ N, w.heap.size = N := ⟨_, rfl⟩
            have HN := Lib.hid hN
            rw [hN] at HB3 HTR HROW HB2
            have hlast := Lib.hid (show ∀ q, l1[l1.length - 1]? = some q → q.tm ≤ 9223372036854775808 from fun q hq => by
              rw [HM.out, Nat.add_sub_cancel, hp] at hq
              cases hq
              exact j1)
            obtain ⟨iP, hiP, hpz, hps, hpb⟩ := info_parts Try.infoPoint
            go_wp2_with fail
            clear x0
            have HF32 := Lib.hid hlong
            go_loopg [7, 42] l1.length (fun gk v0 i wr => ∃ (k : Nat) (A : Option Addr) (c : Nat), k ≤ l1.length ∧ v0 = .slice A k c ∧ i = .int .i64 k ∧ Hid (l1.length - k = gk) ∧ Hid (wr.ownsRow N 39 2 (.slice A k c) k (flatN ((l1.take k).map (laterP a2)))) ∧ Hid (Below N w wr))
            case atStart => exact ⟨0, none, 0, Nat.zero_le _, rfl, rfl, Lib.hid rfl, Lib.hid (World.ownsRow_nil _ _ _ _), HB3⟩
            case round =>
              obtain ⟨k, A, c, hk, rfl, rfl, HGK, HO, HB⟩ := hrel
              by_cases hlt : k < l1.length
              · obtain ⟨d, hd⟩ : ∃ d, l1[k]? = some d := ⟨_, List.getElem?_eq_getElem hlt⟩
                have hz5 := HB.out.size
                obtain ⟨_, _, e9, _, u0, u1, hokd, hl1, hl2⟩ := (HTR.out.below HB.out).at hd
                injection e9 with e9
                injection e9 with e9a e9b
                subst e9a e9b
                obtain ⟨q5, hq5⟩ : ∃ q5, wr.heap.size = q5 := ⟨_, rfl⟩
                obtain ⟨w5, hw5⟩ : ∃ w5, wr.alloc (.cells #[.int .u64 d.tm, .slice d.A d.evs.length d.c] 39) = w5 := ⟨_, rfl⟩
                have b5 : Below wr.heap.size wr w5 := by rw [← hw5]; exact (Below.refl _ _).alloc (Nat.le_refl _) _
                have h5 : Held w5 q5 39 #[.int .u64 d.tm, .slice d.A d.evs.length d.c] := by rw [← hw5, ← hq5]; exact heap_alloc_new wr _
                have y0 := h5.cell 0
                have y1 := h5.cell 1
                have yf := h5.frozen 0
                simp at y0 y1
                have hwrap : IntKind.u64.wrap (d.tm + a2) = (d.tm + a2) % 18446744073709551616 := IntKind.wrap_u64 _
                obtain ⟨T, hT⟩ : ∃ T, (d.tm + a2) % 18446744073709551616 = T := ⟨_, rfl⟩
                have hlp : flatN [laterP a2 d] = [.int .u64 T, .slice d.A d.evs.length d.c] := by rw [← hT]; rfl
                have htk : (l1.take (k + 1)).map (laterP a2) = (l1.take k).map (laterP a2) ++ [laterP a2 d] := by rw [take_one hd]; simp
                rw [hT] at hwrap
                have s5 : w5.heap.size = q5 + 1 := by rw [← hw5, World.size_alloc, hq5]
                obtain ⟨w6, hw6⟩ : ∃ w6, (w5.setCell ⟨q5, 0, none⟩ (.int .u64 T)).alloc (.cells #[.int .u64 T, .slice d.A d.evs.length d.c] 39) = w6 := ⟨_, rfl⟩
                have s6 : w6.heap.size = q5 + 2 := by rw [← hw6, World.size_alloc, World.size_setCell, s5]
                have h6 : Held w6 (q5 + 1) 39 #[.int .u64 T, .slice d.A d.evs.length d.c] := by
                  have := heap_alloc_new (w5.setCell ⟨q5, 0, none⟩ (.int .u64 T)) (.cells #[.int .u64 T, .slice d.A d.evs.length d.c] 39)
                  rw [hw6, World.size_setCell, s5] at this
                  exact this
                have b6 : Below wr.heap.size wr w6 := by rw [← hw6]; exact (b5.setCell (show wr.heap.size ≤ q5 by omega) _).alloc (by rw [World.size_setCell]; omega) _
                have HO6 := Lib.hid (own_below HO.out b6)
                have HB6 := Lib.hid (HB.out.trans (b6.mono (show N ≤ wr.heap.size by omega)))
                have HE6 := Lib.hid (show ERow w6 w6.heap.size (.slice (some ⟨q5 + 1, 0, none⟩) 1 1) 1 (flatN [laterP a2 d]) by rw [hlp]; exact ERow.held (t := 39) h6 (by omega) (by unfold maxLen; omega))
                have HTK := Lib.hid (show flatN ((l1.take k).map (laterP a2)) ++ flatN [laterP a2 d] = flatN ((l1.take (k + 1)).map (laterP a2)) by rw [htk, flatN_append])
                have hn5 : N ≤ q5 := by omega
                clear b5 h5 b6 h6 hlp htk hokd hd hT
                go_wp2_with (at_builtin; refine wpList_append_erow _ rfl _ _ 23 39 rfl N iP _ 2 32 Try.underlying23 hiP hpz hps hpb rfl (by decide) (.slice A k c) k (flatN ((l1.take k).map (laterP a2))) (by rfl) HO6.out w6.heap.size (.slice (some ⟨q5 + 1, 0, none⟩) 1 1) 1 (flatN [laterP a2 d]) (by rfl) HE6.out (flatN_length _) (oneN _) (by unfold maxLen; omega) (by omega) (by omega) (k + 1) rfl (flatN ((l1.take (k + 1)).map (laterP a2))) HTK.out ?_; intro A7 c7 w7 hown7 hg7 hat7)
                have HO7 := Lib.hid hown7
                have HB7 := Lib.hid (HB6.out.grown hg7 (by omega) (fun i e => (World.ownsRow.lt HO.out i e).1))
                clear hown7 hg7 hat7
                go_roundg (l1.length - (k + 1))
                case measure => have := HGK.out; omega
                case rel => exact ⟨k + 1, A7, c7, by omega, rfl, by go_num, Lib.hid rfl, HO7, HB7⟩
              · obtain rfl : k = l1.length := by omega
                have ho := HO.out
                rw [List.take_length] at ho
                have hz5 : N ≤ wr.heap.size := by have := HB.out.size; omega
                have htr2 : TrRow wr wr.heap.size (.slice A l1.length c) (l1.map (laterP a2)) := by
                  refine ⟨by rw [List.length_map]; exact ERow.of_own ho, fun d hd => ?_⟩
                  obtain ⟨d0, hd0, rfl⟩ := List.mem_map.1 hd
                  refine ⟨(((HTR.out.below HB.out).2 d0 hd0).1).more hz5, ?_⟩
                  show 0 ≤ (d0.tm + a2) % 18446744073709551616 ∧ (d0.tm + a2) % 18446744073709551616 < 18446744073709551616
                  omega
                have htl := htr2.1.len
                obtain ⟨htl0, htl1, htl2⟩ := htl
                have hX := blput_any a0 cap0 l0 (some ⟨b, o, none⟩) cap1 l1 wr ((HROW.out.below HB.out).more hz5) ((HTR.out.below HB.out).more hz5)
                have hY := fun W (hb : Below wr.heap.size wr W) => blput_any a0 cap0 l0 A c (l1.map (laterP a2)) W (((HROW.out.below HB.out).below (hb.mono hz5)).more (by have := hb.size; omega)) (by rw [List.length_map]; exact (htr2.below hb).more hb.size)
                rw [List.length_map] at hY htl1
                have hEQ : (putB (l0.map (·.p)) l1).2 = 0 → (putB (l0.map (·.p)) (l1.map (laterP a2))).2 = 0 → tailI (putB (l0.map (·.p)) l1).1 = tailI (putB (l0.map (·.p)) (l1.map (laterP a2))).1 := fun h1 h2 => by
                  obtain ⟨c1, _, e1⟩ := putB_ok h1
                  obtain ⟨_, _, e2⟩ := putB_ok h2
                  rw [e1, e2]
                  dsimp only
                  rw [tail_pay, tail_pay, headB_later ⟨hy1, j2⟩ (fun p hp => (HTR.out.2 p hp).2) (HTR.out.bok c1).ord hlast.out]
                have hLX : (putB (l0.map (·.p)) l1).2 = 0 → (putB (l0.map (·.p)) l1).1.length ≤ 1000000000 := fun h1 => by
                  obtain ⟨_, l1', e1⟩ := putB_ok h1
                  rw [e1]
                  exact Nat.le_trans l1' (by decide)
                have hLY : (putB (l0.map (·.p)) (l1.map (laterP a2))).2 = 0 → (putB (l0.map (·.p)) (l1.map (laterP a2))).1.length ≤ 1000000000 := fun h1 => by
                  obtain ⟨_, l1', e1⟩ := putB_ok h1
                  rw [e1]
                  exact Nat.le_trans l1' (by decide)
                generalize putB (l0.map (·.p)) l1 = X at hX hEQ hLX
                generalize putB (l0.map (·.p)) (l1.map (laterP a2)) = Y at hY hEQ hLY
                obtain ⟨X1, X2⟩ := X
                obtain ⟨Y1, Y2⟩ := Y
                unfold BGot at hX hY
                dsimp only at hX hY hEQ hLX hLY
                have HX := Lib.hid hX
                have HY := Lib.hid hY
                have HEQ := Lib.hid hEQ
                have HLX := Lib.hid hLX
                have HLY := Lib.hid hLY
                clear hX hY hEQ hLX hLY htr2 ho htl0
                go_wp2_with fail
                refine HX.out.mono ?_
                rintro e w7 ⟨A7, c7, rfl, hown7, hb7⟩
                have HR7 := Lib.hid (Row.of_own hown7)
                have HB7 := Lib.hid hb7
                clear hown7 hb7 HX
                go_wp2_with fail
                refine (HY.out _ HB7.out).mono ?_
                rintro e w8 ⟨A8, c8, rfl, hown8, hb8⟩
                have hz7 := HB7.out.size
                have HR8 := Lib.hid (Row.of_own hown8)
                have HX8 := Lib.hid ((HR7.out.below hb8).more hb8.size)
                have hz8 : N ≤ w8.heap.size := by have := hb8.size; omega
                have HB8 := Lib.hid (HB.out.trans ((HB7.out.trans (hb8.mono hz7)).mono hz5))
                clear hown8 hb8 HY
                by_cases hx : X2 = 0
                · by_cases hy : Y2 = 0
                  · have HTE := Lib.hid (HEQ.out hx hy)
                    have hlx := HLX.out hx
                    have hly := HLY.out hy
                    subst hx hy
                    go_wp2_with fail
                    refine (HFX.out _).mono ?_
                    rintro e w9 ⟨rfl, hb9⟩
                    have HB9 := Lib.hid (HB8.out.trans (hb9.mono hz8))
                    have HT1 := Lib.hid (tail_any A7 c7 X1 w9 ((HX8.out.below hb9).more hb9.size) hlx)
                    have HT2 := Lib.hid (tail_any A8 c8 Y1 w9 ((HR8.out.below hb9).more hb9.size) hly)
                    rw [HTE.out] at HT1
                    generalize tailI Y1 = Z at HT1 HT2
                    clear hb9
                    go_wp2_with fail
                    refine HT1.out.mono ?_
                    rintro e w10 ⟨rfl, rfl⟩
                    go_wp2_with fail
                    refine HT2.out.mono ?_
                    rintro e w11 ⟨rfl, rfl⟩
                    go_wp2_with fail
                    go_ret
                    exact ⟨rfl, by rw [HN.out]; exact HB9.out⟩
                  · have hne : (Y2 != 0) = true := bne_iff_ne.2 hy
                    subst hx
                    go_wp2_with fail
                    refine (HFX.out _).mono ?_
                    rintro e w9 ⟨rfl, hb9⟩
                    have HB9 := Lib.hid (HB8.out.trans (hb9.mono hz8))
                    clear hb9
                    go_wp2_with fail
                    go_ret
                    exact ⟨rfl, by rw [HN.out]; exact HB9.out⟩
                · have hne : (X2 != 0) = true := bne_iff_ne.2 hx
                  go_wp2_with fail
                  refine (HFX.out _).mono ?_
                  rintro e w9 ⟨rfl, hb9⟩
                  have HB9 := Lib.hid (HB8.out.trans (hb9.mono hz8))
                  clear hb9
                  go_wp2_with fail
                  go_ret
                  exact ⟨rfl, by rw [HN.out]; exact HB9.out⟩

set_option maxRecDepth 100000 in
theorem lifted (os : Os) (started : os.Started) (H : Type) (enc : TypeId × Value → H) :
    ReturnsInHanded {} Try.checked os 6 .any (Rows.blockShiftsSpec.pre6 enc Try.prog Try.f6 Rows.blockShiftsRow.domain false) (Rows.blockShiftsSpec.post enc Try.prog Try.f6 false true false false) := by
  refine returnsInHanded_of_change_sized (C := Try.checked) own started (by kernel_rfl) Try.func6
    (ChangeSpec.witness6 (enc := enc) (C := Try.checked) false ⟨#[], #[.slice none 0 0, .slice none 0 0, .int .u64 0], []⟩ 8 (by kernel_rfl) (by kernel_rfl) (by kernel_rfl) (by kernel_rfl)) ?_
  intro W base args ds gs before hval0 hW hcnd hsz _
  have hval : ∀ (j : Nat) t v, Try.f6.params[j]? = some t → args[j]? = some v → Value.okWide Try.prog W .any base t v := hval0
  have hW' := hW
  obtain ⟨p, q, hA0, hV, rfl, hfz, hnd⟩ := hW
  have hA : DataW.TrodAll enc Try.prog W 0 (fun _ => true) true Try.f6.params.toList args.toList ds p := hA0
  rw [Try.params6] at hA hval hsz
  obtain ⟨v0, vs0, d0, ds0, p0, q0, hargs, rfl, rfl, h0, r0⟩ := trodAll_cons hA
  obtain ⟨v1, vs1, d1, ds1, p1, q1, rfl, rfl, rfl, h1, r1⟩ := trodAll_cons r0
  obtain ⟨v2, vs2, d2, ds2, p2, q2, rfl, rfl, rfl, h2, r2⟩ := trodAll_cons r1
  obtain ⟨rfl, rfl, rfl⟩ := trodAll_nil r2
  obtain rfl : args = #[v0, v1, v2] := by cases args; simp_all
  obtain ⟨rfl, rfl⟩ := trodVars_none hV
  obtain ⟨a0, len0, cap0, rfl⟩ := okWide_slice Try.underlying22 (hval 0 22 v0 rfl rfl)
  have k0 := h0
  have lt0 : ∀ x ∈ p0, x.block < W.heap.size := by obtain ⟨m, hm⟩ := k0; exact DataW.trod_lt m _ _ _ hm
  obtain ⟨l0, w0⟩ : ∃ ds : List Pd, ds.length = len0 ∧ PredRow W W.heap.size (.slice a0 len0 cap0) ds := by
    obtain ⟨fuel, hf⟩ := h0
    exact preds_of hf
  obtain ⟨a1, len1, cap1, rfl⟩ := okWide_slice Try.underlying23 (hval 1 23 v1 rfl rfl)
  have k1 := h1
  have lt1 : ∀ x ∈ p1, x.block < W.heap.size := by obtain ⟨m, hm⟩ := k1; exact DataW.trod_lt m _ _ _ hm
  obtain ⟨l1, w1⟩ : ∃ ds : List Pm, ds.length = len1 ∧ TrRow W W.heap.size (.slice a1 len1 cap1) ds ∧ TrFit ds := by
    obtain ⟨fuel, hf⟩ := h1
    exact points_fit hf (fun n hn => by simpa using List.all_eq_true.1 hsz n (DataW.weights_mem_each (j := 1) rfl rfl n hn))
  obtain ⟨a2, rfl, rfl, rfl, w2⟩ := open_int Try.underlying36 (hval 2 36 v2 rfl rfl) h2
  clear hA0 hval0
  refine (walk a0 len0 cap0 l0 a1 len1 cap1 l1 a2 W w0 w1 w2).mono fun e W' ⟨he, bel⟩ => ?_
  subst he
  exact ⟨_, rfl, _, _, _, [], _, [], hW', trodAll_mk1 (shut_bool Try.underlying4 _), (trodAll_cons_mk (Below.trod laidOut (by kernel_rfl) (of_decide_eq_true (by kernel_rfl)) k0 bel lt0) (trodAll_cons_mk (Below.trod laidOut (by kernel_rfl) (of_decide_eq_true (by kernel_rfl)) k1 bel lt1) (trodAll_cons_mk (shut_int Try.underlying36 w2) (trodAll_mk0)))), rfl, bel.frame _, fun h => by cases h⟩

theorem over : Rows.blockShiftsRow.holds Try.pinned (OpenSpec.ofChange Rows.blockShiftsSpec) :=
  OpenClaim.holds_of_wide 6 Try.f6 rfl rfl rfl rfl rfl rfl rfl ⟨rfl, rfl, rfl, rfl, rfl⟩ rfl rfl rfl rfl rfl (by kernel_rfl) Try.func6 (by kernel_rfl)
    (of_decide_eq_true (by kernel_rfl)) (by unfold Func.isWrapper; first | (rw [if_pos (by decide +kernel)]; kernel_rfl) | (rw [if_neg (by decide +kernel)]; exact ⟨rfl, rfl⟩))
    (fun os started H enc _ => lifted os started H enc)

theorem proved : Rows.BlockShiftsSaid := over
#print axioms proved
end Go.Proofs.Ytlnddmojmgelkaa.blockShifts
