/-
  At every slice of bytes and every two places the law on where frames begin answers true, and nothing that lay in memory has changed. No condition.
-/
import Derived.Test.YtbbmblodabojeaaRows
import Derived.WalkKit
import Derived.ProofKit
import Derived.OpenShut
import Derived.ShutString
import Derived.ChangeOld
import Derived.Below
import Derived.Test.YtbbmblodabojeaaFindFixed
import Derived.Test.YtbbmblodabojeaaFindRef
import Derived.Test.YtbbmblodabojeaaArg
namespace Go.Proofs.Ytbbmblodabojeaa.findPlaces
open Go.Proofs.Ytbbmblodabojeaa
open Go.ChangeShapes Go.WideShapes Go.ChangeAt Go.RowKit
open Go.ChangeMaps (open_string shut_string)
set_option linter.unusedVariables false

theorem own : ownKnob Try.prog.godebug = none := by kernel_rfl
theorem laidOut : laidOutB Try.prog = true := by kernel_rfl

set_option maxRecDepth 100000 in
set_option maxHeartbeats 1000000 in
theorem walk (a0 : Option Addr) (len0 cap0 : Nat) (z0 : List Int) (a1 : Int) (a2 : Int) (w : World) (w0 : IsRow .u8 w a0 len0 cap0 z0) (w1 : (Lit.int .i64 a1).wf = true) (w2 : (Lit.int .i64 a2).wf = true) :
    Calls Try.prog 7 #[.slice a0 len0 cap0, .int .i64 a1, .int .i64 a2] w fun e w' => e = .returned (.bool true) ∧ Below w.heap.size w w' := by
  obtain ⟨b11, b12⟩ := bounds_i64 w1
  obtain ⟨b21, b22⟩ := bounds_i64 w2
  obtain ⟨xs, rfl, hrow, hbx⟩ := Row.of_arg w0
  clear w0 w1 w2
  by_cases hgt : 600 < xs.length
  · have hgi : (600 : Int) < (xs.length : Int) := by omega
    go_enter Try.func7, Try.ntmps7
    go_wp2_with fail
    refine (nfix_any _).mono ?_
    rintro e w3 ⟨rfl, hb3⟩
    go_wp2_with fail
    go_ret
    exact ⟨rfl, hb3⟩
  have hle : (xs.length : Int) ≤ 600 := by omega
  have hsm : xs.length ≤ 100000000000 := by omega
  have HNX := Lib.hid (fun W h => next_any a0 cap0 xs hsm W h hbx a2 (by omega) (by omega))
  have HOP := Lib.hid (fun W h => open_any a0 cap0 xs hsm W h hbx a2 (by omega) (by omega))
  have HRN := Lib.hid (fun W => rnext_any xs hsm W hbx a2 (by omega) (by omega) false)
  have HRO := Lib.hid (fun W => rnext_any xs hsm W hbx a2 (by omega) (by omega) true)
  have HCT := Lib.hid (fun W h => count_any a0 cap0 xs hsm W h hbx)
  have HRC := Lib.hid (fun W => rcount_any xs hsm W hbx)
  have hcv := hrow.convert (P := Try.prog) 22 5 9 Try.underlying22 Try.underlying5 Try.underlying9
  have HROW := Lib.hid hrow
  have hsz := strOfNums_size xs
  generalize countI (begI false xs) xs.length = cn at HCT HRC
  generalize nextI false xs a2 = n1 at HNX HRN
  generalize nextI true xs a2 = n2 at HOP HRO
  obtain ⟨t, HAT, HT⟩ : ∃ t, Hid (∀ W, Row W W.heap.size (.slice a0 xs.length cap0) xs → Calls Try.prog 29 #[.slice a0 xs.length cap0, .int .i64 a1] W (FGot W t)) ∧
      Hid (((a1 < 0 ∨ (xs.length : Int) < a1) ∧ t = noFr 1) ∨ ∃ k : Nat, a1 = k ∧ k ≤ xs.length ∧ t = getFr (xs.drop k)) := by
    by_cases hin : a1 < 0 ∨ (xs.length : Int) < a1
    · exact ⟨_, Lib.hid (fun W _ => at_out a0 cap0 xs.length (by omega) W a1 (by omega) (by omega) hin), Lib.hid (.inl ⟨hin, rfl⟩)⟩
    · obtain ⟨k, rfl⟩ := Int.eq_ofNat_of_zero_le (show 0 ≤ a1 by omega)
      exact ⟨_, Lib.hid (fun W h => at_in a0 cap0 xs hsm W h hbx k (by omega)), Lib.hid (.inr ⟨k, rfl, by omega, rfl⟩)⟩
  have HBX := Lib.hid hbx
  clear hrow hbx
  obtain ⟨s, hs⟩ : ∃ s, strOfNums xs = s := ⟨_, rfl⟩
  rw [hs] at HRN HRO HRC hcv hsz
  have HS := Lib.hid hs
  clear hs
  go_enter Try.func7, Try.ntmps7
  go_wp2_with fail
  refine (HNX.out _ HROW.out).mono ?_
  rintro e w3 ⟨rfl, hb3⟩
  clear hcv
  have HR3 := Lib.hid ((HROW.out.below hb3).more hb3.size)
  have HB3 := Lib.hid hb3
  clear hb3
  go_wp2_with fail
  refine (HOP.out _ HR3.out).mono ?_
  rintro e w4 ⟨rfl, hb4⟩
  have HB4 := Lib.hid (HB3.out.trans (hb4.mono HB3.out.size))
  clear hb4
  go_wp2_with fail
  refine (HRN.out _).mono ?_
  rintro e w5 ⟨rfl, hb5⟩
  have HB5 := Lib.hid (HB4.out.trans (hb5.mono HB4.out.size))
  clear hb5
  go_wp2_with fail
  refine (HRO.out _).mono ?_
  rintro e w6 ⟨rfl, hb6⟩
  have HB6 := Lib.hid (HB5.out.trans (hb6.mono HB5.out.size))
  clear hb6
  have HR6 := Lib.hid ((HROW.out.below HB6.out).more HB6.out.size)
  go_wp2_with fail
  refine (HCT.out _ HR6.out).mono ?_
  rintro e w7 ⟨rfl, hb7⟩
  have HB7 := Lib.hid (HB6.out.trans (hb7.mono HB6.out.size))
  clear hb7
  go_wp2_with fail
  refine (HRC.out _).mono ?_
  rintro e w8 ⟨rfl, hb8⟩
  have HB8 := Lib.hid (HB7.out.trans (hb8.mono HB7.out.size))
  clear hb8
  have HR8 := Lib.hid ((HROW.out.below HB8.out).more HB8.out.size)
  go_wp2_with fail
  refine (HAT.out _ HR8.out).mono ?_
  rintro e w9 ⟨A9, c9, rfl, hr9, hb9⟩
  have HB9 := Lib.hid (HB8.out.trans (hb9.mono HB8.out.size))
  have HR9 := Lib.hid hr9
  clear hb9 hr9
  rcases HT.out with ⟨hin, rfl⟩ | ⟨k, rfl, hk, rfl⟩
  · have HB10 := Lib.hid (HB9.out.alloc HB9.out.size (.cells #[.int .i64 0, .slice A9 0 c9] 36))
    simp only [noFr, List.length_nil]
    rcases hin with hin | hin
    all_goals
      go_wp2_with fail
      refine (nfix_any _).mono ?_
      rintro e w11 ⟨rfl, hb11⟩
      have HB11 := Lib.hid (HB10.out.trans (hb11.mono HB10.out.size))
      clear hb11
      go_wp2_with fail
      go_ret
      exact ⟨rfl, HB11.out⟩
  · have hcut : s.extract k xs.length = strOfNums (xs.drop k) := by rw [← HS.out, str_cut, List.take_length]
    have HC := Lib.hid hcut
    have HG := Lib.hid (fun W => rfget_any (xs.drop k) (by rw [List.length_drop]; omega) W (drop_bytes HBX.out k))
    clear hcut
    generalize getFr (xs.drop k) = t at HG HR9 ⊢
    generalize strOfNums (xs.drop k) = s2 at HC HG
    have k0 : (0 : Int) ≤ k := by omega
    have k1 : (k : Int) ≤ (xs.length : Int) := by omega
    obtain ⟨⟨kk, pp⟩, sz, er⟩ := t
    simp only at HR9 ⊢
    have hf9 : Held (w9.alloc (.cells #[.int .i64 kk, .slice A9 pp.length c9] 36)) w9.heap.size 36 #[.int .i64 kk, .slice A9 pp.length c9] := heap_alloc_new w9 _
    have HF9 := Lib.hid hf9
    have HB10 := Lib.hid (HB9.out.alloc HB9.out.size (.cells #[.int .i64 kk, .slice A9 pp.length c9] 36))
    have HR10 := Lib.hid ((HR9.out.below ((Below.refl w9.heap.size w9).alloc (Nat.le_refl _) (.cells #[.int .i64 kk, .slice A9 pp.length c9] 36))).more (show w9.heap.size ≤ (w9.alloc (.cells #[.int .i64 kk, .slice A9 pp.length c9] 36)).heap.size by simp))
    clear hf9
    go_wp2_with fail
    rw [HC.out]
    refine (HG.out _).mono ?_
    rintro e w11 ⟨A11, c11, rfl, hr11, hb11⟩
    simp only at hr11
    have hz11 : w9.heap.size + 1 ≤ w11.heap.size := by have := hb11.size; simpa using this
    have hf11 := HF9.out.below hb11 HF9.out.lt
    have hr11a := (HR10.out.below hb11).more hb11.size
    have HB11 := Lib.hid (HB10.out.trans (hb11.mono HB10.out.size))
    clear hb11
    obtain ⟨N9, hN9⟩ : ∃ N, w9.heap.size = N := ⟨_, rfl⟩
    rw [hN9] at hf11 hz11
    try simp only [hN9]
    clear HF9 HR10 HB10 HR9 HB9 hN9
    have hf12 : Held (w11.alloc (.cells #[.int .i64 kk, .slice A11 pp.length c11] 36)) N9 36 #[.int .i64 kk, .slice A9 pp.length c9] := hf11.below ((Below.refl w11.heap.size w11).alloc (Nat.le_refl _) _) (by omega)
    have hg12 : Held (w11.alloc (.cells #[.int .i64 kk, .slice A11 pp.length c11] 36)) w11.heap.size 36 #[.int .i64 kk, .slice A11 pp.length c11] := heap_alloc_new w11 _
    have b12 : Below w11.heap.size w11 (w11.alloc (.cells #[.int .i64 kk, .slice A11 pp.length c11] 36)) := (Below.refl w11.heap.size w11).alloc (Nat.le_refl _) _
    have hr12 := (hr11a.below b12).more b12.size
    have hs12 := (hr11.below b12).more b12.size
    have HB12 := Lib.hid (HB11.out.trans (b12.mono HB11.out.size))
    generalize hW : w11.alloc (.cells #[.int .i64 kk, .slice A11 pp.length c11] 36) = w12 at hf12 hg12 hr12 hs12 HB12
    have HW := Lib.hid hW
    clear hf11 hr11 hr11a b12 hW
    obtain ⟨N11, hN11⟩ : ∃ N, w11.heap.size = N := ⟨_, rfl⟩
    rw [hN11] at hg12 hz11
    have HN11 := Lib.hid hN11
    clear hN11
    have HF12 := Lib.hid hf12
    have HG12 := Lib.hid hg12
    have HR12 := Lib.hid hr12
    have HS12 := Lib.hid hs12
    clear hf12 hg12 hr12 hs12
    go_wp2_with fail
    rw [HN11.out, HW.out]
    refine (nfix_any _).mono ?_
    rintro e w13 ⟨rfl, hb13⟩
    have hf13 := HF12.out.below hb13 HF12.out.lt
    have hg13 := HG12.out.below hb13 HG12.out.lt
    have q0 := hf13.cell 0
    have q1 := hf13.cell 1
    have q2 := hg13.cell 0
    have q3 := hg13.cell 1
    simp at q0 q1 q2 q3
    have HSM := Lib.hid (fsame_yes kk A9 A11 c9 c11 pp w13 ((HR12.out.below hb13).more hb13.size) ((HS12.out.below hb13).more hb13.size))
    have HB13 := Lib.hid (HB12.out.trans (hb13.mono HB12.out.size))
    clear hb13 hf13 hg13
    go_wp2_with fail
    refine HSM.out.mono ?_
    rintro e w14 ⟨rfl, hb14⟩
    have HB14 := Lib.hid (HB13.out.trans (hb14.mono HB13.out.size))
    clear hb14
    go_wp2_with fail
    go_ret
    exact ⟨rfl, HB14.out⟩

set_option maxRecDepth 100000 in
theorem lifted (os : Os) (started : os.Started) (H : Type) (enc : TypeId × Value → H) :
    ReturnsInHanded {} Try.checked os 7 .any (Rows.findPlacesSpec.pre6 enc Try.prog Try.f7 Rows.findPlacesRow.domain false) (Rows.findPlacesSpec.post enc Try.prog Try.f7 false true false false) := by
  refine returnsInHanded_of_change (C := Try.checked) own started (by kernel_rfl) Try.func7
    (ChangeSpec.witness6 (enc := enc) (C := Try.checked) false ⟨#[], #[.slice none 0 0, .int .i64 0, .int .i64 0], []⟩ 8 (by kernel_rfl) (by kernel_rfl) (by kernel_rfl) (by kernel_rfl)) ?_
  intro W base args ds gs before hval0 hW hcnd _
  have hval : ∀ (j : Nat) t v, Try.f7.params[j]? = some t → args[j]? = some v → Value.okWide Try.prog W .any base t v := hval0
  have hW' := hW
  obtain ⟨p, q, hA0, hV, rfl, hfz, hnd⟩ := hW
  have hA : DataW.TrodAll enc Try.prog W 0 (fun _ => true) true Try.f7.params.toList args.toList ds p := hA0
  rw [Try.params7] at hA hval
  obtain ⟨v0, vs0, d0, ds0, p0, q0, hargs, rfl, rfl, h0, r0⟩ := trodAll_cons hA
  obtain ⟨v1, vs1, d1, ds1, p1, q1, rfl, rfl, rfl, h1, r1⟩ := trodAll_cons r0
  obtain ⟨v2, vs2, d2, ds2, p2, q2, rfl, rfl, rfl, h2, r2⟩ := trodAll_cons r1
  obtain ⟨rfl, rfl, rfl⟩ := trodAll_nil r2
  obtain rfl : args = #[v0, v1, v2] := by cases args; simp_all
  obtain ⟨rfl, rfl⟩ := trodVars_none hV
  obtain ⟨a0, len0, cap0, rfl⟩ := okWide_slice Try.underlying22 (hval 0 22 v0 rfl rfl)
  have k0 := h0
  have lt0 : ∀ x ∈ p0, x.block < W.heap.size := by obtain ⟨m, hm⟩ := k0; exact DataW.trod_lt m _ _ _ hm
  obtain ⟨z0, w0⟩ : ∃ zs, IsRow .u8 W a0 len0 cap0 zs := by
    obtain ⟨fuel, hf⟩ := h0
    rcases open_ints Try.underlying22 Try.underlying5 (by kernel_rfl) hf with ⟨hcs, _⟩ | ⟨x, l, c, zs, hcs, _, hl, hm, hz, _, hcell, hwz⟩
    · simp [Value.cells] at hcs
      obtain ⟨rfl, rfl, rfl⟩ := hcs
      exact ⟨[], .inl ⟨rfl, rfl, rfl, rfl⟩⟩
    · simp [Value.cells] at hcs
      obtain ⟨rfl, rfl, rfl⟩ := hcs
      exact ⟨zs, .inr ⟨_, rfl, hl, hm, by simpa using hz, hcell, hwz⟩⟩
  obtain ⟨a1, rfl, rfl, rfl, w1⟩ := open_int Try.underlying3 (hval 1 3 v1 rfl rfl) h1
  obtain ⟨a2, rfl, rfl, rfl, w2⟩ := open_int Try.underlying3 (hval 2 3 v2 rfl rfl) h2
  clear hA0 hval0
  refine (walk a0 len0 cap0 z0 a1 a2 W w0 w1 w2).mono fun e W' ⟨he, bel⟩ => ?_
  subst he
  exact ⟨_, rfl, _, _, _, [], _, [], hW', trodAll_mk1 (shut_bool Try.underlying4 _), (trodAll_cons_mk (Below.trod laidOut (by kernel_rfl) (of_decide_eq_true (by kernel_rfl)) k0 bel lt0) (trodAll_cons_mk (shut_int Try.underlying3 w1) (trodAll_cons_mk (shut_int Try.underlying3 w2) trodAll_mk0))), rfl, bel.frame _, fun h => by cases h⟩

theorem over : Rows.findPlacesRow.holds Try.pinned (OpenSpec.ofChange Rows.findPlacesSpec) :=
  OpenClaim.holds_of_wide 7 Try.f7 rfl rfl rfl rfl rfl rfl rfl ⟨rfl, rfl, rfl, rfl, rfl⟩ rfl rfl rfl rfl rfl (by kernel_rfl) Try.func7 (by kernel_rfl)
    (of_decide_eq_true (by kernel_rfl)) (by unfold Func.isWrapper; first | (rw [if_pos (by decide +kernel)]; kernel_rfl) | (rw [if_neg (by decide +kernel)]; exact ⟨rfl, rfl⟩))
    (fun os started H enc _ => lifted os started H enc)

theorem proved : Rows.FindPlacesSaid := over
#print axioms proved
end Go.Proofs.Ytbbmblodabojeaa.findPlaces

