/-
  At every frame and every bytes behind it the law on what is written as a frame answers true, and nothing that lay in memory has changed. No condition.
-/
import Derived.Test.YtbapmcocnhkjcaaRows
import Derived.WalkKit
import Derived.ProofKit
import Derived.OpenShut
import Derived.ShutString
import Derived.ChangeOld
import Derived.Below
import Derived.Lib.SmallJoins
import Derived.Test.YtbapmcocnhkjcaaFrameFixed
import Derived.Test.YtbapmcocnhkjcaaFrameGet
import Derived.Test.YtbapmcocnhkjcaaFrameRef
import Derived.Test.YtbapmcocnhkjcaaArg
namespace Go.Proofs.Ytbapmcocnhkjcaa.framePuts
open Go.Proofs.Ytbapmcocnhkjcaa
open Go.ChangeShapes Go.WideShapes Go.ChangeAt Go.RowKit
open Go.ChangeMaps (open_string shut_string)
set_option linter.unusedVariables false

theorem own : ownKnob Try.prog.godebug = none := by kernel_rfl
theorem laidOut : laidOutB Try.prog = true := by kernel_rfl

theorem encFr_byte {k : Int} {p : List Int} (hk : k = 1 ∨ k = 2) (hp : p.length ≤ 4096) (hb : ∀ x ∈ p, 0 ≤ x ∧ x < 256) : ∀ x ∈ encFr k p, 0 ≤ x ∧ x < 256 := by
  intro x hx
  have hbody := bodyL_byte hk hp hb
  simp only [encFr, List.mem_append] at hx
  rcases hx with hx | hx | hx
  · exact markL_byte x hx
  · exact hbody x hx
  · exact le4_byte (sumX_lt hbody) x hx

set_option maxRecDepth 100000 in
set_option maxHeartbeats 2000000 in
theorem walk (kk : Int) (a0 : Option Addr) (len0 cap0 : Nat) (z0 : List Int) (a1 : Option Addr) (len1 cap1 : Nat) (z1 : List Int) (w : World) (wk : (Lit.int .i64 kk).wf = true) (w0 : IsRow .u8 w a0 len0 cap0 z0) (w1 : IsRow .u8 w a1 len1 cap1 z1) :
    Calls Try.prog 5 #[.agg #[.int .i64 kk, .slice a0 len0 cap0], .slice a1 len1 cap1] w fun e w' => e = .returned (.bool true) ∧ Below w.heap.size w w' := by
  obtain ⟨bk1, bk2⟩ := bounds_i64 wk
  obtain ⟨p, rfl, hrow, hbp⟩ := Row.of_arg w0
  obtain ⟨bs, rfl, hrow2, hbb⟩ := Row.of_arg w1
  have hml : p.length ≤ 9223372036854775807 := by
    obtain ⟨_, _, hv, q1, q2, _⟩ := hrow
    unfold maxLen at q2
    omega
  clear wk w0 w1
  by_cases hgt : 5000 < p.length
  · have hgi : (5000 : Int) < (p.length : Int) := by omega
    go_enter Try.func5, Try.ntmps5
    go_wp2_with (go_at_call 15; refine (ffix_any _).mono ?_; rintro e w3 ⟨rfl, hb3⟩)
    go_ret
    exact ⟨rfl, ((Below.refl _ _).alloc (Nat.le_refl _) _).trans (hb3.mono (by simp))⟩
  by_cases hgt2 : 60 < bs.length
  · have hgi : (60 : Int) < (bs.length : Int) := by omega
    have hg2 : (p.length : Int) ≤ 5000 := by omega
    go_enter Try.func5, Try.ntmps5
    go_wp2_with (go_at_call 15; refine (ffix_any _).mono ?_; rintro e w3 ⟨rfl, hb3⟩)
    go_ret
    exact ⟨rfl, ((Below.refl _ _).alloc (Nat.le_refl _) _).trans (hb3.mono (by simp))⟩
  have i1 : (p.length : Int) ≤ 5000 := by omega
  have i2 : (bs.length : Int) ≤ 60 := by omega
  have HSZ := Lib.hid (fun W => fsize_any (p.length : Int) (by omega) (by omega) W)
  have HROW := Lib.hid hrow
  have HROW2 := Lib.hid hrow2
  clear hrow hrow2
  by_cases hmay : (kk = 1 ∨ kk = 2) ∧ p.length ≤ 4096
  · obtain ⟨hk, hp⟩ := hmay
    have hlen := encFr_length kk p
    obtain ⟨l1, l2⟩ := encI_ten (n := p.length) (by omega)
    obtain ⟨L, hL⟩ : ∃ L, (encFr kk p).length = L := ⟨_, rfl⟩
    have hsz := sizeI_ok hp
    rw [← hlen, hL] at hsz
    rw [hsz] at HSZ
    have hput := fun W h => fput_any kk hk a0 cap0 p hp hbp W h
    have hrput := fun W h => rfput_any kk hk a0 cap0 p hp hbp W h
    have hge := getFr_enc hk hp bs
    have hbe := encFr_byte hk hp hbp
    have hL2 : L ≤ 5000 := by omega
    have hby : ∀ x ∈ encFr kk p ++ bs, 0 ≤ x ∧ x < 256 := fun x hx => by
      rcases List.mem_append.1 hx with h | h
      · exact hbe x h
      · exact hbb x h
    have hadd := fun W => add_strs (P := Try.prog) W (encFr kk p) bs (by omega)
    have hssz : (strOfNums (encFr kk p)).size = L := by rw [strOfNums_size, hL]
    have hyl : (encFr kk p ++ bs).length ≤ 5100 := by rw [List.length_append]; omega
    rw [hL] at hput hge
    generalize encFr kk p ++ bs = ys at hge hby hadd hyl
    generalize encFr kk p = ef at hput hrput hadd hssz hL
    generalize hes : strOfNums ef = es at hrput hadd hssz
    have HES := Lib.hid hes
    have HPUT := Lib.hid hput
    have HRPUT := Lib.hid hrput
    have HGE := Lib.hid hge
    have HBY := Lib.hid hby
    have HL := Lib.hid hL
    have HYL := Lib.hid hyl
    have hk0 : kk = 1 ∨ kk = 2 := hk
    clear hput hrput hge hbe hlen hsz hL hbp hbb hes hby hyl hk hk0 hgt hgt2
    go_enter Try.func5, Try.ntmps5
    go_wp2_with fail
    refine (HPUT.out _ ((HROW.out.below ((Below.refl _ _).alloc (Nat.le_refl _) _)).more (by simp))).mono ?_
    rintro e w1 ⟨cap, g, rfl, hown, hb1⟩
    have hf1 : Held w1 w.heap.size 36 #[.int .i64 kk, .slice a0 p.length cap0] := (hb1.block w.heap.size (by simp)).trans (heap_alloc_new w _)
    have g0 := hf1.cell 0
    have g1 := hf1.cell 1
    simp at g0 g1
    have bw1 : Below w.heap.size w w1 := ((Below.refl _ _).alloc (Nat.le_refl _) _).trans (hb1.mono (by simp))
    have HBW1 := Lib.hid bw1
    have HF1 := Lib.hid hf1
    have HOWN := Lib.hid hown
    clear bw1 hf1 hown hb1
    go_wp2_with fail
    refine (HRPUT.out _ ((HROW.out.below HBW1.out).more HBW1.out.size)).mono ?_
    rintro e w2 ⟨rfl, hb2⟩
    have bw2 : Below w.heap.size w w2 := HBW1.out.trans (hb2.mono HBW1.out.size)
    have hf2 := HF1.out.below hb2 HF1.out.lt
    have hcv := (Row.of_own (own_below HOWN.out hb2)).convert (P := Try.prog) 22 5 9 Try.underlying22 Try.underlying5 Try.underlying9
    rw [HES.out] at hcv
    have hcv2 := (HROW2.out.below bw2).convert (P := Try.prog) 22 5 9 Try.underlying22 Try.underlying5 Try.underlying9
    obtain ⟨A3, c3, w3, hcv3, hrow3, hb3⟩ := conv_bytes (P := Try.prog) w2 9 22 5 Try.underlying9 Try.underlying22 Try.underlying5 ys HBY.out (by have := HYL.out; omega)
    have bw3 : Below w.heap.size w w3 := bw2.trans (hb3.mono bw2.size)
    have hf3 := hf2.below hb3 hf2.lt
    have HBW3 := Lib.hid bw3
    have HF3 := Lib.hid hf3
    have hg := fget_any A3 c3 ys (by have := HYL.out; omega) w3 hrow3 HBY.out
    rw [HGE.out] at hg
    have HG := Lib.hid hg
    clear g0 g1 bw2 hf2 bw3 hf3 hg hrow3 hb3 hb2
    go_wp2_with fail
    refine HG.out.mono ?_
    rintro e w4 ⟨A4, c4, rfl, hrow4, hb4⟩
    try simp only
    have hz3 := HBW3.out.size
    have bw4 : Below w.heap.size w w4 := HBW3.out.trans (hb4.mono hz3)
    have hf4 := HF3.out.below hb4 HF3.out.lt
    have HBW4 := Lib.hid bw4
    have HF4 := Lib.hid hf4
    have HROW4 := Lib.hid hrow4
    have hz4 := bw4.size
    clear hcv hcv2 hcv3 bw4 hf4 hrow4 hb4
    go_wp2_with fail
    refine (ffix_any _).mono ?_
    rintro e w5 ⟨rfl, hb5⟩
    have bw5 : Below w.heap.size w w5 := (HBW4.out.alloc hz4 _).trans (hb5.mono (by simp; omega))
    have hx5 : Held w5 w4.heap.size 36 #[.int .i64 kk, .slice A4 p.length c4] := (hb5.block w4.heap.size (by simp)).trans (heap_alloc_new w4 _)
    have hf5 := (HF4.out.below ((Below.refl _ _).alloc (Nat.le_refl _) (.cells #[.int .i64 kk, .slice A4 p.length c4] 36)) HF4.out.lt).below hb5 (by have := HF4.out.lt; simp; omega)
    have g0 := hx5.cell 0
    have g1 := hx5.cell 1
    have g2 := hf5.cell 0
    have g3 := hf5.cell 1
    simp at g0 g1 g2 g3
    have hr4 : Row w5 w5.heap.size (.slice A4 p.length c4) p := (HROW4.out.below (((Below.refl _ _).alloc (Nat.le_refl _) _).trans (hb5.mono (by simp)))).more (by have := hb5.size; simp at this; omega)
    have HS := Lib.hid (fsame_yes kk A4 a0 c4 cap0 p w5 hr4 ((HROW.out.below bw5).more bw5.size))
    have HBW5 := Lib.hid bw5
    have HF5 := Lib.hid hf5
    clear bw5 hx5 hf5 hr4 hb5
    go_wp2_with fail
    refine HS.out.mono ?_
    rintro e w6 ⟨rfl, hb6⟩
    have hf6 := HF5.out.below hb6 HF5.out.lt
    have k1 := hf6.cell 1
    simp at k1
    have bw6 : Below w.heap.size w w6 := HBW5.out.trans (hb6.mono HBW5.out.size)
    have HBW6 := Lib.hid bw6
    clear g0 g1 g2 g3 hf6 bw6 hb6
    go_wp2_with fail
    refine (HSZ.out _).mono ?_
    rintro e w7 ⟨rfl, hb7⟩
    have b7 := HBW6.out.trans (hb7.mono HBW6.out.size)
    clear hb7
    go_wp2_with fail
    go_ret
    exact ⟨rfl, b7⟩
  · have HBAD := Lib.hid (fun W => fput_bad kk a0 cap0 p hmay hml W)
    have HRBAD := Lib.hid (fun W => rfput_bad kk a0 cap0 p hmay hml W)
    have hcvn : ∀ W : World, (convert 22 9 (.slice none 0 0)).run Try.prog W = .ok (.string ⟨#[]⟩) W := fun W => (Row.nil W 0).convert (P := Try.prog) 22 5 9 Try.underlying22 Try.underlying5 Try.underlying9
    by_cases hk : kk = 1 ∨ kk = 2
    · have hl : 4096 < p.length := by
        rcases Nat.lt_or_ge 4096 p.length with h | h
        · exact h
        · exact absurd ⟨hk, h⟩ hmay
      have hs0 : sizeI (p.length : Int) = 0 := sizeI_no (.inr (by omega))
      rw [hs0] at HSZ
      clear hmay hs0 hgt hgt2 hbp hbb
      rcases hk with rfl | rfl
      all_goals
        go_enter Try.func5, Try.ntmps5
        go_wp2_with fail
        refine (HBAD.out _).mono ?_
        rintro e w1 ⟨rfl, hb1⟩
        have hf1 : Held w1 w.heap.size 36 #[.int .i64 _, .slice a0 p.length cap0] := (hb1.block w.heap.size (by simp)).trans (heap_alloc_new w _)
        have g0 := hf1.cell 0
        have g1 := hf1.cell 1
        simp at g0 g1
        have bw1 : Below w.heap.size w w1 := ((Below.refl _ _).alloc (Nat.le_refl _) _).trans (hb1.mono (by simp))
        have HBW1 := Lib.hid bw1
        have HF1 := Lib.hid hf1
        clear bw1 hf1 hb1
        go_wp2_with fail
        refine (HRBAD.out _).mono ?_
        rintro e w2 ⟨rfl, hb2⟩
        have bw2 : Below w.heap.size w w2 := HBW1.out.trans (hb2.mono HBW1.out.size)
        have hf2 := HF1.out.below hb2 HF1.out.lt
        have HBW2 := Lib.hid bw2
        have HF2 := Lib.hid hf2
        clear g0 g1 bw2 hf2 hb2
        go_wp2_with fail
        refine (ffix_any _).mono ?_
        rintro e w5 ⟨rfl, hb5⟩
        have bw5 : Below w.heap.size w w5 := HBW2.out.trans (hb5.mono HBW2.out.size)
        have hf5 := HF2.out.below hb5 HF2.out.lt
        have g2 := hf5.cell 0
        have g3 := hf5.cell 1
        simp at g2 g3
        have HBW5 := Lib.hid bw5
        clear bw5 hf5 hb5
        go_wp2_with fail
        refine (HSZ.out _).mono ?_
        rintro e w7 ⟨rfl, hb7⟩
        have b7 := HBW5.out.trans (hb7.mono HBW5.out.size)
        clear hb7
        go_wp2_with fail
        go_ret
        exact ⟨rfl, b7⟩
    · have n1 : (kk != 1) = true := bne_iff_ne.2 (by omega)
      have n2 : (kk != 2) = true := bne_iff_ne.2 (by omega)
      have n3 : (kk == 1) = false := beq_eq_false_iff_ne.2 (by omega)
      have n4 : (kk == 2) = false := beq_eq_false_iff_ne.2 (by omega)
      clear hmay hk hgt hgt2 hbp hbb
      go_enter Try.func5, Try.ntmps5
      go_wp2_with fail
      refine (HBAD.out _).mono ?_
      rintro e w1 ⟨rfl, hb1⟩
      have hf1 : Held w1 w.heap.size 36 #[.int .i64 kk, .slice a0 p.length cap0] := (hb1.block w.heap.size (by simp)).trans (heap_alloc_new w _)
      have g0 := hf1.cell 0
      have g1 := hf1.cell 1
      simp at g0 g1
      have bw1 : Below w.heap.size w w1 := ((Below.refl _ _).alloc (Nat.le_refl _) _).trans (hb1.mono (by simp))
      have HBW1 := Lib.hid bw1
      have HF1 := Lib.hid hf1
      clear bw1 hf1 hb1
      go_wp2_with fail
      refine (HRBAD.out _).mono ?_
      rintro e w2 ⟨rfl, hb2⟩
      have bw2 : Below w.heap.size w w2 := HBW1.out.trans (hb2.mono HBW1.out.size)
      have hf2 := HF1.out.below hb2 HF1.out.lt
      have HBW2 := Lib.hid bw2
      have HF2 := Lib.hid hf2
      clear g0 g1 bw2 hf2 hb2
      go_wp2_with fail
      refine (ffix_any _).mono ?_
      rintro e w5 ⟨rfl, hb5⟩
      have bw5 : Below w.heap.size w w5 := HBW2.out.trans (hb5.mono HBW2.out.size)
      have hf5 := HF2.out.below hb5 HF2.out.lt
      have g2 := hf5.cell 0
      have g3 := hf5.cell 1
      simp at g2 g3
      have HBW5 := Lib.hid bw5
      clear bw5 hf5 hb5
      go_wp2_with fail
      go_ret
      exact ⟨rfl, HBW5.out⟩

set_option maxRecDepth 100000 in
theorem lifted (os : Os) (started : os.Started) (H : Type) (enc : TypeId × Value → H) :
    ReturnsInHanded {} Try.checked os 5 .any (Rows.framePutsSpec.pre6 enc Try.prog Try.f5 Rows.framePutsRow.domain false) (Rows.framePutsSpec.post enc Try.prog Try.f5 false true false false) := by
  refine returnsInHanded_of_change (C := Try.checked) own started (by kernel_rfl) Try.func5
    (ChangeSpec.witness6 (enc := enc) (C := Try.checked) false ⟨#[], #[.agg #[.int .i64 0, .slice none 0 0], .slice none 0 0], []⟩ 8 (by kernel_rfl) (by kernel_rfl) (by kernel_rfl) (by kernel_rfl)) ?_
  intro W base args ds gs before hval0 hW hcnd _
  have hval : ∀ (j : Nat) t v, Try.f5.params[j]? = some t → args[j]? = some v → Value.okWide Try.prog W .any base t v := hval0
  have hW' := hW
  obtain ⟨p, q, hA0, hV, rfl, hfz, hnd⟩ := hW
  have hA : DataW.TrodAll enc Try.prog W 0 (fun _ => true) true Try.f5.params.toList args.toList ds p := hA0
  rw [Try.params5] at hA hval
  obtain ⟨v0, vs0, d0, ds0, p0, q0, hargs, rfl, rfl, h0, r0⟩ := trodAll_cons hA
  obtain ⟨v1, vs1, d1, ds1, p1, q1, rfl, rfl, rfl, h1, r1⟩ := trodAll_cons r0
  obtain ⟨rfl, rfl, rfl⟩ := trodAll_nil r1
  obtain rfl : args = #[v0, v1] := by cases args; simp_all
  obtain ⟨rfl, rfl⟩ := trodVars_none hV
  have k0 := h0
  have lt0 : ∀ x ∈ p0, x.block < W.heap.size := by obtain ⟨m, hm⟩ := k0; exact DataW.trod_lt m _ _ _ hm
  obtain ⟨fk, fp, y0, y1, nn, rfl, rfl, rfl, hfk, hfp⟩ := Joins.open_agg2 Try.underlying36 (by kernel_rfl) (by kernel_rfl) (hval 0 36 v0 rfl rfl) h0
  obtain ⟨kk, hkcs, hky, wk⟩ := DataW.trod_int Try.underlying3 hfk
  simp at hkcs
  subst hkcs
  obtain ⟨a0, len0, cap0, z0, rfl, w0⟩ : ∃ a0 len0 cap0 zs, fp = .slice a0 len0 cap0 ∧ IsRow .u8 W a0 len0 cap0 zs := by
    rcases open_ints Try.underlying22 Try.underlying5 (by kernel_rfl) hfp with ⟨hcs, _⟩ | ⟨x, l, c, zs, hcs, _, hl, hm, hz, _, hcell, hwz⟩
    · simp at hcs
      subst hcs
      exact ⟨none, 0, 0, [], rfl, .inl ⟨rfl, rfl, rfl, rfl⟩⟩
    · simp at hcs
      subst hcs
      exact ⟨some x, l, c, zs, rfl, .inr ⟨_, rfl, hl, hm, by simpa using hz, hcell, hwz⟩⟩
  obtain ⟨a1, len1, cap1, rfl⟩ := okWide_slice Try.underlying22 (hval 1 22 v1 rfl rfl)
  have k1 := h1
  have lt1 : ∀ x ∈ p1, x.block < W.heap.size := by obtain ⟨m, hm⟩ := k1; exact DataW.trod_lt m _ _ _ hm
  obtain ⟨z1, w1⟩ : ∃ zs, IsRow .u8 W a1 len1 cap1 zs := by
    obtain ⟨fuel, hf⟩ := h1
    rcases open_ints Try.underlying22 Try.underlying5 (by kernel_rfl) hf with ⟨hcs, _⟩ | ⟨x, l, c, zs, hcs, _, hl, hm, hz, _, hcell, hwz⟩
    · simp [Value.cells] at hcs
      obtain ⟨rfl, rfl, rfl⟩ := hcs
      exact ⟨[], .inl ⟨rfl, rfl, rfl, rfl⟩⟩
    · simp [Value.cells] at hcs
      obtain ⟨rfl, rfl, rfl⟩ := hcs
      exact ⟨zs, .inr ⟨_, rfl, hl, hm, by simpa using hz, hcell, hwz⟩⟩
  clear hA0 hval0
  refine (walk kk a0 len0 cap0 z0 a1 len1 cap1 z1 W wk w0 w1).mono fun e W' ⟨he, bel⟩ => ?_
  subst he
  exact ⟨_, rfl, _, _, _, [], _, [], hW', trodAll_mk1 (shut_bool Try.underlying4 _), (trodAll_cons_mk (Below.trod laidOut (by kernel_rfl) (of_decide_eq_true (by kernel_rfl)) k0 bel lt0) (trodAll_cons_mk (Below.trod laidOut (by kernel_rfl) (of_decide_eq_true (by kernel_rfl)) k1 bel lt1) (trodAll_mk0))), rfl, bel.frame _, fun h => by cases h⟩

theorem over : Rows.framePutsRow.holds Try.pinned (OpenSpec.ofChange Rows.framePutsSpec) :=
  OpenClaim.holds_of_wide 5 Try.f5 rfl rfl rfl rfl rfl rfl rfl ⟨rfl, rfl, rfl, rfl, rfl⟩ rfl rfl rfl rfl rfl (by kernel_rfl) Try.func5 (by kernel_rfl)
    (of_decide_eq_true (by kernel_rfl)) (by unfold Func.isWrapper; first | (rw [if_pos (by decide +kernel)]; kernel_rfl) | (rw [if_neg (by decide +kernel)]; exact ⟨rfl, rfl⟩))
    (fun os started H enc _ => lifted os started H enc)

theorem proved : Rows.FramePutsSaid := over
#print axioms proved
end Go.Proofs.Ytbapmcocnhkjcaa.framePuts
