/-
  At every frame, every place and every byte the law on frames that are cut off answers true, and nothing that lay in memory has changed. No condition.
-/
import Derived.Test.YtbapmcocnhkjcaaRows
import Derived.WalkKit
import Derived.ProofKit
import Derived.OpenShut
import Derived.ShutString
import Derived.ChangeOld
import Derived.Below
import Derived.Lib.SmallJoins
import Derived.Test.YtbapmcocnhkjcaaFrameFixed
import Derived.Test.YtbapmcocnhkjcaaFrameGet
import Derived.Test.YtbapmcocnhkjcaaArg
namespace Go.Proofs.Ytbapmcocnhkjcaa.frameShort
open Go.Proofs.Ytbapmcocnhkjcaa
open Go.ChangeShapes Go.WideShapes Go.ChangeAt Go.RowKit
open Go.ChangeMaps (open_string shut_string)
set_option linter.unusedVariables false

theorem own : ownKnob Try.prog.godebug = none := by kernel_rfl
theorem laidOut : laidOutB Try.prog = true := by kernel_rfl

theorem encFr_byte {k : Int} {p : List Int} (hk : k = 1 ∨ k = 2) (hp : p.length ≤ 4096) (hb : ∀ x ∈ p, 0 ≤ x ∧ x < 256) : ∀ x ∈ encFr k p, 0 ≤ x ∧ x < 256 := by
  intro x hx
  have hbody := bodyL_byte hk hp hb
  simp only [encFr, List.mem_append] at hx
  rcases hx with hx | hx | hx
  · exact markL_byte x hx
  · exact hbody x hx
  · exact le4_byte (sumX_lt hbody) x hx
theorem encFr_parts (k : Int) (p : List Int) : encFr k p = (markL ++ bodyL k p) ++ le4 (sumX (bodyL k p)) := by rw [encFr, List.append_assoc]
theorem front_length (k : Int) (p : List Int) : (markL ++ bodyL k p).length + 4 = (encFr k p).length := by rw [encFr_parts, List.length_append (bs := le4 _), le4_length]
theorem encFr_last (k : Int) (p : List Int) : (encFr k p)[(encFr k p).length - 1]? = some ((sumX (bodyL k p) : Int) / 16777216) := by
  have h := front_length k p
  have e : (encFr k p).length - 1 = (markL ++ bodyL k p).length + 3 := by omega
  rw [e, encFr_parts, List.getElem?_append_right (by omega), Nat.add_sub_cancel_left]
  rfl
theorem getFr_last {k : Int} {p : List Int} {y : Int} (hk : k = 1 ∨ k = 2) (hp : p.length ≤ 4096) (hne : y ≠ (sumX (bodyL k p) : Int) / 16777216) : getFr ((encFr k p).set ((encFr k p).length - 1) y) = noFr 5 := by
  have h := front_length k p
  have e : (encFr k p).length - 1 = (markL ++ bodyL k p).length + 3 := by omega
  have e2 : (encFr k p).set ((encFr k p).length - 1) y = markL ++ (bodyL k p ++ ((le4 (sumX (bodyL k p))).set 3 y ++ [])) := by
    rw [e, encFr_parts, List.set_append_right _ _ (by omega), Nat.add_sub_cancel_left, List.append_nil, List.append_assoc]
  rw [e2, getFr_parts hk hp (by rw [List.length_set, le4_length]), if_neg]
  intro hh
  simp only [le4, List.set_cons_succ, List.set_cons_zero, List.cons.injEq, and_true, true_and] at hh
  exact hne hh

set_option maxRecDepth 100000 in
set_option maxHeartbeats 2000000 in
theorem walk (kk : Int) (a0 : Option Addr) (len0 cap0 : Nat) (z0 : List Int) (a1 : Int) (a2 : Int) (w : World) (wk : (Lit.int .i64 kk).wf = true) (w0 : IsRow .u8 w a0 len0 cap0 z0) (w1 : (Lit.int .u16 a1).wf = true) (w2 : (Lit.int .u8 a2).wf = true) :
    Calls Try.prog 7 #[.agg #[.int .i64 kk, .slice a0 len0 cap0], .int .u16 a1, .int .u8 a2] w fun e w' => e = .returned (.bool true) ∧ Below w.heap.size w w' := by
  obtain ⟨bk1, bk2⟩ := bounds_i64 wk
  obtain ⟨b11, b12⟩ := bounds_u16 w1
  obtain ⟨b21, b22⟩ := bounds_u8 w2
  obtain ⟨at_, rfl⟩ := Int.eq_ofNat_of_zero_le b11
  obtain ⟨by_, rfl⟩ := Int.eq_ofNat_of_zero_le b21
  obtain ⟨p, rfl, hrow, hbp⟩ := Row.of_arg w0
  have hml : p.length ≤ 9223372036854775807 := by
    obtain ⟨_, _, hv, q1, q2, _⟩ := hrow
    unfold maxLen at q2
    omega
  clear wk w0 w1 w2 b11 b21
  by_cases hmay : (kk = 1 ∨ kk = 2) ∧ p.length ≤ 4096
  · obtain ⟨hk, hp⟩ := hmay
    have hlen := encFr_length kk p
    obtain ⟨l1, l2⟩ := encI_ten (n := p.length) (by omega)
    obtain ⟨L, hL⟩ : ∃ L, (encFr kk p).length = L := ⟨_, rfl⟩
    have hLl : 10 ≤ L ∧ L ≤ 5000 := by omega
    obtain ⟨L1, L2⟩ := hLl
    have hput := fun W h => fput_any kk hk a0 cap0 p hp hbp W h
    rw [hL] at hput
    obtain ⟨c, hc⟩ : ∃ c, c = at_ % L := ⟨_, rfl⟩
    have hcl : c < L := by rw [hc]; exact Nat.mod_lt _ (by omega)
    have t1 : (at_ : Int) % (L : Int) = (c : Int) := by rw [hc]; rfl
    have t2 : (at_ : Int).tmod (L : Int) = (c : Int) := by rw [Int.tmod_eq_emod_of_nonneg (by omega)]; exact t1
    have t3 : ((L : Int) == 0) = false := beq_eq_false_iff_ne.2 (by omega)
    have t4 : (L : Int) ≠ 0 := by omega
    have hcut := getFr_cut (c := c) hk hp (by omega)
    have hbody := bodyL_byte hk hp hbp
    have hsl := sumX_lt hbody
    have hbe : ∀ x ∈ encFr kk p, 0 ≤ x ∧ x < 256 := encFr_byte hk hp hbp
    obtain ⟨y, hy⟩ : ∃ y, y = sumX (bodyL kk p) / 16777216 := ⟨_, rfl⟩
    have hyl : y < 256 := by omega
    have hlast : (encFr kk p)[L - 1]? = some (y : Int) := by
      have h := encFr_last kk p
      rw [hL] at h
      rw [h, hy]
      rfl
    obtain ⟨d, hd⟩ : ∃ d, d = 1 + by_ % 255 := ⟨_, rfl⟩
    have hdl : 0 < d ∧ d < 256 := by omega
    have u1 : (by_ : Int).tmod 255 = (by_ : Int) % 255 := by rw [Int.tmod_eq_emod_of_nonneg (by omega)]
    have u2 : IntKind.u8.wrap (1 + (by_ : Int) % 255) = (d : Int) := by rw [IntKind.wrap_u8]; omega
    have u3 : 1 + (by_ : Int) % 255 = (d : Int) := by omega
    have hxor := u8_xor_nat y d hyl hdl.2
    have hne : y ^^^ d ≠ y := by
      intro h
      have h2 : d = 0 := by
        have := congrArg (y ^^^ ·) h
        simp only [← Nat.xor_assoc, Nat.xor_self, Nat.zero_xor] at this
        exact this
      omega
    have hxl : y ^^^ d < 256 := Nat.xor_lt_two_pow (n := 8) hyl hdl.2
    have hlast5 := getFr_last (y := ((y ^^^ d : Nat) : Int)) hk hp (by omega)
    rw [hL] at hlast5
    generalize hef : encFr kk p = ef at hput hcut hlast5 hbe hlast hL
    generalize y ^^^ d = yy at hxor hlast5 hxl
    have htl : (ef.take c).length = c := by rw [List.length_take]; omega
    have hsl2 : (ef.set (L - 1) (yy : Int)).length = L := by rw [List.length_set, hL]
    have hbt : ∀ x ∈ ef.take c, 0 ≤ x ∧ x < 256 := fun x hx => hbe x (List.mem_of_mem_take hx)
    have hbs : ∀ x ∈ ef.set (L - 1) (yy : Int), 0 ≤ x ∧ x < 256 := fun x hx => by
      rcases List.mem_or_eq_of_mem_set hx with h | rfl
      · exact hbe x h
      · omega
    have hg1 := fun W A c' h => fget_any A c' (ef.take c) (by omega) W h hbt
    have hg2 := fun W A c' h => fget_any A c' (ef.set (L - 1) (yy : Int)) (by omega) W h hbs
    rw [hcut, htl] at hg1
    rw [hlast5, hsl2] at hg2
    simp only [noFr] at hg1 hg2
    obtain ⟨L9, hL9⟩ : ∃ L9, L9 = L - 1 := ⟨_, rfl⟩
    rw [← hL9] at hg2
    have HPUT := Lib.hid hput
    have HROW := Lib.hid hrow
    have HYY := Lib.hid hxl
    have HG1 := Lib.hid hg1
    have HG2 := Lib.hid hg2
    have HL := Lib.hid hL
    have HLAST := Lib.hid hlast
    have HTL := Lib.hid htl
    have hw1 : IntKind.i64.wrap ((L : Int) - 1) = ((L - 1 : Nat) : Int) := by rw [IntWalk.i64_in _ (by omega)]; omega
    have hw2 : (L : Int) - 1 = ((L - 1 : Nat) : Int) := by omega
    rw [← hL9] at hw1 hw2
    have i1 : (10 : Int) ≤ (L : Int) := by omega
    have i2 : (c : Int) ≤ (L : Int) := by omega
    have i3 : (L9 : Int) < (L : Int) := by omega
    have i4 : L9 < L := by omega
    have i5 : (0 : Int) ≤ (L9 : Int) := by omega
    have HL9 := Lib.hid hL9
    clear hput hg1 hg2 hL hlast htl hsl2 hbt hbs hcut hlast5 hbe hbody hsl hne hef hd hdl hc hy hlen hk hL9 hrow hbp hxl
    go_enter Try.func7, Try.ntmps7
    go_wp2_with fail
    refine (HPUT.out _ ((HROW.out.below ((Below.refl _ _).alloc (Nat.le_refl _) _)).more (by simp))).mono ?_
    rintro e w1 ⟨cap, g, rfl, hown, hb1⟩
    obtain ⟨q1, q2⟩ := own_cap hown
    have hgb := (hown.lt g rfl).1
    rw [World.size_alloc] at hgb hb1 hown
    have bw1 : Below w.heap.size w w1 := ((Below.refl _ _).alloc (Nat.le_refl _) _).trans (hb1.mono (by omega))
    have hrt := (Row.of_own hown).take (k := c) (by rw [HL.out]; omega)
    rw [HTL.out] at hrt
    have HRT := Lib.hid hrt
    have HOWN := Lib.hid hown
    have HBW1 := Lib.hid bw1
    have j1 : (c : Int) ≤ (cap : Int) := by omega
    have j2 : (L : Int) ≤ (cap : Int) := by omega
    have j3 : c ≤ cap := by omega
    clear hown hb1 bw1 hrt
    go_wp2_with fail
    refine (HG1.out _ _ _ HRT.out).mono ?_
    rintro e w2 ⟨A2, c2, rfl, hrow2, hb2⟩
    have hown2 := (own_below HOWN.out hb2).alloc (.cells #[.int .i64 0, .slice A2 0 c2] 36)
    have hcell : (w2.alloc (.cells #[.int .i64 0, .slice A2 0 c2] 36)).cell? ⟨g, L9, none⟩ = some (.int .u8 (y : Int)) := by
      rw [hown2.cellAt L9 (by omega), List.getElem?_map, HL9.out, HLAST.out]
      rfl
    have hfz := hown2.frozenAt L9
    have hst := (hown2.stored L9 (.int .u8 (yy : Int))).1
    rw [← List.map_set] at hst
    have hrs := Row.of_own hst
    have hbw2 : Below w.heap.size w (w2.alloc (.cells #[.int .i64 0, .slice A2 0 c2] 36)) := (HBW1.out.trans (hb2.mono HBW1.out.size)).alloc (by have := HBW1.out.size; have := hb2.size; omega) _
    have HBW2 := Lib.hid hbw2
    have HRS := Lib.hid hrs
    clear hown2 hst hrs hbw2 hb2 hrow2
    try simp only [List.length_nil]
    go_wp2_with fail
    refine (HG2.out _ _ _ HRS.out).mono ?_
    rintro e w4 ⟨A4, c4, rfl, hrow4, hb4⟩
    have hz2 := HBW2.out.size
    have bw4 : Below w.heap.size w w4 := (HBW2.out.setCell (p := ⟨g, L9, none⟩) (by simp only; omega) _).trans (hb4.mono (by simpa using hz2))
    have HBW4 := Lib.hid bw4
    clear hb4 hrow4 bw4
    try simp only [List.length_nil]
    go_wp2_with fail
    refine (ffix_any _).mono ?_
    rintro e w5 ⟨rfl, hb5⟩
    have b5 := (HBW4.out.alloc HBW4.out.size _).trans (hb5.mono (by have := HBW4.out.size; simp; omega))
    clear hb5
    go_wp2_with fail
    go_ret
    exact ⟨rfl, b5⟩
  · have HBAD := Lib.hid (fun W => fput_bad kk a0 cap0 p hmay hml W)
    clear hmay hrow hbp
    go_enter Try.func7, Try.ntmps7
    go_wp2_with fail
    refine (HBAD.out _).mono ?_
    rintro e w1 ⟨rfl, hb1⟩
    have bw1 : Below w.heap.size w w1 := ((Below.refl _ _).alloc (Nat.le_refl _) _).trans (hb1.mono (by simp))
    have HBW1 := Lib.hid bw1
    clear hb1 bw1
    go_wp2_with fail
    refine (ffix_any _).mono ?_
    rintro e w5 ⟨rfl, hb5⟩
    have b5 := HBW1.out.trans (hb5.mono HBW1.out.size)
    clear hb5
    go_wp2_with fail
    go_ret
    exact ⟨rfl, b5⟩

set_option maxRecDepth 100000 in
theorem lifted (os : Os) (started : os.Started) (H : Type) (enc : TypeId × Value → H) :
    ReturnsInHanded {} Try.checked os 7 .any (Rows.frameShortSpec.pre6 enc Try.prog Try.f7 Rows.frameShortRow.domain false) (Rows.frameShortSpec.post enc Try.prog Try.f7 false true false false) := by
  refine returnsInHanded_of_change (C := Try.checked) own started (by kernel_rfl) Try.func7
    (ChangeSpec.witness6 (enc := enc) (C := Try.checked) false ⟨#[], #[.agg #[.int .i64 0, .slice none 0 0], .int .u16 0, .int .u8 0], []⟩ 8 (by kernel_rfl) (by kernel_rfl) (by kernel_rfl) (by kernel_rfl)) ?_
  intro W base args ds gs before hval0 hW hcnd _
  have hval : ∀ (j : Nat) t v, Try.f7.params[j]? = some t → args[j]? = some v → Value.okWide Try.prog W .any base t v := hval0
  have hW' := hW
  obtain ⟨p, q, hA0, hV, rfl, hfz, hnd⟩ := hW
  have hA : DataW.TrodAll enc Try.prog W 0 (fun _ => true) true Try.f7.params.toList args.toList ds p := hA0
  rw [Try.params7] at hA hval
  obtain ⟨v0, vs0, d0, ds0, p0, q0, hargs, rfl, rfl, h0, r0⟩ := trodAll_cons hA
  obtain ⟨v1, vs1, d1, ds1, p1, q1, rfl, rfl, rfl, h1, r1⟩ := trodAll_cons r0
  obtain ⟨v2, vs2, d2, ds2, p2, q2, rfl, rfl, rfl, h2, r2⟩ := trodAll_cons r1
  obtain ⟨rfl, rfl, rfl⟩ := trodAll_nil r2
  obtain rfl : args = #[v0, v1, v2] := by cases args; simp_all
  obtain ⟨rfl, rfl⟩ := trodVars_none hV
  have k0 := h0
  have lt0 : ∀ x ∈ p0, x.block < W.heap.size := by obtain ⟨m, hm⟩ := k0; exact DataW.trod_lt m _ _ _ hm
  obtain ⟨fk, fp, y0, y1, nn, rfl, rfl, rfl, hfk, hfp⟩ := Joins.open_agg2 Try.underlying36 (by kernel_rfl) (by kernel_rfl) (hval 0 36 v0 rfl rfl) h0
  obtain ⟨kk, hkcs, hky, wk⟩ := DataW.trod_int Try.underlying3 hfk
  simp at hkcs
  subst hkcs
  obtain ⟨a0, len0, cap0, z0, rfl, w0⟩ : ∃ a0 len0 cap0 zs, fp = .slice a0 len0 cap0 ∧ IsRow .u8 W a0 len0 cap0 zs := by
    rcases open_ints Try.underlying22 Try.underlying5 (by kernel_rfl) hfp with ⟨hcs, _⟩ | ⟨x, l, c, zs, hcs, _, hl, hm, hz, _, hcell, hwz⟩
    · simp at hcs
      subst hcs
      exact ⟨none, 0, 0, [], rfl, .inl ⟨rfl, rfl, rfl, rfl⟩⟩
    · simp at hcs
      subst hcs
      exact ⟨some x, l, c, zs, rfl, .inr ⟨_, rfl, hl, hm, by simpa using hz, hcell, hwz⟩⟩
  obtain ⟨a1, rfl, rfl, rfl, w1⟩ := open_int Try.underlying32 (hval 1 32 v1 rfl rfl) h1
  obtain ⟨a2, rfl, rfl, rfl, w2⟩ := open_int Try.underlying5 (hval 2 5 v2 rfl rfl) h2
  clear hA0 hval0
  refine (walk kk a0 len0 cap0 z0 a1 a2 W wk w0 w1 w2).mono fun e W' ⟨he, bel⟩ => ?_
  subst he
  exact ⟨_, rfl, _, _, _, [], _, [], hW', trodAll_mk1 (shut_bool Try.underlying4 _), (trodAll_cons_mk (Below.trod laidOut (by kernel_rfl) (of_decide_eq_true (by kernel_rfl)) k0 bel lt0) (trodAll_cons_mk (shut_int Try.underlying32 w1) (trodAll_cons_mk (shut_int Try.underlying5 w2) (trodAll_mk0)))), rfl, bel.frame _, fun h => by cases h⟩

theorem over : Rows.frameShortRow.holds Try.pinned (OpenSpec.ofChange Rows.frameShortSpec) :=
  OpenClaim.holds_of_wide 7 Try.f7 rfl rfl rfl rfl rfl rfl rfl ⟨rfl, rfl, rfl, rfl, rfl⟩ rfl rfl rfl rfl rfl (by kernel_rfl) Try.func7 (by kernel_rfl)
    (of_decide_eq_true (by kernel_rfl)) (by unfold Func.isWrapper; first | (rw [if_pos (by decide +kernel)]; kernel_rfl) | (rw [if_neg (by decide +kernel)]; exact ⟨rfl, rfl⟩))
    (fun os started H enc _ => lifted os started H enc)

theorem proved : Rows.FrameShortSaid := over
#print axioms proved
end Go.Proofs.Ytbapmcocnhkjcaa.frameShort
