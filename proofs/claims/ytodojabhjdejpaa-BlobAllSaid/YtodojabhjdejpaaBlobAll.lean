/-
  At every slice of texts and every number the law on texts one behind the other answers true, and nothing that lay in memory has changed. No condition.
-/
import Derived.Test.YtodojabhjdejpaaRows
import Derived.WalkKit
import Derived.ProofKit
import Derived.OpenShut
import Derived.ShutString
import Derived.ChangeOld
import Derived.Below
import Derived.SliceStrings
import Derived.Test.YtodojabhjdejpaaBlobPut
import Derived.Test.YtodojabhjdejpaaBlobRefAll
namespace Go.Proofs.Ytodojabhjdejpaa.blobAll
open Go.Proofs.Ytodojabhjdejpaa
open Go.ChangeShapes Go.WideShapes Go.ChangeAt Go.RowKit
open Go.ChangeMaps (open_string shut_string)
set_option linter.unusedVariables false

theorem own : ownKnob Try.prog.godebug = none := by kernel_rfl
theorem laidOut : laidOutB Try.prog = true := by kernel_rfl

set_option maxRecDepth 100000 in
set_option maxHeartbeats 1000000 in
theorem walk (a0 : Option Addr) (len0 cap0 : Nat) (z0 : List ByteArray) (a1 : Int) (w : World) (w0 : IsStrs w a0 len0 cap0 z0) (w1 : (Lit.int .u16 a1).wf = true) :
    Calls Try.prog 9 #[.slice a0 len0 cap0, .int .u16 a1] w fun e w' => e = .returned (.bool true) ∧ Below w.heap.size w w' := by
  obtain ⟨b11, b12⟩ := bounds_u16 w1
  clear w1
  obtain ⟨ts, rfl, hrow, hts⟩ := VRow.of_strs w0
  clear w0
  obtain ⟨_, cs1, cs2⟩ := hrow.length
  rw [strVs_length] at cs1
  by_cases hgt : 60 < ts.length
  · have hgi : (60 : Int) < (ts.length : Int) := by omega
    go_enter Try.func9, Try.ntmps9
    go_wp2_with (go_at_call 20; refine (bfixed_any _).mono ?_; rintro e w3 ⟨rfl, hb3⟩)
    go_ret
    exact ⟨rfl, hb3⟩
  · have hle : ts.length ≤ 60 := by omega
    obtain ⟨n, hn⟩ : ∃ n, ts.length = n := ⟨_, rfl⟩
    rw [hn] at hle hrow cs1 ⊢
    clear hgt
    have HN := Lib.hid hn; clear hn
    have HROW := Lib.hid hrow; clear hrow
    have HTS := Lib.hid hts; clear hts
    go_enter Try.func9, Try.ntmps9
    go_wp2_with fail
    go_loopg [5, 6, 18] n (fun g b la i wr => ∃ (k : Nat) (Ab : Option Addr) (cb Lb La : Nat), k + g = n ∧ i = .int .i64 k ∧ b = .slice Ab Lb cb ∧ la = .int .i64 La ∧ Hid (Lb = (catT (ts.take k)).length) ∧ Hid (La = (catT (ts.take (k - 1))).length) ∧ Hid (∀ t ∈ ts.take k, t.length ≤ 300) ∧ Row wr wr.heap.size (.slice Ab Lb cb) (catT (ts.take k)) ∧ Below w.heap.size w wr)
    case atStart => exact ⟨0, none, 0, 0, 0, by omega, rfl, rfl, rfl, Lib.hid rfl, Lib.hid rfl, Lib.hid (by simp), Row.nil _ _, Below.refl _ _⟩
    case round =>
      obtain ⟨k, Ab, cb, Lb, La, hk, rfl, rfl, rfl, HLb, HLa, H300, hrow, hbw⟩ := hrel
      have hLb : Lb ≤ 18600 := by
        have h1 := catT_le 300 (by omega) _ H300.out
        have h2 : (ts.take k).length ≤ k := List.length_take_le _ _
        have h3 : (300 + 10) * (ts.take k).length ≤ 310 * k := Nat.mul_le_mul (by omega) h2
        rw [← HLb.out] at h1
        omega
      have HR := Lib.hid hrow; clear hrow
      by_cases hlt : k < n
      · obtain ⟨t, ht⟩ : ∃ t, ts[k]? = some t := ⟨_, List.getElem?_eq_getElem (by rw [HN.out]; exact hlt)⟩
        obtain ⟨hm, hby⟩ := HTS.out t (List.mem_of_getElem? ht)
        unfold maxLen at hm
        have hss : (strOfNums t).size = t.length := strOfNums_size t
        obtain ⟨X, d, hv, _, _, _, hcl⟩ := HROW.out.below hbw
        injection hv with q1 q2 q3
        subst q1
        obtain ⟨b, o, rfl, _, hc⟩ := hcl (by rw [strVs_length, HN.out]; omega)
        have hc1 := hc k _ (strVs_at ts ht)
        clear hcl hc q2 q3
        have HT := Lib.hid ht; clear ht
        have HBY := Lib.hid hby; clear hby
        have i1 : (k : Int) < (n : Int) := by omega
        by_cases h3 : 300 < t.length
        · go_wp2_with (go_at_call 20; refine (bfixed_any _).mono ?_; rintro e w3 ⟨rfl, hb3⟩)
          go_ret
          exact ⟨rfl, hbw.trans (hb3.mono hbw.size)⟩
        · have hrow' := HR.out
          have hLb' := HLb.out
          rw [hLb'] at hrow'
          have hp := bput_any Ab cb (catT (ts.take k)) t HBY.out (by omega) (by omega) wr hrow'
          rw [← hLb'] at hp
          clear hrow' hLb'
          have HP := Lib.hid hp; clear hp
          go_wp2_with (go_at_call 21; refine HP.out.mono ?_; rintro e w1 ⟨v1, rfl, hown1, hb1⟩)
          have hr1 := Row.of_own hown1
          rw [← catT_take_succ ts HT.out] at hr1
          obtain ⟨A1, c1, hv1, hr1'⟩ : ∃ A1 c1, v1 = .slice A1 (catT (ts.take (k + 1))).length c1 ∧ Row w1 w1.heap.size (.slice A1 (catT (ts.take (k + 1))).length c1) (catT (ts.take (k + 1))) := by
            obtain ⟨A1, c1, hv1, _⟩ := id hr1
            exact ⟨A1, c1, hv1, hv1 ▸ hr1⟩
          subst hv1
          clear hr1 hown1
          go_roundg (gk - 1)
          case measure => omega
          case rel =>
            refine ⟨k + 1, A1, c1, _, Lb, by omega, by go_num, rfl, rfl, Lib.hid rfl, Lib.hid (by rw [Nat.add_sub_cancel]; exact HLb.out), Lib.hid (fun x hx => ?_), hr1', hbw.trans (hb1.mono hbw.size)⟩
            have hT := HT.out
            obtain ⟨hk', hkt⟩ := List.getElem?_eq_some_iff.1 hT
            rw [List.take_succ_eq_append_getElem hk'] at hx
            rcases List.mem_append.1 hx with h | h
            · exact H300.out x h
            · simp only [List.mem_singleton] at h
              subst h
              rw [hkt]
              omega
      · obtain rfl : k = n := by omega
        have htk : ts.take k = ts := List.take_of_length_le (by rw [HN.out]; exact Nat.le_refl _)
        rw [htk] at HLb H300 HR
        have hen : ∀ s ∈ ts, s.length < 18446744073709551616 ∧ ¬ max (300 : Int) 0 < (s.length : Int) ∧ ∀ x ∈ s, 0 ≤ x ∧ x < 256 := fun s hs => by
          have h1 := H300.out s hs
          exact ⟨by omega, by omega, (HTS.out s hs).2⟩
        have hall : allT 300 (catT ts) = (ts, 0) := by
          have h := allT_cat (most := 300) [] (by simp) ts hen
          rw [List.append_nil, allT_nil] at h
          rw [h]
          simp [glue]
        have hcb : ∀ x ∈ catT ts, 0 ≤ x ∧ x < 256 := catT_bytes ts (fun s hs => ⟨(hen s hs).1, (hen s hs).2.2⟩)
        have hrow' := HR.out
        have hLb' := HLb.out
        rw [hLb'] at hrow'
        have ha := ball_any Ab cb (catT ts) 300 (by omega) (by omega) wr hrow' hcb (by omega)
        rw [hall, ← hLb'] at ha
        simp only [HN.out] at ha
        have HA := Lib.hid ha; clear ha hrow' hall hcb htk
        by_cases h0 : k = 0
        · subst h0
          have hl0 : ts = [] := List.eq_nil_of_length_eq_zero HN.out
          have hLb0 : Lb = 0 := by rw [hLb', hl0]; rfl
          have hLa0 : La = 0 := by rw [HLa.out, hl0]; rfl
          subst hLb0 hLa0
          clear hl0 hLb'
          go_wp2_with fail
          refine HA.out.mono ?_
          rintro e w1 ⟨v1, rfl, hown1, hb1⟩
          have b1 : Below w.heap.size w w1 := hbw.trans (hb1.mono hbw.size)
          have hv1 := VRow.of_own hown1
          clear hown1
          obtain ⟨A1, c1, hve, _, _⟩ := hv1.form
          rw [strVs_length, HN.out] at hve
          subst hve
          have hsame := same_any A1 a0 c1 cap0 _ _ (strVs ts) 0 (by rw [strVs_length]; exact HN.out) (strVs_str ts) w1 hv1 (HROW.out.below b1)
          have HSAME := Lib.hid hsame; clear hsame hv1
          go_wp2_with fail
          refine HSAME.out.mono ?_
          rintro e w2 ⟨rfl, hb2⟩
          have b2 : Below w.heap.size w w2 := b1.trans (hb2.mono b1.size)
          go_wp2_with fail
          refine (bfixed_any _).mono ?_
          rintro e w3 ⟨rfl, hb3⟩
          go_wp2_with fail
          go_ret
          exact ⟨rfl, b2.trans (hb3.mono b2.size)⟩
        · obtain ⟨pre, t, hpt⟩ : ∃ pre t, ts = pre ++ [t] := by
            rcases List.eq_nil_or_concat ts with h | ⟨pre, t, h⟩
            · exact absurd (by rw [← HN.out, h]; rfl) h0
            · exact ⟨pre, t, by simpa using h⟩
          obtain ⟨K, rfl⟩ : ∃ K, k = K + 1 := ⟨k - 1, by omega⟩
          have hpl : pre.length = K := by
            have := HN.out
            rw [hpt, List.length_append] at this
            simp at this
            omega
          have hLa' : La = (catT pre).length := by rw [HLa.out, hpt, Nat.add_sub_cancel, ← hpl, List.take_left]
          obtain ⟨D, hD⟩ : ∃ D, (encT t).length = D := ⟨_, rfl⟩
          have hLD : Lb = La + D := by rw [hLb', hpt, catT_snoc, List.length_append, hD, hLa']
          have hDp : 0 < D := by rw [← hD]; exact encT_pos (hen t (by rw [hpt]; simp)).1
          clear hLb'
          subst hLD
          have HPT := Lib.hid hpt; clear hpt
          have HPL := Lib.hid hpl; clear hpl
          have HLA := Lib.hid hLa'; clear hLa'
          have HD := Lib.hid hD; clear hD
          have HEN := Lib.hid hen; clear hen
          have hk0 : (0 : Int) < (K : Int) + 1 := by omega
          have hk1 : ((K : Int) + 1 == 0) = false := beq_eq_false_iff_ne.2 (by omega)
          go_wp2_with fail
          refine HA.out.mono ?_
          rintro e w1 ⟨v1, rfl, hown1, hb1⟩
          have b1 : Below w.heap.size w w1 := hbw.trans (hb1.mono hbw.size)
          have hv1 := VRow.of_own hown1
          clear hown1
          obtain ⟨A1, c1, hve, _, _⟩ := hv1.form
          rw [strVs_length, HN.out] at hve
          subst hve
          have hsame := same_any A1 a0 c1 cap0 _ _ (strVs ts) (K + 1) (by rw [strVs_length]; exact HN.out) (strVs_str ts) w1 hv1 (HROW.out.below b1)
          have HSAME := Lib.hid hsame; clear hsame hv1
          go_wp2_with fail
          refine HSAME.out.mono ?_
          rintro e w2 ⟨rfl, hb2⟩
          have b2 : Below w.heap.size w w2 := b1.trans (hb2.mono b1.size)
          have c2 : Below wr.heap.size wr w2 := hb1.trans (hb2.mono hb1.size)
          obtain ⟨R, hR, hRD⟩ : ∃ R : Nat, a1 % ((La : Int) + (D : Int) - (La : Int)) = R ∧ R < D := by
            have e : (La : Int) + (D : Int) - (La : Int) = D := by omega
            rw [e]
            have h1 := Int.emod_nonneg a1 (b := (D : Int)) (by omega)
            have h2 := Int.emod_lt_of_pos a1 (b := (D : Int)) (by omega)
            exact ⟨(a1 % (D : Int)).toNat, by omega, by omega⟩
          have hcap : La + D ≤ cb := by
            obtain ⟨_, _, hv, q1, q2, _, _⟩ := HR.out
            injection hv with e1 e2 e3
            rw [← HLb.out] at q1
            subst e3
            exact q1
          have hrow' := HR.out.below c2
          have hLb' := HLb.out
          have hrt := hrow'.take (k := La + R) (by rw [← hLb']; omega)
          have hcut : (catT ts).take (La + R) = catT pre ++ (encT t).take R := by
            rw [HPT.out, catT_snoc, HLA.out, List.take_length_add_append]
          have hl2 : ((catT ts).take (La + R)).length = La + R := by rw [List.length_take, ← hLb']; omega
          have hen1 := HEN.out
          rw [HPT.out] at hen1
          have hent := hen1 t (by simp)
          have hcb : ∀ x ∈ (catT ts).take (La + R), 0 ≤ x ∧ x < 256 := fun x hx => catT_bytes ts (fun s hs => ⟨(HEN.out s hs).1, (HEN.out s hs).2.2⟩) x (List.mem_of_mem_take hx)
          have hall : allT 300 ((catT ts).take (La + R)) = if R = 0 then (pre, 0) else ([], 2) := by
            rw [hcut, allT_cat _ (fun x hx => encT_bytes hent.1 hent.2.2 x (List.mem_of_mem_take hx)) pre (fun s hs => by have h := hen1 s (by simp [hs]); exact ⟨h.1, by have := h.2.1; omega, h.2.2⟩)]
            by_cases hR0 : R = 0
            · rw [hR0, List.take_zero, allT_nil, if_pos rfl]
              simp [glue]
            · have hgc := getT_cut (c := R) (most := 300) hent.1 (by have := hent.2.1; omega) (by rw [HD.out]; exact hRD)
              have hne : (encT t).take R ≠ [] := fun h => by
                have := congrArg List.length h
                rw [List.length_take, HD.out] at this
                simp at this
                omega
              rw [allT_err hne (by rw [hgc]; simp), hgc, if_neg hR0]
              simp [glue]
          have ha2 := ball_any Ab cb ((catT ts).take (La + R)) 300 (by omega) (by omega) w2 (hrt.more c2.size) hcb (by omega)
          rw [hall, hl2] at ha2
          clear hall hcb hent hen1 hl2 hcut hrt hLb' hrow'
          have HA2 := Lib.hid ha2; clear ha2
          have i1 : (0 : Int) ≤ (La : Int) + (R : Int) := by omega
          have i2 : (La : Int) + (R : Int) ≤ (cb : Int) := by omega
          have i3 : ((La : Int) + (R : Int)).toNat = La + R := by omega
          by_cases hR0 : R = 0
          · subst hR0
            rw [if_pos rfl] at HA2
            simp only [HPL.out] at HA2
            have htp : (strVs ts).take K = strVs pre := by rw [strVs_take, HPT.out, ← HPL.out, List.take_left]
            have hvt := HROW.out.take (k := K) (by rw [strVs_length, HN.out]; omega)
            rw [htp, strVs_length, HPL.out] at hvt
            have HVT := Lib.hid hvt; clear hvt htp
            have j1 : (0 : Int) ≤ (K : Int) := by omega
            have j2 : (K : Int) ≤ (cap0 : Int) := by omega
            go_wp2_with fail
            refine HA2.out.mono ?_
            rintro e w3 ⟨v3, rfl, hown3, hb3⟩
            have b3 : Below w.heap.size w w3 := b2.trans (hb3.mono b2.size)
            have hv3 := VRow.of_own hown3
            clear hown3
            obtain ⟨A3, c3, hve, _, _⟩ := hv3.form
            rw [strVs_length, HPL.out] at hve
            subst hve
            have HV3 := Lib.hid hv3; clear hv3
            go_wp2_with fail
            refine (bfixed_any _).mono ?_
            rintro e w4 ⟨rfl, hb4⟩
            have b4 : Below w.heap.size w w4 := b3.trans (hb4.mono b3.size)
            have hsame2 := same_any A3 a0 c3 cap0 _ _ (strVs pre) K (by rw [strVs_length]; exact HPL.out) (strVs_str pre) w4 (HV3.out.below hb4) (HVT.out.below b4)
            have HSAME2 := Lib.hid hsame2; clear hsame2
            go_wp2_with fail
            refine HSAME2.out.mono ?_
            rintro e w5 ⟨rfl, hb5⟩
            go_wp2_with fail
            go_ret
            exact ⟨rfl, b4.trans (hb5.mono b4.size)⟩
          · rw [if_neg hR0] at HA2
            have hbr : ((La : Int) + (R : Int) == (La : Int)) = false := beq_eq_false_iff_ne.2 (by omega)
            go_wp2_with fail
            refine HA2.out.mono ?_
            rintro e w3 ⟨v3, rfl, hown3, hb3⟩
            have b3 : Below w.heap.size w w3 := b2.trans (hb3.mono b2.size)
            have hv3 := VRow.of_own hown3
            clear hown3
            obtain ⟨A3, c3, hve, _, _⟩ := hv3.form
            subst hve
            have hz : (strVs []).length = 0 := rfl
            clear hv3
            go_wp2_with fail
            refine (bfixed_any _).mono ?_
            rintro e w4 ⟨rfl, hb4⟩
            go_wp2_with fail
            go_ret
            exact ⟨rfl, b3.trans (hb4.mono b3.size)⟩

set_option maxRecDepth 100000 in
theorem lifted (os : Os) (started : os.Started) (H : Type) (enc : TypeId × Value → H) :
    ReturnsInHanded {} Try.checked os 9 .any (Rows.blobAllSpec.pre6 enc Try.prog Try.f9 Rows.blobAllRow.domain false) (Rows.blobAllSpec.post enc Try.prog Try.f9 false true false false) := by
  refine returnsInHanded_of_change (C := Try.checked) own started (by kernel_rfl) Try.func9
    (ChangeSpec.witness6 (enc := enc) (C := Try.checked) false ⟨#[], #[.slice none 0 0, .int .u16 0], []⟩ 8 (by kernel_rfl) (by kernel_rfl) (by kernel_rfl) (by kernel_rfl)) ?_
  intro W base args ds gs before hval0 hW hcnd _
  have hval : ∀ (j : Nat) t v, Try.f9.params[j]? = some t → args[j]? = some v → Value.okWide Try.prog W .any base t v := hval0
  have hW' := hW
  obtain ⟨p, q, hA0, hV, rfl, hfz, hnd⟩ := hW
  have hA : DataW.TrodAll enc Try.prog W 0 (fun _ => true) true Try.f9.params.toList args.toList ds p := hA0
  rw [Try.params9] at hA hval
  obtain ⟨v0, vs0, d0, ds0, p0, q0, hargs, rfl, rfl, h0, r0⟩ := trodAll_cons hA
  obtain ⟨v1, vs1, d1, ds1, p1, q1, rfl, rfl, rfl, h1, r1⟩ := trodAll_cons r0
  obtain ⟨rfl, rfl, rfl⟩ := trodAll_nil r1
  obtain rfl : args = #[v0, v1] := by cases args; simp_all
  obtain ⟨rfl, rfl⟩ := trodVars_none hV
  obtain ⟨a0, len0, cap0, rfl⟩ := okWide_slice Try.underlying46 (hval 0 46 v0 rfl rfl)
  have k0 := h0
  have lt0 : ∀ x ∈ p0, x.block < W.heap.size := by obtain ⟨m, hm⟩ := k0; exact DataW.trod_lt m _ _ _ hm
  obtain ⟨z0, w0⟩ : ∃ ss, IsStrs W a0 len0 cap0 ss := by
    obtain ⟨fuel, hf⟩ := h0
    rcases open_strings Try.underlying46 Try.underlying9 (by kernel_rfl) hf with ⟨hcs, _⟩ | ⟨x, l, c, ss, hcs, _, hl, hm, hz, _, hcell, hws⟩
    · simp [Value.cells] at hcs
      obtain ⟨rfl, rfl, rfl⟩ := hcs
      exact ⟨[], .inl ⟨rfl, rfl, rfl, rfl⟩⟩
    · simp [Value.cells] at hcs
      obtain ⟨rfl, rfl, rfl⟩ := hcs
      exact ⟨ss, .inr ⟨_, rfl, hl, hm, by simpa using hz, hcell, hws⟩⟩
  obtain ⟨a1, rfl, rfl, rfl, w1⟩ := open_int Try.underlying53 (hval 1 53 v1 rfl rfl) h1
  clear hA0 hval0
  refine (walk a0 len0 cap0 z0 a1 W w0 w1).mono fun e W' ⟨he, bel⟩ => ?_
  subst he
  exact ⟨_, rfl, _, _, _, [], _, [], hW', trodAll_mk1 (shut_bool Try.underlying4 _), (trodAll_cons_mk (Below.trod laidOut (by kernel_rfl) (of_decide_eq_true (by kernel_rfl)) k0 bel lt0) (trodAll_cons_mk (shut_int Try.underlying53 w1) trodAll_mk0)), rfl, bel.frame _, fun h => by cases h⟩

theorem over : Rows.blobAllRow.holds Try.pinned (OpenSpec.ofChange Rows.blobAllSpec) :=
  OpenClaim.holds_of_wide 9 Try.f9 rfl rfl rfl rfl rfl rfl rfl ⟨rfl, rfl, rfl, rfl, rfl⟩ rfl rfl rfl rfl rfl (by kernel_rfl) Try.func9 (by kernel_rfl)
    (of_decide_eq_true (by kernel_rfl)) (by unfold Func.isWrapper; first | (rw [if_pos (by decide +kernel)]; kernel_rfl) | (rw [if_neg (by decide +kernel)]; exact ⟨rfl, rfl⟩))
    (fun os started H enc _ => lifted os started H enc)

theorem proved : Rows.BlobAllSaid := over
#print axioms proved
end Go.Proofs.Ytodojabhjdejpaa.blobAll

