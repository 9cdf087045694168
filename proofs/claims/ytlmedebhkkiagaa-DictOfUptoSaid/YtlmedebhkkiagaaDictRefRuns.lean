/-
  The document's Runs.
-/
import Derived.Test.YtlmedebhkkiagaaDictRuns
import Derived.Test.YtlmedebhkkiagaaSigKit
namespace Go.Proofs.Ytlmedebhkkiagaa
open Go.RowKit Go.ChangeShapes Go.WideShapes

/-- Has shape s not come ahead of both places? -/
def firstB (S : List Sh) (s : Sh) (i j : Nat) : Bool := !(S.take (min j i)).contains s
theorem firstB_zero (S : List Sh) (s : Sh) (i : Nat) : firstB S s i 0 = true := by simp [firstB]
theorem firstB_same {S : List Sh} {s : Sh} {i j : Nat} (h : S[j]? = some s) : firstB S s i (j + 1) = (firstB S s i j && decide (i ≤ j)) := by
  unfold firstB
  by_cases hij : i ≤ j
  · rw [Nat.min_eq_right hij, Nat.min_eq_right (by omega), decide_eq_true hij, Bool.and_true]
  · rw [Nat.min_eq_left (by omega), decide_eq_false hij, Bool.and_false, take_one h]
    simp
theorem firstB_other {S : List Sh} {s t : Sh} {i j : Nat} (h : S[j]? = some t) (hne : t ≠ s) : firstB S s i (j + 1) = firstB S s i j := by
  unfold firstB
  by_cases hij : i ≤ j
  · rw [Nat.min_eq_right hij, Nat.min_eq_right (by omega)]
  · rw [Nat.min_eq_left (by omega), Nat.min_eq_left (by omega), take_one h]
    simp [hne.symm]
theorem firstB_end {S : List Sh} {s : Sh} {i n : Nat} (h : i ≤ n) : firstB S s i n = !decide (s ∈ S.take i) := by
  unfold firstB
  rw [Nat.min_eq_right h]
  simp
theorem count_same {S : List Sh} {s : Sh} {j : Nat} (h : S[j]? = some s) : (S.take (j + 1)).count s = (S.take j).count s + 1 := by rw [take_one h, count_snoc, if_pos rfl]
theorem count_other {S : List Sh} {s t : Sh} {j : Nat} (h : S[j]? = some t) (hne : t ≠ s) : (S.take (j + 1)).count s = (S.take j).count s := by rw [take_one h, count_snoc, if_neg hne, Nat.add_zero]

set_option maxRecDepth 100000 in
set_option maxHeartbeats 2000000 in
theorem rruns_any (A : Option Addr) (c : Nat) (evs : List Em) (w : World) (hrow : EvRow w w.heap.size (.slice A evs.length c) evs) (hn : evs.length ≤ 1000000000) :
    Calls Try.prog 27 #[.slice A evs.length c] w fun e w' => ∃ v, e = .returned v ∧ w'.ownsRow w.heap.size 3 1 v (runsD (shps evs) (shps evs)).length (natVs (runsD (shps evs) (shps evs))) ∧ Below w.heap.size w w' := by
  obtain ⟨i0, hi, hz0, hz1, hz2⟩ := info_parts Try.infoInt13
  obtain ⟨-, hc1, hc2⟩ := hrow.1.len
  have HEV := Lib.hid hrow
  clear hrow
  obtain ⟨S, hS⟩ : ∃ S, shps evs = S := ⟨_, rfl⟩
  have HS := Lib.hid hS
  have hsl : S.length = evs.length := by rw [← hS]; exact List.length_map _
  have HSL := Lib.hid hsl
  rw [hS]
  clear hS hsl
  obtain ⟨N, hN⟩ : ∃ N, w.heap.size = N := ⟨_, rfl⟩
  have HO0 := Lib.hid (show (w.alloc (.cells #[] 3)).ownsRow N 3 1 (.slice (some ⟨w.heap.size, 0, none⟩) 0 0) 0 [] from own_none (by omega))
  have HB0 := Lib.hid (show Below N w (w.alloc (.cells #[] 3)) from (Below.refl _ _).alloc (by omega) _)
  rw [hN] at HEV HO0 ⊢
  go_enter Try.func27, Try.ntmps27
  go_wp2_with fail
  go_loopg [3, 4] evs.length (fun gk v0 i wr => ∃ (k : Nat) (v : Value), k ≤ evs.length ∧ v = v0 ∧ i = .int .i64 k ∧ Hid (evs.length - k = gk) ∧ Hid (wr.ownsRow N 3 1 v (runsD (S.take k) S).length (natVs (runsD (S.take k) S))) ∧ Hid (Below N w wr))
  case atStart => exact ⟨0, _, Nat.zero_le _, rfl, rfl, Lib.hid rfl, HO0, HB0⟩
  case round =>
    obtain ⟨k, v, hk, rfl, rfl, HGK, HO, HB⟩ := hrel
    by_cases hlt : k < evs.length
    · obtain ⟨x, hx⟩ : ∃ x, evs[k]? = some x := ⟨_, List.getElem?_eq_getElem hlt⟩
      have hz := HB.out.size
      have HSX := Lib.hid (show S[k]? = some (shp x) by rw [← HS.out]; exact shps_at hx)
      have HX := Lib.hid hx
      clear hx
      obtain ⟨wo, hwo⟩ : ∃ wo, wo = wr := ⟨_, rfl⟩
      subst hwo
      go_wp2_with fail
      go_loopg [5, 6, 7] evs.length (fun gm n0 f0 i wr2 => ∃ j : Nat, j ≤ evs.length ∧ n0 = .int .i64 ((S.take j).count (shp x) : Nat) ∧ f0 = .bool (firstB S (shp x) k j) ∧ i = .int .i64 j ∧ Hid (evs.length - j = gm) ∧ Hid (wr2.ownsRow N 3 1 v (runsD (S.take k) S).length (natVs (runsD (S.take k) S))) ∧ Hid (Below N w wr2))
      case atStart => exact ⟨0, Nat.zero_le _, by simp, by rw [firstB_zero], rfl, Lib.hid rfl, HO, HB⟩
      case round =>
        obtain ⟨j, hj, rfl, rfl, rfl, HGM, HO2, HB2⟩ := hrel
        by_cases hjl : j < evs.length
        · obtain ⟨y, hy⟩ : ∃ y, evs[j]? = some y := ⟨_, List.getElem?_eq_getElem hjl⟩
          have hSy : S[j]? = some (shp y) := by rw [← HS.out]; exact shps_at hy
          obtain ⟨b, o, e1, hb, u0, u1, _, hl3, hl4⟩ := (HEV.out.below HB2.out).at hy
          obtain ⟨b', o', e2, hb', t0, t1, _, hl5, hl6⟩ := (HEV.out.below HB2.out).at HX.out
          rw [e1] at e2
          injection e2 with e2
          injection e2 with e2 e3 _
          subst e2 e3
          have hcl : (S.take j).count (shp x) ≤ 1000000000 := Nat.le_trans List.count_le_length (by have := List.length_take_le j S; omega)
          have hsx : shp x = (x.p, x.args.length) := rfl
          have hsy : shp y = (y.p, y.args.length) := rfl
          obtain ⟨ya, hya⟩ : ∃ ya, y.args.length = ya := ⟨_, rfl⟩
          obtain ⟨xa, hxa⟩ : ∃ xa, x.args.length = xa := ⟨_, rfl⟩
          obtain ⟨yA, hyA⟩ : ∃ yA, y.A = yA := ⟨_, rfl⟩
          obtain ⟨xA, hxA⟩ : ∃ xA, x.A = xA := ⟨_, rfl⟩
          obtain ⟨yp, hyp⟩ : ∃ yp, y.p = yp := ⟨_, rfl⟩
          obtain ⟨xp, hxp⟩ : ∃ xp, x.p = xp := ⟨_, rfl⟩
          rw [hyA, hya] at u1
          rw [hxA, hxa] at t1
          rw [hyp] at u0
          rw [hxp] at t0
          rw [hya] at hl3
          rw [hxa] at hl5
          rw [hyp, hya] at hsy
          rw [hxp, hxa] at hsx
          have hb2s : ∀ W : World, W.heap = wr.heap → True := fun _ _ => trivial
          have HSY := Lib.hid hSy
          have HXY := Lib.hid (And.intro hsx hsy)
          obtain ⟨C, hC⟩ : ∃ C, (S.take j).count (shp x) = C := ⟨_, rfl⟩
          obtain ⟨F, hF⟩ : ∃ F, firstB S (shp x) k j = F := ⟨_, rfl⟩
          have HCF := Lib.hid (And.intro hC hF)
          rw [hC] at hcl ⊢
          rw [hF]
          clear hb2s hy hya hxa hyA hxA hyp hxp hsx hsy hC hF hSy
          subst e1
          by_cases hp : yp = xp
          · by_cases hln : ya = xa
            · subst hp hln
              have hpe : (yp == yp) = true := by simp
              have hle : ((ya : Int) == (ya : Int)) = true := by simp
              have hsame : shp y = shp x := by rw [HXY.out.1, HXY.out.2]
              have HC' := Lib.hid (count_same (hsame ▸ HSY.out))
              have HF' := Lib.hid (firstB_same (i := k) (hsame ▸ HSY.out))
              rw [HCF.out.1] at HC'
              rw [HCF.out.2] at HF'
              clear hsame
              by_cases hkj : k ≤ j
              · have hge : (k : Int) ≤ (j : Int) := by omega
                rw [decide_eq_true hkj, Bool.and_true] at HF'
                go_wp2_with fail
                go_quiet (fail)
                cases F with
                | false =>
                  go_wp2_with fail
                  go_roundg (evs.length - (j + 1))
                  case measure => have := HGM.out; omega
                  case rel => exact ⟨j + 1, by omega, by rw [HC'.out]; go_num, by rw [HF'.out], by go_num, Lib.hid rfl, HO2, Lib.hid (HB2.out.trans (drewN_low _ _ _))⟩
                | true =>
                  go_wp2_with fail
                  go_roundg (evs.length - (j + 1))
                  case measure => have := HGM.out; omega
                  case rel => exact ⟨j + 1, by omega, by rw [HC'.out]; go_num, by rw [HF'.out], by go_num, Lib.hid rfl, HO2, Lib.hid (HB2.out.trans (drewN_low _ _ _))⟩
              · have hge : ¬ (k : Int) ≤ (j : Int) := by omega
                rw [decide_eq_false hkj, Bool.and_false] at HF'
                go_wp2_with fail
                go_quiet (fail)
                cases F with
                | false =>
                  go_wp2_with fail
                  go_roundg (evs.length - (j + 1))
                  case measure => have := HGM.out; omega
                  case rel => exact ⟨j + 1, by omega, by rw [HC'.out]; go_num, by rw [HF'.out], by go_num, Lib.hid rfl, HO2, Lib.hid (HB2.out.trans (drewN_low _ _ _))⟩
                | true =>
                  go_wp2_with fail
                  go_roundg (evs.length - (j + 1))
                  case measure => have := HGM.out; omega
                  case rel => exact ⟨j + 1, by omega, by rw [HC'.out]; go_num, by rw [HF'.out], by go_num, Lib.hid rfl, HO2, Lib.hid (HB2.out.trans (drewN_low _ _ _))⟩
            · subst hp
              have hpe : (yp == yp) = true := by simp
              have hle : ((ya : Int) == (xa : Int)) = false := beq_eq_false_iff_ne.2 (by omega)
              have hne : shp y ≠ shp x := by rw [HXY.out.1, HXY.out.2]; simp [hln]
              have HC' := Lib.hid (count_other HSY.out hne)
              have HF' := Lib.hid (firstB_other (i := k) HSY.out hne)
              rw [HCF.out.1] at HC'
              rw [HCF.out.2] at HF'
              clear hne hln
              go_wp2_with fail
              go_quiet (fail)
              go_wp2_with fail
              go_roundg (evs.length - (j + 1))
              case measure => have := HGM.out; omega
              case rel => exact ⟨j + 1, by omega, by rw [HC'.out], by rw [HF'.out], by go_num, Lib.hid rfl, HO2, Lib.hid (HB2.out.trans (drewN_low _ _ _))⟩
          · have hpe : (yp == xp) = false := beq_eq_false_iff_ne.2 hp
            have hne : shp y ≠ shp x := by rw [HXY.out.1, HXY.out.2]; simp [hp]
            have HC' := Lib.hid (count_other HSY.out hne)
            have HF' := Lib.hid (firstB_other (i := k) HSY.out hne)
            rw [HCF.out.1] at HC'
            rw [HCF.out.2] at HF'
            clear hne hp
            go_wp2_with fail
            go_quiet (fail)
            go_wp2_with fail
            go_roundg (evs.length - (j + 1))
            case measure => have := HGM.out; omega
            case rel => exact ⟨j + 1, by omega, by rw [HC'.out], by rw [HF'.out], by go_num, Lib.hid rfl, HO2, Lib.hid (HB2.out.trans (drewN_low _ _ _))⟩
        · obtain rfl : j = evs.length := by omega
          have HFE := Lib.hid (firstB_end (S := S) (s := shp x) (i := k) (n := evs.length) (by omega))
          have HRF := Lib.hid (runsD_ref (F := S) HSX.out)
          have htk : S.take evs.length = S := List.take_of_length_le (by rw [HSL.out]; exact Nat.le_refl _)
          rw [htk]
          obtain ⟨C, hC⟩ : ∃ C, S.count (shp x) = C := ⟨_, rfl⟩
          have HCC := Lib.hid hC
          rw [hC] at HRF ⊢
          obtain ⟨F, hF⟩ : ∃ F, firstB S (shp x) k evs.length = F := ⟨_, rfl⟩
          rw [hF] at HFE ⊢
          have hRl : (runsD (S.take k) S).length ≤ 1000000000 := by
            rw [runsD_length]
            have h1 := firstsS_le (S.take k)
            have h2 := List.length_take_le k S
            omega
          clear htk hC hF
          have hz2' := HB2.out.size
          by_cases hm : shp x ∈ S.take k
          · rw [if_pos hm] at HRF
            have hF' : F = false := by rw [HFE.out, decide_eq_true hm]; rfl
            subst hF'
            rw [← HRF.out] at HO2
            clear hm
            go_wp2_with fail
            go_roundg (evs.length - (k + 1))
            case measure => have := HGK.out; omega
            case rel => exact ⟨k + 1, _, by omega, rfl, by go_num, Lib.hid rfl, HO2, HB2⟩
          · rw [if_neg hm] at HRF
            have hF' : F = true := by rw [HFE.out, decide_eq_false hm]; rfl
            subst hF'
            obtain ⟨R, hR⟩ : ∃ R, runsD (S.take k) S = R := ⟨_, rfl⟩
            rw [hR] at HO2 HRF hRl
            obtain ⟨m, hmm⟩ : ∃ m, R.length = m := ⟨_, rfl⟩
            have HMM := Lib.hid hmm
            rw [hmm] at HO2 hRl
            obtain ⟨w5, hw5⟩ : ∃ w5, wr.alloc (.cells #[.int .i64 C] 3) = w5 := ⟨_, rfl⟩
            have b5 : Below wr.heap.size wr w5 := by rw [← hw5]; exact (Below.refl _ _).alloc (Nat.le_refl _) _
            have h5 : Held w5 wr.heap.size 3 #[.int .i64 C] := by rw [← hw5]; exact heap_alloc_new wr _
            have HO5 := Lib.hid (own_below HO2.out b5)
            have HE5 := Lib.hid (ERow.held (us := [.int .i64 C]) (n := 1) (B := wr.heap.size + 1) h5 (Nat.lt_succ_self _) (by unfold maxLen; omega))
            have HB5 := Lib.hid (HB2.out.trans (b5.mono (by omega)))
            have hz5 := b5.size
            clear hm b5 h5 hR hmm
            go_wp2_with (at_builtin; refine wpList_append_erow _ rfl _ _ 62 3 rfl N i0 (.int .i64 0) 1 8 Try.underlying62 hi hz0 hz1 hz2 rfl (by decide) v m (natVs R) (by rfl) HO5.out (wr.heap.size + 1) _ 1 [.int .i64 C] (by rfl) HE5.out rfl (by simp [Value.oneCell']) (by simp only [maxLen]; omega) (by omega) (by omega) (m + 1) rfl (natVs (R ++ [C])) (natVs_snoc R C).symm ?_; intro A6 c6 w6 hown6 hg6 hat6; have HG6 := Lib.hid hg6; have HO6 := Lib.hid hown6; clear hg6 hown6 hat6)
            have hb6 : Below N w w6 := HB5.out.grown HG6.out (by omega) (fun j ej => (HO5.out.lt j ej).1)
            go_roundg (evs.length - (k + 1))
            case measure => have := HGK.out; omega
            case rel =>
              refine ⟨k + 1, _, by omega, rfl, by go_num, Lib.hid rfl, Lib.hid ?_, Lib.hid hb6⟩
              rw [HRF.out, List.length_append, HMM.out]
              exact HO6.out
    · obtain rfl : k = evs.length := by omega
      have HJ := HO
      rw [List.take_of_length_le (by rw [HSL.out]; exact Nat.le_refl _)] at HJ
      go_wp2_with fail
      go_ret
      exact ⟨_, rfl, HJ.out, HB.out⟩
#print axioms rruns_any
/-- Such an answer, its slice written out. -/
theorem runs_form {w : World} {f : FuncId} {args : Array Value} {R : List Nat} (h : Calls Try.prog f args w fun e w' => ∃ v, e = .returned v ∧ w'.ownsRow w.heap.size 3 1 v R.length (natVs R) ∧ Below w.heap.size w w') :
    Calls Try.prog f args w fun e w' => ∃ A c, e = .returned (.slice A R.length c) ∧ w'.ownsRow w.heap.size 3 1 (.slice A R.length c) R.length (natVs R) ∧ Below w.heap.size w w' :=
  h.mono fun e w' ⟨v, he, ho, hb⟩ => by
    obtain ⟨A, c, rfl⟩ := own_form ho
    exact ⟨A, c, he, ho, hb⟩
/-- A trace whose arguments are not too many. -/
def TrB (l : List Pm) : Prop := nT l ≤ 1048576 ∧ ∀ d ∈ l, d.evs.length ≤ 1048576
end Go.Proofs.Ytlmedebhkkiagaa
