/-
  At every trace of bulk at most 1048576 the law on a trace's dictionary and on how many events of each shape its points have returns true, and nothing that lay in memory has changed. The condition is that of the statement's second form (no more than 1048576 values and letters).
-/
import Derived.Test.YtlmedebhkkiagaaRows
import Derived.WalkKit
import Derived.ProofKit
import Derived.OpenShut
import Derived.ShutString
import Derived.ChangeOld
import Derived.Below
import Derived.Deep.RegionHeld3
import Derived.Lib.SmallJoins
import Derived.Deep.LoopGhost
import Derived.JoinedCond
import Derived.Test.YtlmedebhkkiagaaTextsSame
import Derived.Test.YtlmedebhkkiagaaDictRefRuns
import Derived.Test.YtlmedebhkkiagaaTraceGreat
import Derived.Test.YtlmedebhkkiagaaTraceBulk
namespace Go.Proofs.Ytlmedebhkkiagaa.dictOf
open Go.Proofs.Ytlmedebhkkiagaa
open Go.ChangeShapes Go.WideShapes Go.ChangeAt Go.RowKit
open Go.ChangeMaps (open_string shut_string)
set_option linter.unusedVariables false

theorem own : ownKnob Try.prog.godebug = none := by kernel_rfl
theorem laidOut : laidOutB Try.prog = true := by kernel_rfl

set_option maxRecDepth 100000 in
set_option maxHeartbeats 2000000 in
theorem walk (a0 : Option Addr) (len0 cap0 : Nat) (l0 : List Pm) (w : World) (w0 : l0.length = len0 ∧ TrRow w w.heap.size (.slice a0 len0 cap0) l0 ∧ TrB l0) :
    Calls Try.prog 5 #[.slice a0 len0 cap0] w fun e w' => e = .returned (.bool true) ∧ Below w.heap.size w w' := by
  obtain ⟨rfl, htr0, hnT, hnE⟩ := w0
  obtain ⟨-, hc1, hc2⟩ := htr0.1.len
  have HFX := Lib.hid (fun W => fix13_any W)
  have HG0 := Lib.hid (tgreat_any a0 cap0 l0 2000 w htr0)
  have HTR := Lib.hid (fun W (h : Below w.heap.size w W) => htr0.below h)
  have HOF := Lib.hid (fun W (h : Below w.heap.size w W) => dof_any a0 cap0 l0 W ((htr0.below h).more h.size) (by omega))
  have HRF := Lib.hid (fun W (h : Below w.heap.size w W) => rof13_any a0 cap0 l0 W ((htr0.below h).more h.size) (by omega))
  have HNE := Lib.hid hnE
  have hlen := (addT_ok l0 []).high
  have hnd := (addT_ok l0 []).nodup List.nodup_nil
  simp only [List.length_nil, Nat.zero_add] at hlen
  obtain ⟨L, hL⟩ : ∃ L, addT [] l0 = L := ⟨_, rfl⟩
  rw [hL] at hlen hnd
  simp only [hL] at HOF HRF
  have hll : L.length ≤ 1048576 := by omega
  have HND := Lib.hid hnd
  clear htr0 hnE hnT hlen hnd hL
  go_enter Try.func5, Try.ntmps5
  go_wp2_with fail
  refine HG0.out.mono ?_
  rintro e w2 ⟨⟨g, rfl⟩, hb2⟩
  have HB2 := Lib.hid hb2
  clear hb2
  cases g with
  | true =>
    go_wp2_with fail
    refine (HFX.out _).mono ?_
    rintro e w3 ⟨rfl, hb3⟩
    have HB3 := Lib.hid (HB2.out.trans (hb3.mono HB2.out.size))
    clear hb3
    go_wp2_with fail
    go_ret
    exact ⟨rfl, HB3.out⟩
  | false =>
    go_wp2_with fail
    refine (HOF.out _ HB2.out).mono ?_
    rintro e w3 ⟨D, r, v, rfl, hd, hb3⟩
    have hz2 := HB2.out.size
    have hz3 := hb3.size
    have HB3 := Lib.hid (HB2.out.trans (hb3.mono hz2))
    have HD3 := Lib.hid hd
    have HAL3 := Lib.hid (dall_any hd (by omega))
    clear hd hb3 HOF
    go_wp2_with fail
    refine HAL3.out.mono ?_
    rintro e w4 ⟨Aa, ca, rfl, ho4, hb4⟩
    have hz4 := hb4.size
    have HB4 := Lib.hid (HB3.out.trans (hb4.mono (by omega)))
    have HD4 := Lib.hid (HD3.out.below hb4)
    have HO4 := Lib.hid ho4
    clear hb4 ho4 HAL3
    go_wp2_with fail
    refine (HRF.out _ HB4.out).mono ?_
    rintro e w5 ⟨v5, rfl, hor, hb5⟩
    have hz5 := hb5.size
    have HB5 := Lib.hid (HB4.out.trans (hb5.mono (by omega)))
    have HD5 := Lib.hid (HD4.out.below hb5)
    have ho5 := own_below HO4.out hb5
    obtain ⟨Ax, cx, hvx, hcx1, hcx2⟩ := (ERow.of_own hor.1).form
    subst hvx
    have HSM := Lib.hid (tsame2_any Aa Ax ca cx _ _ (strVs L) L.length (strVs_length L) (strVs_str L) w5 (VRow.of_own ho5) (VRow.of_own hor.1))
    clear hb5 hor ho5 HRF
    go_wp2_with fail
    refine HSM.out.mono ?_
    rintro e w6 ⟨rfl, hb6⟩
    have hz6 := hb6.size
    have HB6 := Lib.hid (HB5.out.trans (hb6.mono (by omega)))
    have HD6 := Lib.hid (HD5.out.below hb6)
    have HAL6 := Lib.hid (dall_any HD6.out (by omega))
    clear hb6 HSM
    go_wp2_with fail
    refine HAL6.out.mono ?_
    rintro e w7 ⟨A7, c7, rfl, ho7, hb7⟩
    have hz7 := hb7.size
    have HB7 := Lib.hid (HB6.out.trans (hb7.mono (by omega)))
    have HD7 := Lib.hid (HD6.out.below hb7)
    have HO7 := Lib.hid (ERow.of_own ho7)
    obtain ⟨-, hc71, hc72⟩ := HO7.out.len
    clear hb7 ho7 HAL6
    go_wp2_with fail
    go_loopg [34] L.length (fun gk i wr => ∃ k : Nat, k ≤ L.length ∧ i = .int .i64 k ∧ Hid (L.length - k = gk) ∧ wr = w7)
    case atStart => exact ⟨0, Nat.zero_le _, rfl, Lib.hid rfl, rfl⟩
    case round =>
      obtain ⟨k, hk, rfl, HGK, rfl⟩ := hrel
      by_cases hlt : k < L.length
      · obtain ⟨t, ht⟩ : ∃ t, L[k]? = some t := ⟨_, List.getElem?_eq_getElem hlt⟩
        obtain ⟨b, o, rfl, _, hcl⟩ := HO7.out.block (by omega)
        have x1 := hcl k _ (strVs_at L ht)
        have hfi := dfind_any HD7.out t (HD7.out.tx.b t (List.mem_of_getElem? ht))
        rw [placeD_nodup HND.out ht, if_neg (by omega), decide_eq_true (by omega : (0 : Int) ≤ (k : Int))] at hfi
        have HFI := Lib.hid hfi
        have HTX := Lib.hid (dtext_in HD7.out k t ht)
        have hkk : ((k : Int) != (k : Int)) = false := by simp
        clear hcl hfi ht
        go_wp2_with fail
        refine HFI.out.mono ?_
        rintro e w8 ⟨rfl, rfl⟩
        go_wp2_with fail
        refine HTX.out.mono ?_
        rintro e w8 ⟨rfl, rfl⟩
        go_wp2_with fail
        go_roundg (L.length - (k + 1))
        case measure => have := HGK.out; omega
        case rel => exact ⟨k + 1, by omega, by go_num, Lib.hid rfl, rfl⟩
      · obtain rfl : k = L.length := by omega
        go_wp2_with fail
        go_loopg [70] l0.length (fun gk i wr => ∃ k : Nat, k ≤ l0.length ∧ i = .int .i64 k ∧ Hid (l0.length - k = gk) ∧ Hid (Below w.heap.size w wr))
        case atStart => exact ⟨0, Nat.zero_le _, rfl, Lib.hid rfl, HB7⟩
        case round =>
          obtain ⟨k, hk, rfl, HGK, HB⟩ := hrel
          by_cases hlt : k < l0.length
          · obtain ⟨d, hd⟩ : ∃ d, l0[k]? = some d := ⟨_, List.getElem?_eq_getElem hlt⟩
            have hz := HB.out.size
            obtain ⟨b, o, rfl, hb, x0, x1, hok, hl1, hl2⟩ := (HTR.out _ HB.out).at hd
            have hel := HNE.out d (List.mem_of_getElem? hd)
            obtain ⟨w10, hw10⟩ : ∃ w10, wr.alloc (.cells #[.int .u64 d.tm, .slice d.A d.evs.length d.c] 39) = w10 := ⟨_, rfl⟩
            have s10 : w10.heap.size = wr.heap.size + 1 := by rw [← hw10, World.size_alloc]
            have hb10 : Below wr.heap.size wr w10 := by rw [← hw10]; exact (Below.refl _ _).alloc (Nat.le_refl _) _
            have hh10 : Held w10 wr.heap.size 39 #[.int .u64 d.tm, .slice d.A d.evs.length d.c] := by rw [← hw10]; exact heap_alloc_new wr _
            have HB10 := Lib.hid (HB.out.trans (hb10.mono hz))
            have hev := hok.1.below (hb10.mono hz)
            have hsl : (shps d.evs).length = d.evs.length := List.length_map _
            have he1 := fun W (h : Below w10.heap.size w10 W) => runs_form (druns_any d.A d.c d.evs W ((hev.below (h.mono (by omega))).more (by have := h.size; omega)) (by omega))
            have he2 := fun W (h : Below w10.heap.size w10 W) => runs_form (rruns_any d.A d.c d.evs W ((hev.below (h.mono (by omega))).more (by have := h.size; omega)) (by omega))
            have hsum := runsD_sum (shps d.evs)
            have hpos := fun (i c : Nat) => @runsD_pos (shps d.evs) i c
            rw [hsl] at hsum
            obtain ⟨R, hR⟩ : ∃ R, runsD (shps d.evs) (shps d.evs) = R := ⟨_, rfl⟩
            rw [hR] at hsum
            simp only [hR] at he1 he2 hpos
            have HE1 := Lib.hid he1
            have HE2 := Lib.hid he2
            have HSUM := Lib.hid hsum
            have HPOS := Lib.hid hpos
            obtain ⟨dA, hdA⟩ : ∃ dA, d.A = dA := ⟨_, rfl⟩
            rw [hdA] at hw10 hh10 x1 HE1 HE2
            have HALL := Lib.hid (fun W (h : Below w10.heap.size w10 W) => (show W.cell? ⟨wr.heap.size, 1, none⟩ = some (.slice dA d.evs.length d.c) from by
              have hh := hh10.below h (by omega)
              have v1 := hh.cell 1
              simpa using v1))
            clear he1 he2 hok hev hd hh10 hsl hsum hpos hR hdA
            go_wp2_with fail
            clear hw10
            go_region_held3 (fun W => Below w10.heap.size w10 W ∧ W.cell? ⟨wr.heap.size, 1, none⟩ = some (.slice dA d.evs.length d.c))
              (first | exact ⟨Below.refl _ _, HALL.out _ (Below.refl _ _)⟩ | exact ⟨(Below.refl _ _).drew, HALL.out _ (Below.refl _ _).drew⟩ | exact ⟨b4, HALL.out _ b4⟩ | exact ⟨b5, HALL.out _ b5⟩)
              (first
                | (go_at_call 26; first | (refine (HE1.out _ b4).mono ?_; rintro e wA ⟨Aa1, ca1, rfl, hoA, hbA⟩; have b5 : Below w10.heap.size w10 wA := b4.trans (hbA.mono b4.size); have hoB := own_below hoB4 hbA) | (refine (HE1.out _ (Below.refl _ _).drew).mono ?_; rintro e wA ⟨Aa1, ca1, rfl, hoA4, hbA⟩; have b4 : Below w10.heap.size w10 wA := (Below.refl _ _).drew.trans (hbA.mono (Nat.le_refl _))))
                | (go_at_call 27; first | (refine (HE2.out _ b4).mono ?_; rintro e wA ⟨Ab1, cb1, rfl, hoB, hbA⟩; have b5 : Below w10.heap.size w10 wA := b4.trans (hbA.mono b4.size); have hoA := own_below hoA4 hbA) | (refine (HE2.out _ (Below.refl _ _).drew).mono ?_; rintro e wA ⟨Ab1, cb1, rfl, hoB4, hbA⟩; have b4 : Below w10.heap.size w10 wA := (Below.refl _ _).drew.trans (hbA.mono (Nat.le_refl _)))))
            all_goals
              have hzA := b5.size
              have HB11 := Lib.hid (HB10.out.trans (b5.mono (by omega)))
              have HL11 := Lib.hid (fun W (h : Below wA.heap.size wA W) => HALL.out W (b5.trans (h.mono (by omega))))
              have HRA := Lib.hid (ERow.of_own hoA)
              have HRB := Lib.hid (ERow.of_own hoB)
              obtain ⟨-, ha1, ha2⟩ := HRA.out.len
              obtain ⟨-, hb1, hb2⟩ := HRB.out.len
              have hll2 : ((R.length : Int) != (R.length : Int)) = false := by simp
              clear b4 b5 hoA hoB hbA
              obtain ⟨wq, hwq⟩ : ∃ wq, wq = wr := ⟨_, rfl⟩
              subst hwq
            all_goals
              go_wp2_with fail
              go_loopg [14, 87] R.length (fun gm s0 i wr2 => ∃ m : Nat, m ≤ R.length ∧ s0 = .int .i64 ((R.take m).sum : Nat) ∧ i = .int .i64 m ∧ Hid (R.length - m = gm) ∧ Hid (Below wA.heap.size wA wr2))
              case atStart => exact ⟨0, Nat.zero_le _, by simp, rfl, Lib.hid rfl, Lib.hid (Below.refl _ _)⟩
              case round =>
                obtain ⟨m, hm, rfl, rfl, HGM, HB12⟩ := hrel
                by_cases hml : m < R.length
                · obtain ⟨cc, hcc⟩ : ∃ cc, R[m]? = some cc := ⟨_, List.getElem?_eq_getElem hml⟩
                  obtain ⟨b1, o1, rfl, hbb1, hcl1⟩ := HRA.out.block (by omega)
                  obtain ⟨b2, o2, rfl, hbb2, hcl2⟩ := HRB.out.block (by omega)
                  have x1 := (HB12.out.cell (p := ⟨b1, o1 + m, none⟩) hbb1).trans (hcl1 m _ (natVs_at hcc))
                  have x2 := (HB12.out.cell (p := ⟨b2, o2 + m, none⟩) hbb2).trans (hcl2 m _ (natVs_at hcc))
                  have X1 := fun n => (show (wr.drewN n).cell? ⟨b1, o1 + m, none⟩ = some (.int .i64 cc) from x1)
                  have hpc := HPOS.out m cc hcc
                  have hss := sum_take hcc
                  have hsl := sum_take_le R (m + 1)
                  have hsm := HSUM.out
                  obtain ⟨T, hT⟩ : ∃ T, (R.take m).sum = T := ⟨_, rfl⟩
                  rw [hT] at hss ⊢
                  have hTc : T + cc ≤ 1048576 := by omega
                  have HSS := Lib.hid hss
                  have hlt1 : decide ((cc : Int) < 1) = false := decide_eq_false (by omega)
                  have hne1 : ((cc : Int) != (cc : Int)) = false := by simp
                  clear hcl1 hcl2 hcc hss hsl hsm hT hpc
                  go_wp2_with fail
                  go_quiet (fail)
                  go_wp2_with fail
                  go_roundg (R.length - (m + 1))
                  case measure => have := HGM.out; omega
                  case rel => exact ⟨m + 1, by omega, by rw [HSS.out]; go_num, by go_num, Lib.hid rfl, Lib.hid (HB12.out.trans (drewN_low _ _ _))⟩
                · obtain rfl : m = R.length := by omega
                  have x1 := HL11.out _ HB12.out
                  have hst : (R.take R.length).sum = d.evs.length := by rw [List.take_length]; exact HSUM.out
                  rw [hst]
                  have hne1 : ((d.evs.length : Int) != (d.evs.length : Int)) = false := by simp
                  clear hst
                  go_wp2_with fail
                  go_roundg (l0.length - (k + 1))
                  case measure => have := HGK.out; omega
                  case rel => exact ⟨k + 1, by omega, by go_num, Lib.hid rfl, Lib.hid (HB11.out.trans (HB12.out.mono (by omega)))⟩
          · obtain rfl : k = l0.length := by omega
            go_wp2_with fail
            refine (HFX.out _).mono ?_
            rintro e w9 ⟨rfl, hb9⟩
            have HB9 := Lib.hid (HB.out.trans (hb9.mono HB.out.size))
            clear hb9
            go_wp2_with fail
            go_ret
            exact ⟨rfl, HB9.out⟩

set_option maxRecDepth 100000 in
theorem lifted (os : Os) (started : os.Started) (H : Type) (enc : TypeId × Value → H) (F : Stop.Interp) :
    ReturnsInHanded {} Try.checked os 5 .any ((Rows.OpenSpec.upto Rows.dictOfSpec).pre6 enc Try.prog Try.f5 Rows.dictOfUptoRow.domain false) (((Rows.OpenSpec.upto Rows.dictOfSpec).at F).post enc Try.prog Try.f5 false true false false) := by
  refine returnsInHanded_of_cond (C := Try.checked) (s := Rows.OpenSpec.upto Rows.dictOfSpec) (k := Rows.uptoSmall) rfl own started (by kernel_rfl) Try.func5
    (OpenSpec.witness (enc := enc) (C := Try.checked) (s := Rows.OpenSpec.upto Rows.dictOfSpec) (k := Rows.uptoSmall) rfl false ⟨#[], #[.slice none 0 0], []⟩ 8 (by kernel_rfl) (by kernel_rfl) (by kernel_rfl) (x := ([.nil], [], [])) (by kernel_rfl) rfl (by kernel_rfl)) ?_
  intro W base args ds gs before hval0 hW _ hk _
  have hval : ∀ (j : Nat) t v, Try.f5.params[j]? = some t → args[j]? = some v → Value.okWide Try.prog W .any base t v := hval0
  have hW' := hW
  obtain ⟨p, q, hA0, hV, rfl, hfz, hnd⟩ := hW
  have hA : DataW.TrodAll enc Try.prog W 0 (fun _ => true) true Try.f5.params.toList args.toList ds p := hA0
  rw [Try.params5] at hA hval
  obtain ⟨v0, vs0, d0, ds0, p0, q0, hargs, rfl, rfl, h0, r0⟩ := trodAll_cons hA
  obtain ⟨rfl, rfl, rfl⟩ := trodAll_nil r0
  obtain rfl : args = #[v0] := by cases args; simp_all
  obtain ⟨rfl, rfl⟩ := trodVars_none hV
  obtain ⟨a0, len0, cap0, rfl⟩ := okWide_slice Try.underlying23 (hval 0 23 v0 rfl rfl)
  have k0 := h0
  have lt0 : ∀ x ∈ p0, x.block < W.heap.size := by obtain ⟨m, hm⟩ := k0; exact DataW.trod_lt m _ _ _ hm
  obtain ⟨l0, w0⟩ : ∃ ds : List Pm, ds.length = len0 ∧ TrRow W W.heap.size (.slice a0 len0 cap0) ds ∧ TrB ds := by
    obtain ⟨fuel, hf⟩ := h0
    obtain ⟨ds, e1, e2, e3, e4⟩ := points_bulk hf
    have hle := small_le hk (d := d0) (by simp)
    exact ⟨ds, e1, e2, Nat.le_trans e3 hle, fun d hd => Nat.le_trans (e4 d hd) hle⟩
  clear hA0 hval0
  refine (walk a0 len0 cap0 l0 W w0).mono fun e W' ⟨he, bel⟩ => ?_
  subst he
  exact ⟨_, rfl, _, _, _, [], _, [], hW', trodAll_mk1 (shut_bool Try.underlying4 _), (trodAll_cons_mk (Below.trod laidOut (by kernel_rfl) (of_decide_eq_true (by kernel_rfl)) k0 bel lt0) (trodAll_mk0)), rfl, bel.frame _, fun h => by cases h⟩

theorem over : Rows.dictOfUptoRow.holds Try.pinned (Rows.OpenSpec.upto Rows.dictOfSpec) :=
  OpenClaim.holds_of_cond 5 Try.f5 rfl rfl rfl rfl rfl rfl rfl ⟨rfl, rfl, rfl, rfl, rfl⟩ rfl rfl rfl rfl rfl (by kernel_rfl) Try.func5 (by kernel_rfl)
    (of_decide_eq_true (by kernel_rfl)) (by unfold Func.isWrapper; first | (rw [if_pos (by decide +kernel)]; kernel_rfl) | (rw [if_neg (by decide +kernel)]; exact ⟨rfl, rfl⟩))
    (fun os started H enc _ F => lifted os started H enc F)

theorem proved : Rows.DictOfUptoSaid := over
#print axioms proved
end Go.Proofs.Ytlmedebhkkiagaa.dictOf
