/-
  At every slice of texts, every text and every number the law on what is put into a dictionary and what it answers returns true, and nothing that lay in memory has changed. No condition.
-/
import Derived.Test.YtlmedebhkkiagaaRows
import Derived.WalkKit
import Derived.ProofKit
import Derived.OpenShut
import Derived.ShutString
import Derived.ChangeOld
import Derived.Below
import Derived.Lib.SmallJoins
import Derived.Deep.LoopGhost
import Derived.SliceStrings
import Derived.Test.YtlmedebhkkiagaaTextsSame
import Derived.Test.YtlmedebhkkiagaaDictRefOf
namespace Go.Proofs.Ytlmedebhkkiagaa.dictPlays
open Go.Proofs.Ytlmedebhkkiagaa
open Go.ChangeShapes Go.WideShapes Go.ChangeAt Go.RowKit
open Go.ChangeMaps (open_string shut_string)
set_option linter.unusedVariables false

theorem own : ownKnob Try.prog.godebug = none := by kernel_rfl
theorem laidOut : laidOutB Try.prog = true := by kernel_rfl

set_option maxRecDepth 100000 in
set_option maxHeartbeats 2000000 in
theorem walk (a0 : Option Addr) (len0 cap0 : Nat) (z0 : List ByteArray) (a1 : ByteArray) (a2 : Int) (w : World) (w0 : IsStrs w a0 len0 cap0 z0) (w1 : a1.size ≤ maxLen) (w2 : (Lit.int .i64 a2).wf = true) :
    Calls Try.prog 4 #[.slice a0 len0 cap0, .string a1, .int .i64 a2] w fun e w' => e = .returned (.bool true) ∧ Below w.heap.size w w' := by
  obtain ⟨ts, rfl, hrow, hts⟩ := VRow.of_strs w0
  obtain ⟨ask, rfl, hal, hab⟩ := text_of a1
  have hab' : TxB ask := hab
  have hss := strOfNums_size ask
  rw [hss] at w1 hal
  unfold maxLen at w1
  obtain ⟨b21, b22⟩ := bounds_i64 w2
  clear w0 w2 hal
  obtain ⟨_, cs1, cs2⟩ := hrow.length
  rw [strVs_length] at cs1
  have HFX := Lib.hid (fun W => fix13_any W)
  by_cases hgt : 200 < ts.length
  · have hgi : (200 : Int) < (ts.length : Int) := by omega
    clear hrow
    go_enter Try.func4, Try.ntmps4
    go_wp2_with fail
    refine (HFX.out _).mono ?_
    rintro e w3 ⟨rfl, hb3⟩
    go_wp2_with fail
    go_ret
    exact ⟨rfl, hb3⟩
  by_cases hgt2 : 300 < ask.length
  · have hgi : ¬ (200 : Int) < (ts.length : Int) := by omega
    have hgi2 : (300 : Int) < (ask.length : Int) := by omega
    clear hrow
    go_enter Try.func4, Try.ntmps4
    go_wp2_with fail
    refine (HFX.out _).mono ?_
    rintro e w3 ⟨rfl, hb3⟩
    go_wp2_with fail
    go_ret
    exact ⟨rfl, hb3⟩
  have hle : ts.length ≤ 200 := by omega
  have hle2 : ask.length ≤ 300 := by omega
  have HROW := Lib.hid (fun W (h : Below w.heap.size w W) => (hrow.below h))
  have HTS := Lib.hid hts
  have HAB := Lib.hid hab'
  clear hrow hts hab hab' hgt hgt2
  obtain ⟨n, hn⟩ : ∃ n, ts.length = n := ⟨_, rfl⟩
  rw [hn] at hle HROW cs1 ⊢
  have HN := Lib.hid hn
  clear hn
  obtain ⟨N, hN⟩ : ∃ N, w.heap.size = N := ⟨_, rfl⟩
  have HW := Lib.hid (dnew_any w)
  rw [hN] at HW HROW ⊢
  go_enter Try.func4, Try.ntmps4
  go_wp2_with fail
  refine HW.out.mono ?_
  rintro e w1' ⟨D, r, v, rfl, hd, hvn, hb⟩
  have hz1 := hb.size
  have HD1 := Lib.hid (hd.below ((Below.refl w1'.heap.size w1').alloc (Nat.le_refl _) (.cells #[] 9)))
  have HB1 := Lib.hid (hb.alloc (by omega) (.cells #[] 9))
  have HX1 := Lib.hid (show ORow (w1'.alloc (.cells #[] 9)) N (.slice (some ⟨w1'.heap.size, 0, none⟩) 0 0) [] from ⟨own_none (by omega), fun t h => by simp at h⟩)
  have HV1 := Lib.hid (show ∀ j, v.ownBlock = some j → (Value.slice (some ⟨w1'.heap.size, 0, none⟩) 0 0).ownBlock ≠ some j from fun j hj => by rw [hvn] at hj; cases hj)
  clear hd hb HW hvn
  go_wp2_with fail
  go_loopg [8, 35] n (fun gk x0 i wr => ∃ (k : Nat) (vx v : Value), k ≤ n ∧ vx = x0 ∧ i = .int .i64 k ∧ Hid (n - k = gk) ∧ Hid (DictAt wr N D r v (addS [] (ts.take k))) ∧ Hid (ORow wr N vx (addS [] (ts.take k))) ∧ Hid (∀ j, v.ownBlock = some j → vx.ownBlock ≠ some j) ∧ Hid (∀ t ∈ addS [] (ts.take k), t.length ≤ 300) ∧ Hid (Below N w wr))
  case atStart => exact ⟨0, _, v, Nat.zero_le _, rfl, rfl, Lib.hid rfl, HD1, HX1, HV1, Lib.hid (fun t h => by simp [addS] at h), HB1⟩
  case round =>
    obtain ⟨k, vx, v1, hk, rfl, rfl, HGK, HD, HX, HV, H3, HB⟩ := hrel
    have hz := HB.out.size
    have hlen : (addS [] (ts.take k)).length ≤ k := by
      have h1 := addS_length (ts.take k) []
      have h2 := List.length_take_le k ts
      simp only [List.length_nil] at h1
      omega
    have HLE := Lib.hid hlen
    clear hlen
    by_cases hlt : k < n
    · obtain ⟨t, ht⟩ : ∃ t, ts[k]? = some t := ⟨_, List.getElem?_eq_getElem (by rw [HN.out]; exact hlt)⟩
      obtain ⟨htm, htb⟩ := HTS.out t (List.mem_of_getElem? ht)
      have htm2 := htm
      unfold maxLen at htm2
      have hts2 : (strOfNums t).size = t.length := strOfNums_size t
      obtain ⟨X, d, hv, _, _, _, hcl⟩ := HROW.out _ HB.out
      injection hv with q1 q2 q3
      subst q1
      obtain ⟨b, o, rfl, _, hc⟩ := hcl (by rw [strVs_length, HN.out]; omega)
      have hc1 := hc k _ (strVs_at ts ht)
      clear hcl hc q2 q3
      have i1 : (k : Int) < (n : Int) := by omega
      by_cases h3 : 300 < t.length
      · clear ht htb
        go_wp2_with fail
        refine (HFX.out _).mono ?_
        rintro e w3 ⟨rfl, hb3⟩
        have HB3 := Lib.hid (HB.out.trans (hb3.mono (by omega)))
        clear hb3
        go_wp2_with fail
        go_ret
        exact ⟨rfl, HB3.out⟩
      · have hp := rput13_any HX.out.1 (by omega) HX.out.2 t htb (by have := HLE.out; omega)
        have htx := putD_tx HX.out.2 htb htm
        have HS := Lib.hid (addS_succ (L := []) ht)
        unfold RPut at hp
        have h33 : ∀ u ∈ (putD (addS [] (ts.take k)) t).1, u.length ≤ 300 := fun u hu => by
          rcases putD_mem hu with h | rfl
          · exact H3.out u h
          · omega
        rw [← HS.out] at hp htx h33
        have H33 := Lib.hid h33
        clear h33
        obtain ⟨m, hm⟩ : ∃ m, (putD (addS [] (ts.take k)) t).2 = m := ⟨_, rfl⟩
        rw [hm] at hp
        have HP := Lib.hid hp
        have HTX := Lib.hid htx
        have HTB := Lib.hid htb
        have HTM := Lib.hid htm
        have HM := Lib.hid hm
        have hmm : (m != m) = false := by simp
        clear hp htx ht htb htm hm
        go_wp2_with fail
        refine HP.out.mono ?_
        rintro e w5 ⟨v5, rfl, ho5, hat5, hb5⟩
        have hz5 := hb5.size
        have hd5 := HD.out.below hb5
        have hp := dput_any hd5 t HTB.out HTM.out (by have := HLE.out; omega) (by omega)
        rw [← HS.out, HM.out] at hp
        have HD5 := Lib.hid hd5
        have HO5 := Lib.hid ho5
        have HB5 := Lib.hid (HB.out.trans (hb5.mono (by omega)))
        have HQ := Lib.hid hp
        have HV5 := Lib.hid (show ∀ j, v1.ownBlock = some j → v5.ownBlock ≠ some j from fun j hj => by
          rcases hat5 with rfl | h
          · exact HV.out j hj
          · intro e
            have h1 := (own_off h e).1
            have h2 := (own_off HD.out.own hj).2
            omega)
        clear hp hd5 ho5 hb5 hat5
        go_wp2_with fail
        refine HQ.out.mono ?_
        rintro e w6 ⟨rfl, v6, hd6, hbt, hat6⟩
        have HB6 := Lib.hid (HB5.out.trans (hbt.below (by omega) HD5.out))
        have HO6 := Lib.hid (own_dbut HO5.out hbt HD5.out HV5.out)
        have HV6 := Lib.hid (show ∀ j, v6.ownBlock = some j → v5.ownBlock ≠ some j from fun j hj => by
          rcases hat6 with h | h
          · exact HV5.out j (by rw [← h]; exact hj)
          · intro e
            have h1 := h j hj
            have h2 := (own_off HO5.out e).2
            omega)
        have HD6 := Lib.hid hd6
        clear hd6 hbt hat6
        go_wp2_with fail
        go_roundg (n - (k + 1))
        case measure => have := HGK.out; omega
        case rel => exact ⟨k + 1, v5, v6, by omega, rfl, by go_num, Lib.hid rfl, HD6, Lib.hid ⟨HO6.out, HTX.out⟩, HV6, H33, HB6⟩
    · obtain rfl : k = n := by omega
      have htk : ts.take k = ts := List.take_of_length_le (by rw [HN.out]; exact Nat.le_refl _)
      rw [htk] at HD HX HLE H3
      obtain ⟨L, hL⟩ : ∃ L, addS [] ts = L := ⟨_, rfl⟩
      rw [hL] at HD HX HLE H3
      clear htk hL
      have hla : L.length ≤ 200 := by have := HLE.out; omega
      have HAL := Lib.hid (dall_any HD.out (by omega))
      go_wp2_with fail
      refine HAL.out.mono ?_
      rintro e w5 ⟨Aa, ca, rfl, ho5, hb5⟩
      have hz5 := hb5.size
      have HD5 := Lib.hid (HD.out.below hb5)
      have HO5 := Lib.hid ho5
      have hx5 := own_below HX.out.1 hb5
      have HX5 := Lib.hid hx5
      have HB5 := Lib.hid hb5
      have HBN := Lib.hid (HB.out.trans (hb5.mono (by omega)))
      have HXT := Lib.hid HX.out.2
      obtain ⟨Ax, cx, hvx, hcx1, hcx2⟩ := (ERow.of_own hx5).form
      subst hvx
      obtain ⟨-, hca1, hca2⟩ := (ERow.of_own ho5).len
      have hv1 := VRow.of_own ho5
      have hv2 := VRow.of_own hx5
      obtain ⟨g, hg⟩ : ∃ g, L.length = g := ⟨_, rfl⟩
      have HG := Lib.hid hg
      have hsm := tsame2_any Aa Ax ca cx _ _ (strVs L) g (by rw [strVs_length, hg]) (strVs_str L) w5 (by rw [← hg]; exact hv1) (by rw [← hg]; exact hv2)
      have HSM := Lib.hid hsm
      have HX' := Lib.hid HX.out.1
      rw [hg] at HO5 hcx1 hca1 hla ⊢
      clear hb5 ho5 hx5 hv1 hv2 hsm hg HX HAL
      go_wp2_with fail
      refine HSM.out.mono ?_
      rintro e w6 ⟨rfl, hb6⟩
      have hz6 := hb6.size
      have HO6 := Lib.hid (own_below HO5.out hb6)
      have HB6 := Lib.hid (HB5.out.trans (hb6.mono hz5))
      clear hb6
      go_wp2_with fail
      obtain ⟨wo, hwo⟩ : ∃ wo, wo = wr := ⟨_, rfl⟩
      subst hwo
      go_loopg [64] g (fun gm i wr2 => ∃ (m : Nat) (us : List Value), m ≤ g ∧ i = .int .i64 m ∧ Hid (g - m = gm) ∧ Hid (wr2.ownsRow wo.heap.size 9 1 (.slice Aa g ca) g us) ∧ Hid (us.drop m = (strVs L).drop m) ∧ Hid (Below wo.heap.size wo wr2))
      case atStart => exact ⟨0, _, Nat.zero_le _, rfl, Lib.hid rfl, HO6, Lib.hid rfl, HB6⟩
      case round =>
        obtain ⟨m, us, hm, rfl, HGM, HOW, HUS, HB7⟩ := hrel
        have hz7 := HB7.out.size
        by_cases hml : m < g
        · obtain ⟨t, ht⟩ : ∃ t, L[m]? = some t := ⟨_, List.getElem?_eq_getElem (by rw [HG.out]; exact hml)⟩
          have hum : us[m]? = some (.string (strOfNums t)) := by
            have h1 := strVs_at L ht
            have h2 := congrArg (fun l => l[0]?) HUS.out
            simp only [List.getElem?_drop, Nat.add_zero] at h2
            rw [h2, h1]
          have htm := H3.out t (List.mem_of_getElem? ht)
          obtain ⟨gg, rfl, hbg, hcell, hfr, hst⟩ := own_store HOW.out hml hum
          have hadd := fun W => add_strs (P := Try.prog) W t [33] (by simp; omega)
          rw [str_33] at hadd
          have hd' : (us.set m (.string (strOfNums (t ++ [33])))).drop (m + 1) = (strVs L).drop (m + 1) := by
            have h2 := congrArg (fun l => l.drop 1) HUS.out
            simp only [List.drop_drop] at h2
            rw [List.drop_set_of_lt (Nat.lt_succ_self m)]
            exact h2
          have HDR := Lib.hid hd'
          have HST := Lib.hid (hst (.string (strOfNums (t ++ [33]))))
          have HBS := Lib.hid (HB7.out.setCell (p := ⟨gg, m, none⟩) hbg (.string (strOfNums (t ++ [33]))))
          have hgl := World.block_lt_of_cell? wr ⟨gg, m, none⟩ hcell
          clear hd' hst hum ht
          go_wp2_with fail
          go_roundg (g - (m + 1))
          case measure => have := HGM.out; omega
          case rel => exact ⟨m + 1, _, by omega, by go_num, Lib.hid rfl, HST, HDR, HBS⟩
        · obtain rfl : m = g := by omega
          have HD7 := Lib.hid (HD.out.below HB7.out)
          have HX7 := Lib.hid (own_below HX'.out HB7.out)
          have HFI := Lib.hid (dfind_any HD7.out ask HAB.out)
          have HPL := rplace_any Ax cx L ask (ERow.of_own HX7.out) HXT.out HAB.out
          rw [HG.out] at HPL
          have HPL := Lib.hid HPL
          have HBE := Lib.hid (HB.out.trans (HB7.out.mono (by omega)))
          obtain ⟨F, hF⟩ : ∃ F, (if placeD L ask < 0 then 0 else placeD L ask) = F := ⟨_, rfl⟩
          have hmx : max (placeD L ask) 0 = F := by rw [← hF]; split <;> omega
          obtain ⟨P, hP⟩ : ∃ P, placeD L ask = P := ⟨_, rfl⟩
          rw [hF, hP] at HFI
          rw [hP] at HPL hmx
          have HPb := Lib.hid hP
          clear hF hP
          by_cases hin : a2 < 0 ∨ (m : Int) ≤ a2
          · have HTX := Lib.hid (dtext_out HD7.out a2 (by rw [HG.out]; exact hin))
            by_cases hneg : a2 < 0
            · go_wp2_with fail
              refine HFI.out.mono ?_
              rintro e w8 ⟨rfl, rfl⟩
              go_wp2_with fail
              refine HPL.out.mono ?_
              rintro e w8 ⟨rfl, rfl⟩
              go_wp2_with fail
              refine HTX.out.mono ?_
              rintro e w8 ⟨rfl, rfl⟩
              go_wp2_with fail
              refine (HFX.out _).mono ?_
              rintro e w9 ⟨rfl, hb9⟩
              have HB9 := Lib.hid (HBE.out.trans (hb9.mono (by omega)))
              clear hb9
              go_wp2_with fail
              go_ret
              exact ⟨by simp, HB9.out⟩
            · have hge : (m : Int) ≤ a2 := by omega
              clear hin
              go_wp2_with fail
              refine HFI.out.mono ?_
              rintro e w8 ⟨rfl, rfl⟩
              go_wp2_with fail
              refine HPL.out.mono ?_
              rintro e w8 ⟨rfl, rfl⟩
              go_wp2_with fail
              refine HTX.out.mono ?_
              rintro e w8 ⟨rfl, rfl⟩
              go_wp2_with fail
              refine (HFX.out _).mono ?_
              rintro e w9 ⟨rfl, hb9⟩
              have HB9 := Lib.hid (HBE.out.trans (hb9.mono (by omega)))
              clear hb9
              go_wp2_with fail
              go_ret
              exact ⟨by simp, HB9.out⟩
          · obtain ⟨q, rfl⟩ : ∃ q : Nat, a2 = q := ⟨a2.toNat, by omega⟩
            have hql : q < m := by omega
            obtain ⟨t, ht⟩ : ∃ t, L[q]? = some t := ⟨_, List.getElem?_eq_getElem (by rw [HG.out]; exact hql)⟩
            have HTX := Lib.hid (dtext_in HD7.out q t ht)
            obtain ⟨b, o, rfl, hbx, hcl⟩ := (ERow.of_own HX7.out).block (by rw [HG.out]; omega)
            have hc1 := hcl q _ (strVs_at L ht)
            have HC1 := Lib.hid (fun W (h : Below wr.heap.size wr W) => (h.cell (p := ⟨b, o + q, none⟩) hbx).trans hc1)
            have hlt1 : ¬ (q : Int) < 0 := by omega
            have hlt2 : ¬ (m : Int) ≤ (q : Int) := by omega
            clear hin hcl ht hc1
            go_wp2_with fail
            refine HFI.out.mono ?_
            rintro e w8 ⟨rfl, rfl⟩
            go_wp2_with fail
            refine HPL.out.mono ?_
            rintro e w8 ⟨rfl, rfl⟩
            go_wp2_with fail
            refine HTX.out.mono ?_
            rintro e w8 ⟨rfl, rfl⟩
            go_wp2_with fail
            refine (HFX.out _).mono ?_
            rintro e w9 ⟨rfl, hb9⟩
            have HB9 := Lib.hid (HBE.out.trans (hb9.mono (by omega)))
            have hc9 := HC1.out _ hb9
            clear hb9
            go_wp2_with fail
            go_ret
            exact ⟨by simp, HB9.out⟩

set_option maxRecDepth 100000 in
theorem lifted (os : Os) (started : os.Started) (H : Type) (enc : TypeId × Value → H) :
    ReturnsInHanded {} Try.checked os 4 .any (Rows.dictPlaysSpec.pre6 enc Try.prog Try.f4 Rows.dictPlaysRow.domain false) (Rows.dictPlaysSpec.post enc Try.prog Try.f4 false true false false) := by
  refine returnsInHanded_of_change (C := Try.checked) own started (by kernel_rfl) Try.func4
    (ChangeSpec.witness6 (enc := enc) (C := Try.checked) false ⟨#[], #[.slice none 0 0, .string ⟨#[]⟩, .int .i64 0], []⟩ 8 (by kernel_rfl) (by kernel_rfl) (by kernel_rfl) (by kernel_rfl)) ?_
  intro W base args ds gs before hval0 hW hcnd _
  have hval : ∀ (j : Nat) t v, Try.f4.params[j]? = some t → args[j]? = some v → Value.okWide Try.prog W .any base t v := hval0
  have hW' := hW
  obtain ⟨p, q, hA0, hV, rfl, hfz, hnd⟩ := hW
  have hA : DataW.TrodAll enc Try.prog W 0 (fun _ => true) true Try.f4.params.toList args.toList ds p := hA0
  rw [Try.params4] at hA hval
  obtain ⟨v0, vs0, d0, ds0, p0, q0, hargs, rfl, rfl, h0, r0⟩ := trodAll_cons hA
  obtain ⟨v1, vs1, d1, ds1, p1, q1, rfl, rfl, rfl, h1, r1⟩ := trodAll_cons r0
  obtain ⟨v2, vs2, d2, ds2, p2, q2, rfl, rfl, rfl, h2, r2⟩ := trodAll_cons r1
  obtain ⟨rfl, rfl, rfl⟩ := trodAll_nil r2
  obtain rfl : args = #[v0, v1, v2] := by cases args; simp_all
  obtain ⟨rfl, rfl⟩ := trodVars_none hV
  obtain ⟨a0, len0, cap0, rfl⟩ := okWide_slice Try.underlying46 (hval 0 46 v0 rfl rfl)
  have k0 := h0
  have lt0 : ∀ x ∈ p0, x.block < W.heap.size := by obtain ⟨m, hm⟩ := k0; exact DataW.trod_lt m _ _ _ hm
  obtain ⟨z0, w0⟩ : ∃ ss, IsStrs W a0 len0 cap0 ss := by
    obtain ⟨fuel, hf⟩ := h0
    rcases open_strings Try.underlying46 Try.underlying9 (by kernel_rfl) hf with ⟨hcs, _⟩ | ⟨x, l, c, ss, hcs, _, hl, hm, hz, _, hcell, hws⟩
    · simp [Value.cells] at hcs
      obtain ⟨rfl, rfl, rfl⟩ := hcs
      exact ⟨[], .inl ⟨rfl, rfl, rfl, rfl⟩⟩
    · simp [Value.cells] at hcs
      obtain ⟨rfl, rfl, rfl⟩ := hcs
      exact ⟨ss, .inr ⟨_, rfl, hl, hm, by simpa using hz, hcell, hws⟩⟩
  obtain ⟨a1, rfl, rfl, rfl, w1⟩ := open_string Try.underlying9 (hval 1 9 v1 rfl rfl) h1
  obtain ⟨a2, rfl, rfl, rfl, w2⟩ := open_int Try.underlying3 (hval 2 3 v2 rfl rfl) h2
  clear hA0 hval0
  refine (walk a0 len0 cap0 z0 a1 a2 W w0 w1 w2).mono fun e W' ⟨he, bel⟩ => ?_
  subst he
  exact ⟨_, rfl, _, _, _, [], _, [], hW', trodAll_mk1 (shut_bool Try.underlying4 _), (trodAll_cons_mk (Below.trod laidOut (by kernel_rfl) (of_decide_eq_true (by kernel_rfl)) k0 bel lt0) (trodAll_cons_mk (shut_string Try.underlying9 w1) (trodAll_cons_mk (shut_int Try.underlying3 w2) (trodAll_mk0)))), rfl, bel.frame _, fun h => by cases h⟩

theorem over : Rows.dictPlaysRow.holds Try.pinned (OpenSpec.ofChange Rows.dictPlaysSpec) :=
  OpenClaim.holds_of_wide 4 Try.f4 rfl rfl rfl rfl rfl rfl rfl ⟨rfl, rfl, rfl, rfl, rfl⟩ rfl rfl rfl rfl rfl (by kernel_rfl) Try.func4 (by kernel_rfl)
    (of_decide_eq_true (by kernel_rfl)) (by unfold Func.isWrapper; first | (rw [if_pos (by decide +kernel)]; kernel_rfl) | (rw [if_neg (by decide +kernel)]; exact ⟨rfl, rfl⟩))
    (fun os started H enc _ => lifted os started H enc)

theorem proved : Rows.DictPlaysSaid := over
#print axioms proved
end Go.Proofs.Ytlmedebhkkiagaa.dictPlays
