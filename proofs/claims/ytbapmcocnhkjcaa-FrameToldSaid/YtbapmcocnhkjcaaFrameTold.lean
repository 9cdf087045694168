/-
  At every frame, every place and every pattern of bits the law on frames whose bits are turned answers true, and nothing that lay in memory has changed. No condition.
-/
import Derived.Test.YtbapmcocnhkjcaaRows
import Derived.WalkKit
import Derived.ProofKit
import Derived.OpenShut
import Derived.ShutString
import Derived.ChangeOld
import Derived.Below
import Derived.Lib.SmallJoins
import Derived.Test.YtbapmcocnhkjcaaFrameFixed
import Derived.Test.YtbapmcocnhkjcaaFrameGet
import Derived.Test.YtbapmcocnhkjcaaArg
namespace Go.Proofs.Ytbapmcocnhkjcaa.frameTold
open Go.Proofs.Ytbapmcocnhkjcaa
open Go.ChangeShapes Go.WideShapes Go.ChangeAt Go.RowKit
open Go.ChangeMaps (open_string shut_string)
set_option linter.unusedVariables false

theorem own : ownKnob Try.prog.godebug = none := by kernel_rfl
theorem laidOut : laidOutB Try.prog = true := by kernel_rfl

theorem encFr_byte {k : Int} {p : List Int} (hk : k = 1 ∨ k = 2) (hp : p.length ≤ 4096) (hb : ∀ x ∈ p, 0 ≤ x ∧ x < 256) : ∀ x ∈ encFr k p, 0 ≤ x ∧ x < 256 := by
  intro x hx
  have hbody := bodyL_byte hk hp hb
  simp only [encFr, List.mem_append] at hx
  rcases hx with hx | hx | hx
  · exact markL_byte x hx
  · exact hbody x hx
  · exact le4_byte (sumX_lt hbody) x hx
theorem toN_get (xs : List Int) {i : Nat} (h : i < (toN xs).length) (h2 : i < xs.length) : (toN xs)[i] = xs[i].toNat := List.getElem_map _
theorem take_set {xs : List Int} {k i : Nat} {v : Int} (h : k ≤ i) : (xs.set i v).take k = xs.take k := by
  rw [List.take_set, List.set_eq_of_length_le (by rw [List.length_take]; omega)]

set_option maxRecDepth 100000 in
set_option maxHeartbeats 2000000 in
theorem walk (kk : Int) (a0 : Option Addr) (len0 cap0 : Nat) (z0 : List Int) (a1 : Int) (a2 : Int) (w : World) (wk : (Lit.int .i64 kk).wf = true) (w0 : IsRow .u8 w a0 len0 cap0 z0) (w1 : (Lit.int .u16 a1).wf = true) (w2 : (Lit.int .u32 a2).wf = true) :
    Calls Try.prog 8 #[.agg #[.int .i64 kk, .slice a0 len0 cap0], .int .u16 a1, .int .u32 a2] w fun e w' => e = .returned (.bool true) ∧ Below w.heap.size w w' := by
  obtain ⟨bk1, bk2⟩ := bounds_i64 wk
  obtain ⟨b11, b12⟩ := bounds_u16 w1
  obtain ⟨b21, b22⟩ := bounds_u32 w2
  obtain ⟨at_, rfl⟩ := Int.eq_ofNat_of_zero_le b11
  obtain ⟨turn, rfl⟩ := Int.eq_ofNat_of_zero_le b21
  have ht : turn < 4294967296 := by omega
  have hat : at_ < 65536 := by omega
  obtain ⟨p, rfl, hrow, hbp⟩ := Row.of_arg w0
  have hml : p.length ≤ 9223372036854775807 := by
    obtain ⟨_, _, hv, q1, q2, _⟩ := hrow
    unfold maxLen at q2
    omega
  have HSZ := Lib.hid (fun W => fsize_any (p.length : Int) (by omega) (by omega) W)
  clear wk w0 w1 w2 b11 b21 b12 b22
  by_cases hmay : (kk = 1 ∨ kk = 2) ∧ p.length ≤ 4096
  · obtain ⟨hk, hp⟩ := hmay
    have hlen := encFr_length kk p
    obtain ⟨l1, l2⟩ := encI_ten (n := p.length) (by omega)
    obtain ⟨L, hL⟩ : ∃ L, (encFr kk p).length = L := ⟨_, rfl⟩
    have hsz := sizeI_ok hp
    rw [← hlen, hL] at hsz
    rw [hsz] at HSZ
    have hput := fun W h => fput_any kk hk a0 cap0 p hp hbp W h
    rw [hL] at hput
    obtain ⟨l, hl⟩ : ∃ l, l = (encI p.length).length := ⟨_, rfl⟩
    rw [← hl] at hlen l1 l2
    have hLv : L = 9 + l + p.length := by omega
    have HPUT := Lib.hid hput
    have HROW := Lib.hid hrow
    clear hput hrow hsz
    by_cases h0 : turn = 0
    · subst h0
      have HL := Lib.hid hL
      clear hL hl hlen hLv
      go_enter Try.func8, Try.ntmps8
      go_wp2_with fail
      refine (HPUT.out _ ((HROW.out.below ((Below.refl _ _).alloc (Nat.le_refl _) _)).more (by simp))).mono ?_
      rintro e w1 ⟨cap, g, rfl, hown, hb1⟩
      have hc1 : w1.cell? ⟨w.heap.size, 1, none⟩ = some (.slice a0 p.length cap0) := (hb1.cell (p := ⟨w.heap.size, 1, none⟩) (by simp)).trans (by simp [World.cell?_alloc_new])
      have bw1 : Below w.heap.size w w1 := ((Below.refl _ _).alloc (Nat.le_refl _) _).trans (hb1.mono (by simp))
      have HBW1 := Lib.hid bw1
      clear hown hb1 bw1
      go_wp2_with fail
      refine (HSZ.out _).mono ?_
      rintro e w2 ⟨rfl, hb2⟩
      have HBW2 := Lib.hid (HBW1.out.trans (hb2.mono HBW1.out.size))
      clear hb2 hc1
      go_wp2_with fail
      refine (ffix_any _).mono ?_
      rintro e w5 ⟨rfl, hb5⟩
      have b5 := HBW2.out.trans (hb5.mono HBW2.out.size)
      clear hb5
      go_wp2_with fail
      go_ret
      exact ⟨rfl, b5⟩
    have hne : ((turn : Int) == 0) = false := beq_eq_false_iff_ne.2 (by omega)
    have hpos : 0 < turn := by omega
    have HPOS := Lib.hid hpos; clear hpos h0
    obtain ⟨F0, hF0⟩ : ∃ F0, F0 = 8 * (5 + l) := ⟨_, rfl⟩
    obtain ⟨D, hD⟩ : ∃ D, D = 8 * L - 31 - F0 := ⟨_, rfl⟩
    obtain ⟨c, hc⟩ : ∃ c, c = at_ % D := ⟨_, rfl⟩
    have hcl : c < D := by rw [hc]; exact Nat.mod_lt _ (by omega)
    obtain ⟨F, hF⟩ : ∃ F, F = F0 + c := ⟨_, rfl⟩
    have hFl : F + 31 < 8 * L := by omega
    have hFg : 8 * (5 + l) ≤ F := by omega
    have t3 : (at_ : Int) % (D : Int) = (c : Int) := by rw [hc]; rfl
    have t3' : (at_ : Int).tmod (D : Int) = (c : Int) := by rw [Int.tmod_eq_emod_of_nonneg (by omega)]; exact t3
    have t4 : ((D : Int) == 0) = false := beq_eq_false_iff_ne.2 (by omega)
    have t5 : (D : Int) ≠ 0 := by omega
    have v1 : (L : Int) - 4 - (p.length : Int) = ((5 + l : Nat) : Int) := by omega
    have v2 : 8 * ((5 + l : Nat) : Int) = (F0 : Int) := by omega
    have v3 : 8 * (L : Int) - 31 - (F0 : Int) = (D : Int) := by omega
    have v4 : (F0 : Int) + (c : Int) = (F : Int) := by omega
    have hbe := encFr_byte hk hp hbp
    have HK := Lib.hid hk
    have HLV := Lib.hid hLv
    have HL := Lib.hid hL
    have HBP := Lib.hid hbp
    have Hl := Lib.hid hl
    have HBE := Lib.hid hbe
    have hL1 : 10 ≤ L := by omega
    have hL2 : L ≤ 5000 := by omega
    have i1 : (10 : Int) ≤ (L : Int) := by omega
    have i2 : (L : Int) ≤ 5000 := by omega
    have i3 : (p.length : Int) ≤ 4096 := by omega
    have HD := Lib.hid hD
    have HF0 := Lib.hid hF0
    have HF := Lib.hid hF
    generalize hq5 : 5 + l = Q at v1 v2 hFg
    have HQ := Lib.hid hq5
    clear hc hl hL hD hF hF0 hlen hLv hbe hk hbp hq5 hcl
    go_enter Try.func8, Try.ntmps8
    go_wp2_with fail
    refine (HPUT.out _ ((HROW.out.below ((Below.refl _ _).alloc (Nat.le_refl _) _)).more (by simp))).mono ?_
    rintro e w1 ⟨cap, g, rfl, hown, hb1⟩
    have hc1 : w1.cell? ⟨w.heap.size, 1, none⟩ = some (.slice a0 p.length cap0) := (hb1.cell (p := ⟨w.heap.size, 1, none⟩) (by simp)).trans (by simp [World.cell?_alloc_new])
    obtain ⟨q1, q2⟩ := own_cap hown
    have hgb := (hown.lt g rfl).1
    rw [World.size_alloc] at hgb hb1 hown
    have bw1 : Below w.heap.size w w1 := ((Below.refl _ _).alloc (Nat.le_refl _) _).trans (hb1.mono (by omega))
    have HBW1 := Lib.hid bw1
    have HOWN := Lib.hid hown
    clear hown hb1 bw1
    go_wp2_with fail
    refine (HSZ.out _).mono ?_
    rintro e w2 ⟨rfl, hb2⟩
    have HBW2 := Lib.hid (HBW1.out.trans (hb2.mono HBW1.out.size))
    have HOWN2 := Lib.hid (own_below HOWN.out hb2)
    have hz12 := hb2.size
    have hz1 := HBW1.out.size
    have hc2 : w2.cell? ⟨w.heap.size, 1, none⟩ = some (.slice a0 p.length cap0) := (hb2.cell (p := ⟨w.heap.size, 1, none⟩) (by have := (HOWN.out.lt g rfl).2; simp only; omega)).trans hc1
    clear hb2 hc1
    go_wp2_with fail
    go_loopw [58] (fun i wr => ∃ (k : Nat) (zs : List Int), k ≤ 32 ∧ i = .int .i64 k ∧ zs.length = L ∧ Hid (∀ x ∈ zs, 0 ≤ x ∧ x < 256) ∧ Hid (big (toN zs) = big (toN (encFr kk p)) ^^^ (2 ^ F * (turn % 2 ^ k))) ∧ Hid (zs.take Q = (encFr kk p).take Q) ∧
      wr.ownsRow (w.heap.size + 1) 5 1 (.slice (some ⟨g, 0, none⟩) L cap) L (zs.map (.int .u8)) ∧ Below w.heap.size w wr) (fun i _ => 32 - (intOf i).toNat)
    case atStart => exact ⟨0, encFr kk p, by omega, rfl, HL.out, HBE, Lib.hid (by simp [Nat.mod_one]), Lib.hid rfl, HOWN2.out, HBW2.out⟩
    case round =>
      obtain ⟨k, zs, hk, rfl, hzl, HZB, HBIG, HFR, hown, hbw⟩ := hrel
      have HZL := Lib.hid hzl; clear hzl
      by_cases hlt : k < 32
      · have HTB := Lib.hid (Nat.mod_two_eq_zero_or_one (turn / 2 ^ k))
        have hcast : (turn : Int) / 2 ^ k = ((turn / 2 ^ k : Nat) : Int) := by rw [Int.natCast_ediv, Int.natCast_pow]; rfl
        have hdl : turn / 2 ^ k < 4294967296 := Nat.lt_of_le_of_lt (Nat.div_le_self _ _) ht
        have hand := u32_and_nat (turn / 2 ^ k) 1 hdl (by omega)
        rw [nat_mask1, ← hcast] at hand
        rcases HTB.out with h0 | h1
        · rw [h0] at hand
          have hsame := turn_same h0
          have HSM := Lib.hid hsame; clear hsame h0 hcast hdl
          simp only [Int.natCast_zero, Int.natCast_one] at hand
          have hbq : (bits .and .u32 ((turn : Int) / 2 ^ k) 1 == 1) = false := by rw [hand]; rfl
          clear hand
          go_wp2_with fail
          go_roundw
          case rel => exact ⟨k + 1, zs, by omega, by go_num, HZL.out, HZB, Lib.hid (by rw [HSM.out]; exact HBIG.out), HFR, hown, hbw⟩
          case measure => simp [intOf]; omega
        · rw [h1] at hand
          have H1 := Lib.hid h1; clear h1 hcast hdl
          simp only [Int.natCast_one] at hand
          have hq : (F + k) / 8 < zs.length := by rw [HZL.out]; omega
          have hqx : (F + k) / 8 < L := by omega
          have hqi : ((F : Int) + (k : Int)) / 8 < (L : Int) := by omega
          have hqi0 : (0 : Int) ≤ ((F : Int) + (k : Int)) / 8 := by omega
          have hin : zs[(F + k) / 8] ∈ zs := List.getElem_mem hq
          obtain ⟨y0, y1⟩ := HZB.out _ hin
          clear hin
          obtain ⟨y, hy⟩ := Int.eq_ofNat_of_zero_le y0
          rw [hy] at y1
          have hyl : y < 256 := by omega
          have hcell : wr.cell? ⟨g, (F + k) / 8, none⟩ = some (.int .u8 (y : Int)) := by
            rw [hown.cellAt _ (by omega), List.getElem?_map, List.getElem?_eq_getElem hq, hy]
            rfl
          have hfz := hown.frozenAt ((F + k) / 8)
          obtain ⟨p, hp⟩ : ∃ p, p = 2 ^ ((F + k) % 8) := ⟨_, rfl⟩
          have hpl : p < 256 := by rw [hp]; exact Nat.pow_lt_pow_right (a := 2) (n := 8) (by omega) (Nat.mod_lt _ (by omega))
          have hxor := u8_xor_nat y p hyl hpl
          have hst := hown.stored ((F + k) / 8) (.int .u8 ((y ^^^ p : Nat) : Int))
          have HY := Lib.hid hy
          have HST := Lib.hid hst
          have HP := Lib.hid hp
          have hpw : (2 : Int) ^ ((F + k) % 8) % 256 = (p : Int) := by
            have : ((2 ^ ((F + k) % 8) : Nat) : Int) = (2 : Int) ^ ((F + k) % 8) := by rw [Int.natCast_pow]; rfl
            rw [← this, ← hp]
            omega
          clear hy hst hp y0 y1
          go_wp2_with fail
          go_roundw
          case rel =>
            have hset : toN (zs.set ((F + k) / 8) ((y ^^^ p : Nat) : Int)) = (toN zs).set ((F + k) / 8) (y ^^^ p) := by
              unfold toN
              rw [List.map_set, Int.toNat_natCast]
            have hql : (F + k) / 8 < (toN zs).length := by rw [toN_length]; exact hq
            have hat : (toN zs)[(F + k) / 8] = y := by
              rw [toN_get zs hql hq, HY.out, Int.toNat_natCast]
            have hstep := turn_step (toN_byte HZB.out) hql HBIG.out H1.out
            rw [hat, ← HP.out, ← hset] at hstep
            refine ⟨k + 1, zs.set ((F + k) / 8) ((y ^^^ p : Nat) : Int), by omega, by go_num, by rw [List.length_set]; exact HZL.out, Lib.hid ?_, Lib.hid hstep, Lib.hid ?_, ?_, ?_⟩
            · intro x hx
              rcases List.mem_or_eq_of_mem_set hx with h | rfl
              · exact HZB.out x h
              · have := Nat.xor_lt_two_pow (n := 8) (show y < 2 ^ 8 by omega) (show p < 2 ^ 8 by omega)
                omega
            · rw [take_set (by omega)]
              exact HFR.out
            · rw [List.map_set]
              exact HST.out.1
            · exact hbw.setCell (p := ⟨g, (F + k) / 8, none⟩) (by simp only; omega) _
          case measure => simp [intOf]; omega
      · obtain rfl : k = 32 := by omega
        have hbig := HBIG.out
        rw [Nat.mod_eq_of_lt (show turn < 2 ^ 32 from ht)] at hbig
        have hfr := HFR.out
        rw [← HQ.out, Hl.out] at hfr
        have htold := getFr_told (zs := zs) (first := F) HK.out HBP.out hp (by rw [HZL.out, HL.out]) HZB.out hfr ht HPOS.out (by rw [HL.out]; omega) hbig
        have hg := fun W A c' h => fget_any A c' zs (by rw [HZL.out]; omega) W h HZB.out
        rw [htold] at hg
        simp only [noFr] at hg
        have hr := Row.of_own hown
        rw [HZL.out] at hg
        have HG := Lib.hid hg
        have HR := Lib.hid hr
        have HBW := Lib.hid hbw
        clear hbig hfr htold hg hr hown hbw HBIG hc2
        go_wp2_with fail
        refine (HG.out _ _ _ HR.out).mono ?_
        rintro e w4 ⟨A4, c4, rfl, hrow4, hb4⟩
        have bw4 : Below w.heap.size w w4 := HBW.out.trans (hb4.mono HBW.out.size)
        have HBW4 := Lib.hid bw4
        clear hb4 hrow4 bw4
        try simp only [List.length_nil]
        go_wp2_with fail
        refine (ffix_any _).mono ?_
        rintro e w5 ⟨rfl, hb5⟩
        have b5 := (HBW4.out.alloc HBW4.out.size _).trans (hb5.mono (by have := HBW4.out.size; simp; omega))
        clear hb5
        go_wp2_with fail
        go_ret
        exact ⟨rfl, b5⟩
  · have HBAD := Lib.hid (fun W => fput_bad kk a0 cap0 p hmay hml W)
    clear hmay hrow hbp
    generalize sizeI (p.length : Int) = sz at HSZ
    go_enter Try.func8, Try.ntmps8
    go_wp2_with fail
    refine (HBAD.out _).mono ?_
    rintro e w1 ⟨rfl, hb1⟩
    have hc1 : w1.cell? ⟨w.heap.size, 1, none⟩ = some (.slice a0 p.length cap0) := (hb1.cell (p := ⟨w.heap.size, 1, none⟩) (by simp)).trans (by simp [World.cell?_alloc_new])
    have bw1 : Below w.heap.size w w1 := ((Below.refl _ _).alloc (Nat.le_refl _) _).trans (hb1.mono (by simp))
    have HBW1 := Lib.hid bw1
    clear hb1 bw1
    go_wp2_with fail
    refine (HSZ.out _).mono ?_
    rintro e w2 ⟨rfl, hb2⟩
    have HBW2 := Lib.hid (HBW1.out.trans (hb2.mono HBW1.out.size))
    clear hb2 hc1
    go_wp2_with fail
    refine (ffix_any _).mono ?_
    rintro e w5 ⟨rfl, hb5⟩
    have b5 := HBW2.out.trans (hb5.mono HBW2.out.size)
    clear hb5
    go_wp2_with fail
    go_ret
    exact ⟨rfl, b5⟩

set_option maxRecDepth 100000 in
theorem lifted (os : Os) (started : os.Started) (H : Type) (enc : TypeId × Value → H) :
    ReturnsInHanded {} Try.checked os 8 .any (Rows.frameToldSpec.pre6 enc Try.prog Try.f8 Rows.frameToldRow.domain false) (Rows.frameToldSpec.post enc Try.prog Try.f8 false true false false) := by
  refine returnsInHanded_of_change (C := Try.checked) own started (by kernel_rfl) Try.func8
    (ChangeSpec.witness6 (enc := enc) (C := Try.checked) false ⟨#[], #[.agg #[.int .i64 0, .slice none 0 0], .int .u16 0, .int .u32 0], []⟩ 8 (by kernel_rfl) (by kernel_rfl) (by kernel_rfl) (by kernel_rfl)) ?_
  intro W base args ds gs before hval0 hW hcnd _
  have hval : ∀ (j : Nat) t v, Try.f8.params[j]? = some t → args[j]? = some v → Value.okWide Try.prog W .any base t v := hval0
  have hW' := hW
  obtain ⟨p, q, hA0, hV, rfl, hfz, hnd⟩ := hW
  have hA : DataW.TrodAll enc Try.prog W 0 (fun _ => true) true Try.f8.params.toList args.toList ds p := hA0
  rw [Try.params8] at hA hval
  obtain ⟨v0, vs0, d0, ds0, p0, q0, hargs, rfl, rfl, h0, r0⟩ := trodAll_cons hA
  obtain ⟨v1, vs1, d1, ds1, p1, q1, rfl, rfl, rfl, h1, r1⟩ := trodAll_cons r0
  obtain ⟨v2, vs2, d2, ds2, p2, q2, rfl, rfl, rfl, h2, r2⟩ := trodAll_cons r1
  obtain ⟨rfl, rfl, rfl⟩ := trodAll_nil r2
  obtain rfl : args = #[v0, v1, v2] := by cases args; simp_all
  obtain ⟨rfl, rfl⟩ := trodVars_none hV
  have k0 := h0
  have lt0 : ∀ x ∈ p0, x.block < W.heap.size := by obtain ⟨m, hm⟩ := k0; exact DataW.trod_lt m _ _ _ hm
  obtain ⟨fk, fp, y0, y1, nn, rfl, rfl, rfl, hfk, hfp⟩ := Joins.open_agg2 Try.underlying36 (by kernel_rfl) (by kernel_rfl) (hval 0 36 v0 rfl rfl) h0
  obtain ⟨kk, hkcs, hky, wk⟩ := DataW.trod_int Try.underlying3 hfk
  simp at hkcs
  subst hkcs
  obtain ⟨a0, len0, cap0, z0, rfl, w0⟩ : ∃ a0 len0 cap0 zs, fp = .slice a0 len0 cap0 ∧ IsRow .u8 W a0 len0 cap0 zs := by
    rcases open_ints Try.underlying22 Try.underlying5 (by kernel_rfl) hfp with ⟨hcs, _⟩ | ⟨x, l, c, zs, hcs, _, hl, hm, hz, _, hcell, hwz⟩
    · simp at hcs
      subst hcs
      exact ⟨none, 0, 0, [], rfl, .inl ⟨rfl, rfl, rfl, rfl⟩⟩
    · simp at hcs
      subst hcs
      exact ⟨some x, l, c, zs, rfl, .inr ⟨_, rfl, hl, hm, by simpa using hz, hcell, hwz⟩⟩
  obtain ⟨a1, rfl, rfl, rfl, w1⟩ := open_int Try.underlying32 (hval 1 32 v1 rfl rfl) h1
  obtain ⟨a2, rfl, rfl, rfl, w2⟩ := open_int Try.underlying23 (hval 2 23 v2 rfl rfl) h2
  clear hA0 hval0
  refine (walk kk a0 len0 cap0 z0 a1 a2 W wk w0 w1 w2).mono fun e W' ⟨he, bel⟩ => ?_
  subst he
  exact ⟨_, rfl, _, _, _, [], _, [], hW', trodAll_mk1 (shut_bool Try.underlying4 _), (trodAll_cons_mk (Below.trod laidOut (by kernel_rfl) (of_decide_eq_true (by kernel_rfl)) k0 bel lt0) (trodAll_cons_mk (shut_int Try.underlying32 w1) (trodAll_cons_mk (shut_int Try.underlying23 w2) (trodAll_mk0)))), rfl, bel.frame _, fun h => by cases h⟩

theorem over : Rows.frameToldRow.holds Try.pinned (OpenSpec.ofChange Rows.frameToldSpec) :=
  OpenClaim.holds_of_wide 8 Try.f8 rfl rfl rfl rfl rfl rfl rfl ⟨rfl, rfl, rfl, rfl, rfl⟩ rfl rfl rfl rfl rfl (by kernel_rfl) Try.func8 (by kernel_rfl)
    (of_decide_eq_true (by kernel_rfl)) (by unfold Func.isWrapper; first | (rw [if_pos (by decide +kernel)]; kernel_rfl) | (rw [if_neg (by decide +kernel)]; exact ⟨rfl, rfl⟩))
    (fun os started H enc _ => lifted os started H enc)

theorem proved : Rows.FrameToldSaid := over
#print axioms proved
end Go.Proofs.Ytbapmcocnhkjcaa.frameTold
