/-
  tachographlaw15.UnblockTurned answers true at every input: a payload with any one byte turned is read as other points, or not at all. Conditions: none beyond the statement's own.
-/
import Derived.Test.YtfknibjejnmghaaRows
import Derived.WalkKit
import Derived.ProofKit
import Derived.OpenShut
import Derived.ShutString
import Derived.ChangeOld
import Derived.Below
import Derived.Lib.SmallJoins
import Derived.Deep.LoopGhost
import Derived.Test.YtfknibjejnmghaaUnblockFix
import Derived.Test.YtfknibjejnmghaaTraceRefEq
import Derived.Test.YtfknibjejnmghaaTraceGreat
import Derived.Test.YtfknibjejnmghaaSigGreat
import Derived.Test.YtfknibjejnmghaaTraceIn
import Derived.Test.YtfknibjejnmghaaCrcs
namespace Go.Proofs.Ytfknibjejnmghaa.unblockTurned
open Go.Proofs.Ytfknibjejnmghaa
open Go.ChangeShapes Go.WideShapes Go.ChangeAt Go.RowKit
open Go.ChangeMaps (open_string shut_string)
set_option linter.unusedVariables false

theorem own : ownKnob Try.prog.godebug = none := by kernel_rfl
theorem laidOut : laidOutB Try.prog = true := by kernel_rfl

set_option maxRecDepth 100000 in
set_option maxHeartbeats 2000000 in
theorem walk (a0 : Option Addr) (len0 cap0 : Nat) (l0 : List Pd) (a1 : Option Addr) (len1 cap1 : Nat) (l1 : List Pm) (a2 : Int) (w : World) (w0 : l0.length = len0 ∧ PredRow w w.heap.size (.slice a0 len0 cap0) l0) (w1 : l1.length = len1 ∧ TrRow w w.heap.size (.slice a1 len1 cap1) l1) (w2 : (Lit.int .u16 a2).wf = true) :
    Calls Try.prog 6 #[.slice a0 len0 cap0, .slice a1 len1 cap1, .int .u16 a2] w fun e w' => e = .returned (.bool true) ∧ Below w.heap.size w w' := by
  obtain ⟨b21, b22⟩ := bounds_u16 w2
  clear w2
  obtain ⟨rfl, hrow⟩ := w0
  obtain ⟨rfl, htr⟩ := w1
  obtain ⟨-, hc1, hc2⟩ := htr.1.len
  obtain ⟨hd1, hd2⟩ : l0.length ≤ cap0 ∧ cap0 ≤ 9223372036854775807 := by
    obtain ⟨A', c', hv, q1, q2⟩ := hrow.form
    injection hv with _ _ e3
    exact ⟨by omega, by omega⟩
  have HROW := Lib.hid hrow
  have HTR := Lib.hid htr
  have HFX := Lib.hid (fun W => fix15_any W)
  have hgr := great_any a0 cap0 l0 w hrow
  clear hrow htr
  cases hg : greatP (l0.map (·.p)) with
  | true =>
    rw [hg] at hgr
    have HG := Lib.hid hgr
    clear hg hgr
    go_enter Try.func6, Try.ntmps6
    go_wp2_with fail
    refine HG.out.mono ?_
    rintro e w2 ⟨rfl, hb2⟩
    have HB2 := Lib.hid hb2
    clear hb2
    go_wp2_with fail
    refine (HFX.out _).mono ?_
    rintro e w3 ⟨rfl, hb3⟩
    have HB3 := Lib.hid (HB2.out.trans (hb3.mono HB2.out.size))
    clear hb3
    go_wp2_with fail
    go_ret
    exact ⟨rfl, HB3.out⟩
  | false =>
    rw [hg] at hgr
    have HG := Lib.hid hgr
    clear hg hgr
    go_enter Try.func6, Try.ntmps6
    go_wp2_with fail
    refine HG.out.mono ?_
    rintro e w2 ⟨rfl, hb2⟩
    have HB2 := Lib.hid hb2
    clear hb2
    have HGT := Lib.hid (tgreat_any a1 cap1 l1 2000 w2 ((HTR.out.below HB2.out).more HB2.out.size))
    go_wp2_with fail
    refine HGT.out.mono ?_
    rintro e w3 ⟨⟨g, rfl⟩, hb3⟩
    have HB3 := Lib.hid (HB2.out.trans (hb3.mono HB2.out.size))
    clear hb3
    cases g with
    | true =>
      go_wp2_with fail
      refine (HFX.out _).mono ?_
      rintro e w4 ⟨rfl, hb4⟩
      have HB4 := Lib.hid (HB3.out.trans (hb4.mono HB3.out.size))
      clear hb4
      go_wp2_with fail
      go_ret
      exact ⟨rfl, HB4.out⟩
    | false =>
      have hpu := fun W (h : Below w.heap.size w W) => blput_any a0 cap0 l0 a1 cap1 l1 W ((HROW.out.below h).more h.size) ((HTR.out.below h).more h.size)
      have hss : ∀ q ∈ l0.map (·.p), ∀ t ∈ q.args, -9223372036854775808 ≤ t ∧ t ≤ 9223372036854775807 := fun q hq => by
        obtain ⟨d, hd, rfl⟩ := List.mem_map.1 hq
        obtain ⟨A', c', hv, h1, h2, h3, h4, h5⟩ := HROW.out
        exact (h5 d hd).2.2.2
      by_cases hP : (putB (l0.map (·.p)) l1).2 = 0
      · obtain ⟨hcb, hpl, hpe⟩ := putB_ok hP
        have hB := HTR.out.bok hcb
        have hby := payB_bytes hB
        have hp0 : 0 < (payB l1).length := by
          unfold payB
          have := encI_one_at_least (tmAt l1 0).toNat
          rw [List.length_append]
          omega
        rw [hpe] at hpu
        unfold BGot at hpu
        dsimp only at hpu
        have hturn := fun (ys : List Int) h1 h2 h3 => getU_turned (ys := ys) hP h1 hss h2 h3
        clear hpe hP hcb hB hss
        generalize payB l1 = p at hpu hpl hby hp0 hturn
        obtain ⟨n2, rfl⟩ := Int.eq_ofNat_of_zero_le b21
        obtain ⟨j, hj, hjl⟩ : ∃ j : Nat, (n2 : Int).tmod (p.length : Int) = j ∧ j < p.length := by
          rw [Int.tmod_eq_emod_of_nonneg (by omega)]
          have q1 := Int.emod_nonneg (n2 : Int) (show (p.length : Int) ≠ 0 by omega)
          have q2 := Int.emod_lt_of_pos (n2 : Int) (show (0 : Int) < (p.length : Int) by omega)
          exact ⟨((n2 : Int) % (p.length : Int)).toNat, by omega, by omega⟩
        obtain ⟨v0, hv0⟩ : ∃ v0, p[j]? = some v0 := ⟨_, List.getElem?_eq_getElem hjl⟩
        obtain ⟨y0, y1⟩ := hby v0 (List.mem_of_getElem? hv0)
        obtain ⟨y, rfl⟩ := Int.eq_ofNat_of_zero_le y0
        have hyl : y < 256 := by omega
        obtain ⟨h, hh⟩ : ∃ h, h = n2 / 256 := ⟨_, rfl⟩
        have hhl : h < 256 := by omega
        obtain ⟨d, hd⟩ : ∃ d, d = 1 + h % 255 := ⟨_, rfl⟩
        have hdl : 0 < d ∧ d < 256 := by omega
        have s1 : (n2 : Int) / 256 = (h : Int) := by omega
        have s2 : IntKind.u8.wrap (h : Int) = (h : Int) := by rw [IntKind.wrap_u8]; omega
        have u0 : (h : Int).tmod 255 = (h : Int) % 255 := by rw [Int.tmod_eq_emod_of_nonneg (by omega)]
        have u2 : IntKind.u8.wrap (1 + (h : Int) % 255) = (d : Int) := by rw [IntKind.wrap_u8]; omega
        have u3 : 1 + (h : Int) % 255 = (d : Int) := by omega
        have hxor := u8_xor_nat y d hyl hdl.2
        have hyy : y ^^^ d ≠ y := by
          intro q
          have h2 : d = 0 := by
            have := congrArg (y ^^^ ·) q
            simp only [← Nat.xor_assoc, Nat.xor_self, Nat.zero_xor] at this
            exact this
          omega
        have hxl : y ^^^ d < 256 := Nat.xor_lt_two_pow (n := 8) hyl hdl.2
        generalize y ^^^ d = yy at hxor hyy hxl
        have hbs : ∀ x ∈ p.set j (yy : Int), 0 ≤ x ∧ x < 256 := fun x hx => by
          rcases List.mem_or_eq_of_mem_set hx with q | rfl
          · exact hby x q
          · omega
        have hne : p.set j (yy : Int) ≠ p := fun q => by
          have h1 : (p.set j (yy : Int))[j]? = some (yy : Int) := by rw [List.getElem?_set_self hjl]
          rw [q, hv0] at h1
          injection h1 with h1
          omega
        have htr := hturn _ hbs hne
        have hls : (p.set j (yy : Int)).length = p.length := List.length_set
        have hno := fun q => getU_none (sig := l0.map (·.p)) (xs := p.set j (yy : Int)) q
        have hne0 : ((p.length : Int) == 0) = false := beq_eq_false_iff_ne.2 (by omega)
        have hne1 : (p.length : Int) ≠ 0 := by omega
        have hji : (j : Int) < (p.length : Int) := by omega
        have hji0 : (0 : Int) ≤ (j : Int) := by omega
        have HPU := Lib.hid hpu
        have HBS := Lib.hid hbs
        have HLS := Lib.hid hls
        have HV0 := Lib.hid (show (p.map (Value.int .u8))[j]? = some (.int .u8 (y : Int)) by rw [List.getElem?_map, hv0]; rfl)
        clear hpu hbs hls hby hne hturn hv0 hyy hd hh y0 y1
        by_cases hk : (getU (l0.map (·.p)) (p.set j (yy : Int))).2 = 0
        · have HNEQ := Lib.hid (htr hk)
          obtain ⟨L, hR⟩ : ∃ L, getU (l0.map (·.p)) (p.set j (yy : Int)) = (L, 0) := ⟨_, Prod.ext rfl hk⟩
          rw [hR] at HNEQ
          dsimp only at HNEQ
          clear hk htr hno
          go_wp2_with fail
          refine (HPU.out _ HB3.out).mono ?_
          rintro e w4 ⟨A, c, rfl, hown, hb4⟩
          have hb34 := hb4
          have HB4 := Lib.hid (HB3.out.trans (hb4.mono HB3.out.size))
          obtain ⟨g0, rfl, hg0, hcell, hfz, hset⟩ := own_write hown (by omega) HV0.out
          have hcap : p.length ≤ c ∧ c ≤ 9223372036854775807 := by
            obtain ⟨_, _, hv, q1, q2, _⟩ := Row.of_own hown
            injection hv with _ _ e3
            unfold maxLen at q2
            omega
          obtain ⟨hc1, hc2⟩ := hcap
          have hs3 := HB3.out.size
          have HROW5 := Lib.hid (Row.of_own (xs := p.set j (yy : Int)) (n := p.length) (by rw [List.map_set]; exact hset (.int .u8 (yy : Int))))
          have HB5 := Lib.hid (HB4.out.setCell (p := ⟨g0, j, none⟩) (show w.heap.size ≤ g0 by omega) (.int .u8 (yy : Int)))
          have hg1 := uget_any a0 cap0 l0 (some ⟨g0, 0, none⟩) c (p.set j (yy : Int)) HBS.out (by rw [HLS.out]; omega) (w4.setCell ⟨g0, j, none⟩ (.int .u8 (yy : Int))) ((HROW.out.below HB5.out).more HB5.out.size) (by rw [HLS.out]; exact HROW5.out)
          rw [HLS.out] at hg1
          unfold UGot at hg1
          rw [hR] at hg1
          have HG1 := Lib.hid hg1
          clear hown hb4 hb34 hset hg1 hR
          go_wp2_with fail
          refine HG1.out.mono ?_
          rintro e w6 ⟨A6, c6, ps, rfl, hown6, hps, hb6⟩
          have HB6 := Lib.hid (HB5.out.trans (hb6.mono HB5.out.size))
          have HT6 := Lib.hid hown6.row
          have HPS := Lib.hid hps
          clear hown6 hps hb6 HG1
          go_wp2_with fail
          refine (HFX.out _).mono ?_
          rintro e w7 ⟨rfl, hb7⟩
          have HB7 := Lib.hid (HB6.out.trans (hb7.mono HB6.out.size))
          have HSM := Lib.hid (rtsame_any A6 c6 ps a1 cap1 l1 w7 ((HT6.out.below hb7).more hb7.size) ((HTR.out.below HB7.out).more HB7.out.size))
          rw [HPS.out, decide_eq_false HNEQ.out] at HSM
          clear hb7
          go_wp2_with fail
          refine HSM.out.mono ?_
          rintro e w8 ⟨rfl, hb8⟩
          have HB8 := Lib.hid (HB7.out.trans (hb8.mono HB7.out.size))
          clear hb8
          go_wp2_with fail
          go_ret
          exact ⟨rfl, HB8.out⟩
        · obtain ⟨k, hR, hk0⟩ : ∃ k : Int, getU (l0.map (·.p)) (p.set j (yy : Int)) = ([], k) ∧ k ≠ 0 := ⟨_, Prod.ext (hno hk) rfl, hk⟩
          have hkn : (k != 0) = true := bne_iff_ne.2 hk0
          have hkn2 : (k == 0) = false := beq_eq_false_iff_ne.2 hk0
          clear hk htr hno hk0
          go_wp2_with fail
          refine (HPU.out _ HB3.out).mono ?_
          rintro e w4 ⟨A, c, rfl, hown, hb4⟩
          have hb34 := hb4
          have HB4 := Lib.hid (HB3.out.trans (hb4.mono HB3.out.size))
          obtain ⟨g0, rfl, hg0, hcell, hfz, hset⟩ := own_write hown (by omega) HV0.out
          have hcap : p.length ≤ c ∧ c ≤ 9223372036854775807 := by
            obtain ⟨_, _, hv, q1, q2, _⟩ := Row.of_own hown
            injection hv with _ _ e3
            unfold maxLen at q2
            omega
          obtain ⟨hc1, hc2⟩ := hcap
          have hs3 := HB3.out.size
          have HROW5 := Lib.hid (Row.of_own (xs := p.set j (yy : Int)) (n := p.length) (by rw [List.map_set]; exact hset (.int .u8 (yy : Int))))
          have HB5 := Lib.hid (HB4.out.setCell (p := ⟨g0, j, none⟩) (show w.heap.size ≤ g0 by omega) (.int .u8 (yy : Int)))
          have hg1 := uget_any a0 cap0 l0 (some ⟨g0, 0, none⟩) c (p.set j (yy : Int)) HBS.out (by rw [HLS.out]; omega) (w4.setCell ⟨g0, j, none⟩ (.int .u8 (yy : Int))) ((HROW.out.below HB5.out).more HB5.out.size) (by rw [HLS.out]; exact HROW5.out)
          rw [HLS.out] at hg1
          unfold UGot at hg1
          rw [hR] at hg1
          have HG1 := Lib.hid hg1
          clear hown hb4 hb34 hset hg1 hR
          go_wp2_with fail
          refine HG1.out.mono ?_
          rintro e w6 ⟨A6, c6, ps, rfl, hown6, hps, hb6⟩
          have HB6 := Lib.hid (HB5.out.trans (hb6.mono HB5.out.size))
          have HT6 := Lib.hid hown6.row
          have HPS := Lib.hid hps
          obtain rfl : ps = [] := by simpa using hps
          clear hown6 hps hb6 HG1
          go_wp2_with fail
          refine (HFX.out _).mono ?_
          rintro e w7 ⟨rfl, hb7⟩
          have HB7 := Lib.hid (HB6.out.trans (hb7.mono HB6.out.size))
          clear hb7
          go_wp2_with fail
          go_ret
          exact ⟨rfl, HB7.out⟩
      · have hne : ((putB (l0.map (·.p)) l1).2 != 0) = true := bne_iff_ne.2 hP
        generalize putB (l0.map (·.p)) l1 = P at hpu hne
        obtain ⟨P1, P2⟩ := P
        unfold BGot at hpu
        dsimp only at hpu hne
        have HPU := Lib.hid hpu
        clear hpu hP hss
        go_wp2_with fail
        refine (HPU.out _ HB3.out).mono ?_
        rintro e w4 ⟨A4, c4, rfl, hown4, hb4⟩
        have HB4 := Lib.hid (HB3.out.trans (hb4.mono HB3.out.size))
        clear hown4 hb4 HPU
        go_wp2_with fail
        refine (HFX.out _).mono ?_
        rintro e w5 ⟨rfl, hb5⟩
        have HB5 := Lib.hid (HB4.out.trans (hb5.mono HB4.out.size))
        clear hb5
        go_wp2_with fail
        go_ret
        exact ⟨rfl, HB5.out⟩

set_option maxRecDepth 100000 in
theorem lifted (os : Os) (started : os.Started) (H : Type) (enc : TypeId × Value → H) :
    ReturnsInHanded {} Try.checked os 6 .any (Rows.unblockTurnedSpec.pre6 enc Try.prog Try.f6 Rows.unblockTurnedRow.domain false) (Rows.unblockTurnedSpec.post enc Try.prog Try.f6 false true false false) := by
  refine returnsInHanded_of_change (C := Try.checked) own started (by kernel_rfl) Try.func6
    (ChangeSpec.witness6 (enc := enc) (C := Try.checked) false ⟨#[], #[.slice none 0 0, .slice none 0 0, .int .u16 0], []⟩ 8 (by kernel_rfl) (by kernel_rfl) (by kernel_rfl) (by kernel_rfl)) ?_
  intro W base args ds gs before hval0 hW hcnd _
  have hval : ∀ (j : Nat) t v, Try.f6.params[j]? = some t → args[j]? = some v → Value.okWide Try.prog W .any base t v := hval0
  have hW' := hW
  obtain ⟨p, q, hA0, hV, rfl, hfz, hnd⟩ := hW
  have hA : DataW.TrodAll enc Try.prog W 0 (fun _ => true) true Try.f6.params.toList args.toList ds p := hA0
  rw [Try.params6] at hA hval
  obtain ⟨v0, vs0, d0, ds0, p0, q0, hargs, rfl, rfl, h0, r0⟩ := trodAll_cons hA
  obtain ⟨v1, vs1, d1, ds1, p1, q1, rfl, rfl, rfl, h1, r1⟩ := trodAll_cons r0
  obtain ⟨v2, vs2, d2, ds2, p2, q2, rfl, rfl, rfl, h2, r2⟩ := trodAll_cons r1
  obtain ⟨rfl, rfl, rfl⟩ := trodAll_nil r2
  obtain rfl : args = #[v0, v1, v2] := by cases args; simp_all
  obtain ⟨rfl, rfl⟩ := trodVars_none hV
  obtain ⟨a0, len0, cap0, rfl⟩ := okWide_slice Try.underlying22 (hval 0 22 v0 rfl rfl)
  have k0 := h0
  have lt0 : ∀ x ∈ p0, x.block < W.heap.size := by obtain ⟨m, hm⟩ := k0; exact DataW.trod_lt m _ _ _ hm
  obtain ⟨l0, w0⟩ : ∃ ds : List Pd, ds.length = len0 ∧ PredRow W W.heap.size (.slice a0 len0 cap0) ds := by
    obtain ⟨fuel, hf⟩ := h0
    exact preds_of hf
  obtain ⟨a1, len1, cap1, rfl⟩ := okWide_slice Try.underlying23 (hval 1 23 v1 rfl rfl)
  have k1 := h1
  have lt1 : ∀ x ∈ p1, x.block < W.heap.size := by obtain ⟨m, hm⟩ := k1; exact DataW.trod_lt m _ _ _ hm
  obtain ⟨l1, w1⟩ : ∃ ds : List Pm, ds.length = len1 ∧ TrRow W W.heap.size (.slice a1 len1 cap1) ds := by
    obtain ⟨fuel, hf⟩ := h1
    obtain ⟨ds, e1, e2, _⟩ := points_of hf
    exact ⟨ds, e1, e2⟩
  obtain ⟨a2, rfl, rfl, rfl, w2⟩ := open_int Try.underlying53 (hval 2 53 v2 rfl rfl) h2
  clear hA0 hval0
  refine (walk a0 len0 cap0 l0 a1 len1 cap1 l1 a2 W w0 w1 w2).mono fun e W' ⟨he, bel⟩ => ?_
  subst he
  exact ⟨_, rfl, _, _, _, [], _, [], hW', trodAll_mk1 (shut_bool Try.underlying4 _), (trodAll_cons_mk (Below.trod laidOut (by kernel_rfl) (of_decide_eq_true (by kernel_rfl)) k0 bel lt0) (trodAll_cons_mk (Below.trod laidOut (by kernel_rfl) (of_decide_eq_true (by kernel_rfl)) k1 bel lt1) (trodAll_cons_mk (shut_int Try.underlying53 w2) (trodAll_mk0)))), rfl, bel.frame _, fun h => by cases h⟩

theorem over : Rows.unblockTurnedRow.holds Try.pinned (OpenSpec.ofChange Rows.unblockTurnedSpec) :=
  OpenClaim.holds_of_wide 6 Try.f6 rfl rfl rfl rfl rfl rfl rfl ⟨rfl, rfl, rfl, rfl, rfl⟩ rfl rfl rfl rfl rfl (by kernel_rfl) Try.func6 (by kernel_rfl)
    (of_decide_eq_true (by kernel_rfl)) (by unfold Func.isWrapper; first | (rw [if_pos (by decide +kernel)]; kernel_rfl) | (rw [if_neg (by decide +kernel)]; exact ⟨rfl, rfl⟩))
    (fun os started H enc _ => lifted os started H enc)

theorem proved : Rows.UnblockTurnedSaid := over
#print axioms proved
end Go.Proofs.Ytfknibjejnmghaa.unblockTurned
