/-
  tachographlaw15.UnblockBack answers true at every input: the payload of points is read as these points; cut off anywhere, it is refused; with a byte more, it is refused by ErrForm. Conditions: none beyond the statement's own.
-/
import Derived.Test.YtfknibjejnmghaaRows
import Derived.WalkKit
import Derived.ProofKit
import Derived.OpenShut
import Derived.ShutString
import Derived.ChangeOld
import Derived.Below
import Derived.Lib.SmallJoins
import Derived.Deep.LoopGhost
import Derived.Test.YtfknibjejnmghaaUnblockFix
import Derived.Test.YtfknibjejnmghaaTraceRefEq
import Derived.Test.YtfknibjejnmghaaTraceGreat
import Derived.Test.YtfknibjejnmghaaSigGreat
import Derived.Test.YtfknibjejnmghaaTraceIn
namespace Go.Proofs.Ytfknibjejnmghaa.unblockBack
open Go.Proofs.Ytfknibjejnmghaa
open Go.ChangeShapes Go.WideShapes Go.ChangeAt Go.RowKit
open Go.ChangeMaps (open_string shut_string)
set_option linter.unusedVariables false

theorem own : ownKnob Try.prog.godebug = none := by kernel_rfl
theorem laidOut : laidOutB Try.prog = true := by kernel_rfl

set_option maxRecDepth 100000 in
set_option maxHeartbeats 2000000 in
theorem walk (a0 : Option Addr) (len0 cap0 : Nat) (l0 : List Pd) (a1 : Option Addr) (len1 cap1 : Nat) (l1 : List Pm) (a2 : Int) (w : World) (w0 : l0.length = len0 ∧ PredRow w w.heap.size (.slice a0 len0 cap0) l0) (w1 : l1.length = len1 ∧ TrRow w w.heap.size (.slice a1 len1 cap1) l1) (w2 : (Lit.int .u16 a2).wf = true) :
    Calls Try.prog 5 #[.slice a0 len0 cap0, .slice a1 len1 cap1, .int .u16 a2] w fun e w' => e = .returned (.bool true) ∧ Below w.heap.size w w' := by
  obtain ⟨b21, b22⟩ := bounds_u16 w2
  clear w2
  obtain ⟨rfl, hrow⟩ := w0
  obtain ⟨rfl, htr⟩ := w1
  obtain ⟨-, hc1, hc2⟩ := htr.1.len
  obtain ⟨hd1, hd2⟩ : l0.length ≤ cap0 ∧ cap0 ≤ 9223372036854775807 := by
    obtain ⟨A', c', hv, q1, q2⟩ := hrow.form
    injection hv with _ _ e3
    exact ⟨by omega, by omega⟩
  have HROW := Lib.hid hrow
  have HTR := Lib.hid htr
  have HFX := Lib.hid (fun W => fix15_any W)
  have hgr := great_any a0 cap0 l0 w hrow
  clear hrow htr
  cases hg : greatP (l0.map (·.p)) with
  | true =>
    rw [hg] at hgr
    have HG := Lib.hid hgr
    clear hg hgr
    go_enter Try.func5, Try.ntmps5
    go_wp2_with fail
    refine HG.out.mono ?_
    rintro e w2 ⟨rfl, hb2⟩
    have HB2 := Lib.hid hb2
    clear hb2
    go_wp2_with fail
    refine (HFX.out _).mono ?_
    rintro e w3 ⟨rfl, hb3⟩
    have HB3 := Lib.hid (HB2.out.trans (hb3.mono HB2.out.size))
    clear hb3
    go_wp2_with fail
    go_ret
    exact ⟨rfl, HB3.out⟩
  | false =>
    rw [hg] at hgr
    have HG := Lib.hid hgr
    clear hg hgr
    go_enter Try.func5, Try.ntmps5
    go_wp2_with fail
    refine HG.out.mono ?_
    rintro e w2 ⟨rfl, hb2⟩
    have HB2 := Lib.hid hb2
    clear hb2
    have HGT := Lib.hid (tgreat_any a1 cap1 l1 2000 w2 ((HTR.out.below HB2.out).more HB2.out.size))
    go_wp2_with fail
    refine HGT.out.mono ?_
    rintro e w3 ⟨⟨g, rfl⟩, hb3⟩
    have HB3 := Lib.hid (HB2.out.trans (hb3.mono HB2.out.size))
    clear hb3
    cases g with
    | true =>
      go_wp2_with fail
      refine (HFX.out _).mono ?_
      rintro e w4 ⟨rfl, hb4⟩
      have HB4 := Lib.hid (HB3.out.trans (hb4.mono HB3.out.size))
      clear hb4
      go_wp2_with fail
      go_ret
      exact ⟨rfl, HB4.out⟩
    | false =>
      have hpu := fun W (h : Below w.heap.size w W) => blput_any a0 cap0 l0 a1 cap1 l1 W ((HROW.out.below h).more h.size) ((HTR.out.below h).more h.size)
      have hss : ∀ q ∈ l0.map (·.p), ∀ t ∈ q.args, -9223372036854775808 ≤ t ∧ t ≤ 9223372036854775807 := fun q hq => by
        obtain ⟨d, hd, rfl⟩ := List.mem_map.1 hq
        obtain ⟨A', c', hv, h1, h2, h3, h4, h5⟩ := HROW.out
        exact (h5 d hd).2.2.2
      by_cases hP : (putB (l0.map (·.p)) l1).2 = 0
      · obtain ⟨hcb, hpl, hpe⟩ := putB_ok hP
        have hB := HTR.out.bok hcb
        have hby := payB_bytes hB
        have hp0 : 0 < (payB l1).length := by
          unfold payB
          have := encI_one_at_least (tmAt l1 0).toNat
          rw [List.length_append]
          omega
        have hthere := getU_there hB hP
        obtain ⟨x, hx⟩ : ∃ x, IntKind.u8.wrap a2 = x := ⟨_, rfl⟩
        have hxb : 0 ≤ x ∧ x < 256 := by rw [← hx, IntKind.wrap_u8]; omega
        have hmore := getU_more hB hP hss x
        have hcut := fun c => getU_cut (c := c) hB hP hss
        rw [hpe] at hpu
        unfold BGot at hpu
        dsimp only at hpu
        clear hpe hP hcb hB hss
        generalize payB l1 = p at hpu hpl hby hp0 hthere hmore hcut
        obtain ⟨j, hj, hjl⟩ : ∃ j : Nat, a2.tmod (p.length : Int) = j ∧ j < p.length := by
          rw [Int.tmod_eq_emod_of_nonneg (by omega)]
          have q1 := Int.emod_nonneg a2 (show (p.length : Int) ≠ 0 by omega)
          have q2 := Int.emod_lt_of_pos a2 (show (0 : Int) < (p.length : Int) by omega)
          exact ⟨(a2 % (p.length : Int)).toNat, by omega, by omega⟩
        have hcut1 := hcut j hjl
        obtain ⟨k2, hk2, hk2n⟩ : ∃ k2 : Int, getU (l0.map (·.p)) (p.take j) = ([], k2) ∧ k2 ≠ 0 := ⟨_, Prod.ext (getU_none hcut1) rfl, hcut1⟩
        have hne2 : (k2 != 0) = true := bne_iff_ne.2 hk2n
        have HBY := Lib.hid hby
        have hne0 : ((p.length : Int) == 0) = false := beq_eq_false_iff_ne.2 (by omega)
        have hne1 : (p.length : Int) ≠ 0 := by omega
        have hjl2 : (p.take j).length = j := by rw [List.length_take]; omega
        have hji : (j : Int) ≤ (p.length : Int) := by omega
        have HJL2 := Lib.hid hjl2
        have HK2 := Lib.hid hk2
        have HPU := Lib.hid hpu
        have HTH := Lib.hid hthere
        have HMO := Lib.hid hmore
        have HXB := Lib.hid hxb
        clear hcut hcut1 hby hjl2 hk2 hk2n hpu hthere hmore hxb
        obtain ⟨i0, hi, hz0, hz1, hz2⟩ := info_parts Try.infoU8
        go_wp2_with fail
        refine (HPU.out _ HB3.out).mono ?_
        rintro e w4 ⟨A, c, rfl, hown, hb4⟩
        have HB4 := Lib.hid (HB3.out.trans (hb4.mono HB3.out.size))
        have hr := Row.of_own hown
        have hcap : p.length ≤ c ∧ c ≤ 9223372036854775807 := by
          obtain ⟨_, _, hv, q1, q2, _⟩ := hr
          injection hv with _ _ e3
          unfold maxLen at q2
          omega
        obtain ⟨hc1, hc2⟩ := hcap
        have hjc : (j : Int) ≤ (c : Int) := by omega
        have hg0 := uget_any a0 cap0 l0 A c p HBY.out (by omega) w4 ((HROW.out.below HB4.out).more HB4.out.size) hr
        rw [HTH.out] at hg0
        have HG0 := Lib.hid hg0
        have HR := Lib.hid hr
        clear hr hown hb4 hg0 HPU
        go_wp2_with fail
        refine HG0.out.mono ?_
        rintro e w5 ⟨A5, c5, ps, rfl, hown5, hps, hb5⟩
        have HB5 := Lib.hid (HB4.out.trans (hb5.mono HB4.out.size))
        have HR5 := Lib.hid ((HR.out.below hb5).more hb5.size)
        have HT5 := Lib.hid hown5.row
        have HPS := Lib.hid hps
        have hr1 := HR5.out.take (Nat.le_of_lt hjl)
        have hg1 := uget_any a0 cap0 l0 A c (p.take j) (fun x hx => HBY.out x (List.mem_of_mem_take hx)) (by rw [HJL2.out]; omega) w5 ((HROW.out.below HB5.out).more HB5.out.size) hr1
        rw [HJL2.out, HK2.out] at hg1
        have HG1 := Lib.hid hg1
        clear hr1 hg1 hown5 hps hb5 HG0
        go_wp2_with fail
        refine HG1.out.mono ?_
        rintro e w6 ⟨A6, c6, ps6, rfl, hown6, hps6, hb6⟩
        obtain rfl : ps6 = [] := by simpa using hps6
        have hs6 := hb6.size
        have HB6 := Lib.hid (HB5.out.trans (hb6.mono HB5.out.size))
        have HR6 := Lib.hid ((HR5.out.below hb6).below ((Below.refl _ _).alloc hs6 (.cells #[] 5)))
        have HT6 := Lib.hid ((HT5.out.below hb6).more hs6)
        have hs5 := HB5.out.size
        clear hown6 hps6 hb6 HG1
        go_wp2_with (first
          | (at_builtin; refine wpList_append_row _ rfl _ _ 46 rfl w6.heap.size 5 i0 (.int .u8 0) Try.underlying46 hi hz0 hz1 hz2 rfl (.slice (some ⟨w6.heap.size, 0, none⟩) 0 0) 0 [] (by rfl) (own_none (Nat.le_refl _)) w5.heap.size _ p rfl HR6.out (by omega) (by simp) ?_; intro v7 w7 hown7 hg7 hn7; rw [Nat.zero_add, List.nil_append] at hown7; obtain ⟨A7, c7, hv7⟩ := own_form hown7; subst hv7; have HO7 := Lib.hid hown7; have hs7 : w6.heap.size + 1 ≤ w7.heap.size := (by have := hg7.size; simpa using this); have HG7 := Lib.hid hg7; clear hown7 hg7 hn7)
          | (at_builtin; refine wpList_append_own _ rfl _ _ 46 rfl w6.heap.size 5 i0 (.int .u8 0) 1 1 Try.underlying46 hi hz0 hz1 hz2 rfl (by decide) _ _ _ rfl (HO7.out.alloc _) ⟨w7.heap.size, 0, none⟩ 1 1 [.int .u8 x] rfl rfl (cell_one_new _ _ _) (by simp [Value.oneCell']) (by simp only [maxLen]; omega) (by omega) (by simp; omega) ?_; intro v8 w8 hown8 hg8 hn8))
        have hlow7 : ∀ i, (Value.slice (some ⟨w6.heap.size, 0, none⟩) 0 0).ownBlock = some i → w6.heap.size ≤ i := fun i e => by simp [Value.ownBlock] at e; omega
        have hlow8 : ∀ i, (Value.slice A7 p.length c7).ownBlock = some i → w6.heap.size ≤ i := fun i e => (World.ownsRow.lt HO7.out i e).1
        have hb8 : Below w6.heap.size w6 w8 := (((((Below.refl _ _).alloc (Nat.le_refl _) _).grown HG7.out (by simp) hlow7).alloc (by omega) _).grown hg8 (by simp; omega) hlow8)
        have hmap : p.map (Value.int .u8) ++ [.int .u8 x] = (p ++ [x]).map (.int .u8) := by simp
        have hlen8 : (p ++ [x]).length = p.length + 1 := by simp
        rw [hmap, ← hlen8] at hown8
        obtain ⟨A8, c8, rfl⟩ := own_form hown8
        have HB8 := Lib.hid (HB6.out.trans (hb8.mono HB6.out.size))
        have hg2 := uget_any a0 cap0 l0 A8 c8 (p ++ [x]) (fun y hy => by
          rcases List.mem_append.1 hy with h | h
          · exact HBY.out y h
          · rw [List.mem_singleton] at h; rw [h]; exact HXB.out) (by omega) w8 ((HROW.out.below HB8.out).more HB8.out.size) (Row.of_own hown8)
        rw [HMO.out, hlen8] at hg2
        have HG2 := Lib.hid hg2
        have HT8 := Lib.hid ((HT6.out.below hb8).more hb8.size)
        rw [hlen8]
        clear hown8 hg8 hn8 hg2 hb8 hlow7 hlow8 hmap hlen8
        refine HG2.out.mono ?_
        rintro e w9 ⟨A9, c9, ps9, rfl, hown9, hps9, hb9⟩
        obtain rfl : ps9 = [] := by simpa using hps9
        have HB9 := Lib.hid (HB8.out.trans (hb9.mono HB8.out.size))
        have HT9 := Lib.hid ((HT8.out.below hb9).more hb9.size)
        clear hown9 hps9 hb9
        go_wp2_with fail
        refine (HFX.out _).mono ?_
        rintro e w10 ⟨rfl, hb10⟩
        have HB10 := Lib.hid (HB9.out.trans (hb10.mono HB9.out.size))
        have HSM := Lib.hid (rtsame_any A5 c5 ps a1 cap1 l1 w10 ((HT9.out.below hb10).more hb10.size) ((HTR.out.below HB10.out).more HB10.out.size))
        rw [HPS.out, decide_eq_true rfl] at HSM
        clear hb10
        go_wp2_with fail
        refine HSM.out.mono ?_
        rintro e w11 ⟨rfl, hb11⟩
        have HB11 := Lib.hid (HB10.out.trans (hb11.mono HB10.out.size))
        clear hb11
        go_wp2_with fail
        go_ret
        exact ⟨rfl, HB11.out⟩
      · have hne : ((putB (l0.map (·.p)) l1).2 != 0) = true := bne_iff_ne.2 hP
        generalize putB (l0.map (·.p)) l1 = P at hpu hne
        obtain ⟨P1, P2⟩ := P
        unfold BGot at hpu
        dsimp only at hpu hne
        have HPU := Lib.hid hpu
        clear hpu hP hss
        go_wp2_with fail
        refine (HPU.out _ HB3.out).mono ?_
        rintro e w4 ⟨A4, c4, rfl, hown4, hb4⟩
        have HB4 := Lib.hid (HB3.out.trans (hb4.mono HB3.out.size))
        clear hown4 hb4 HPU
        go_wp2_with fail
        refine (HFX.out _).mono ?_
        rintro e w5 ⟨rfl, hb5⟩
        have HB5 := Lib.hid (HB4.out.trans (hb5.mono HB4.out.size))
        clear hb5
        go_wp2_with fail
        go_ret
        exact ⟨rfl, HB5.out⟩

set_option maxRecDepth 100000 in
theorem lifted (os : Os) (started : os.Started) (H : Type) (enc : TypeId × Value → H) :
    ReturnsInHanded {} Try.checked os 5 .any (Rows.unblockBackSpec.pre6 enc Try.prog Try.f5 Rows.unblockBackRow.domain false) (Rows.unblockBackSpec.post enc Try.prog Try.f5 false true false false) := by
  refine returnsInHanded_of_change (C := Try.checked) own started (by kernel_rfl) Try.func5
    (ChangeSpec.witness6 (enc := enc) (C := Try.checked) false ⟨#[], #[.slice none 0 0, .slice none 0 0, .int .u16 0], []⟩ 8 (by kernel_rfl) (by kernel_rfl) (by kernel_rfl) (by kernel_rfl)) ?_
  intro W base args ds gs before hval0 hW hcnd _
  have hval : ∀ (j : Nat) t v, Try.f5.params[j]? = some t → args[j]? = some v → Value.okWide Try.prog W .any base t v := hval0
  have hW' := hW
  obtain ⟨p, q, hA0, hV, rfl, hfz, hnd⟩ := hW
  have hA : DataW.TrodAll enc Try.prog W 0 (fun _ => true) true Try.f5.params.toList args.toList ds p := hA0
  rw [Try.params5] at hA hval
  obtain ⟨v0, vs0, d0, ds0, p0, q0, hargs, rfl, rfl, h0, r0⟩ := trodAll_cons hA
  obtain ⟨v1, vs1, d1, ds1, p1, q1, rfl, rfl, rfl, h1, r1⟩ := trodAll_cons r0
  obtain ⟨v2, vs2, d2, ds2, p2, q2, rfl, rfl, rfl, h2, r2⟩ := trodAll_cons r1
  obtain ⟨rfl, rfl, rfl⟩ := trodAll_nil r2
  obtain rfl : args = #[v0, v1, v2] := by cases args; simp_all
  obtain ⟨rfl, rfl⟩ := trodVars_none hV
  obtain ⟨a0, len0, cap0, rfl⟩ := okWide_slice Try.underlying22 (hval 0 22 v0 rfl rfl)
  have k0 := h0
  have lt0 : ∀ x ∈ p0, x.block < W.heap.size := by obtain ⟨m, hm⟩ := k0; exact DataW.trod_lt m _ _ _ hm
  obtain ⟨l0, w0⟩ : ∃ ds : List Pd, ds.length = len0 ∧ PredRow W W.heap.size (.slice a0 len0 cap0) ds := by
    obtain ⟨fuel, hf⟩ := h0
    exact preds_of hf
  obtain ⟨a1, len1, cap1, rfl⟩ := okWide_slice Try.underlying23 (hval 1 23 v1 rfl rfl)
  have k1 := h1
  have lt1 : ∀ x ∈ p1, x.block < W.heap.size := by obtain ⟨m, hm⟩ := k1; exact DataW.trod_lt m _ _ _ hm
  obtain ⟨l1, w1⟩ : ∃ ds : List Pm, ds.length = len1 ∧ TrRow W W.heap.size (.slice a1 len1 cap1) ds := by
    obtain ⟨fuel, hf⟩ := h1
    obtain ⟨ds, e1, e2, _⟩ := points_of hf
    exact ⟨ds, e1, e2⟩
  obtain ⟨a2, rfl, rfl, rfl, w2⟩ := open_int Try.underlying53 (hval 2 53 v2 rfl rfl) h2
  clear hA0 hval0
  refine (walk a0 len0 cap0 l0 a1 len1 cap1 l1 a2 W w0 w1 w2).mono fun e W' ⟨he, bel⟩ => ?_
  subst he
  exact ⟨_, rfl, _, _, _, [], _, [], hW', trodAll_mk1 (shut_bool Try.underlying4 _), (trodAll_cons_mk (Below.trod laidOut (by kernel_rfl) (of_decide_eq_true (by kernel_rfl)) k0 bel lt0) (trodAll_cons_mk (Below.trod laidOut (by kernel_rfl) (of_decide_eq_true (by kernel_rfl)) k1 bel lt1) (trodAll_cons_mk (shut_int Try.underlying53 w2) (trodAll_mk0)))), rfl, bel.frame _, fun h => by cases h⟩

theorem over : Rows.unblockBackRow.holds Try.pinned (OpenSpec.ofChange Rows.unblockBackSpec) :=
  OpenClaim.holds_of_wide 5 Try.f5 rfl rfl rfl rfl rfl rfl rfl ⟨rfl, rfl, rfl, rfl, rfl⟩ rfl rfl rfl rfl rfl (by kernel_rfl) Try.func5 (by kernel_rfl)
    (of_decide_eq_true (by kernel_rfl)) (by unfold Func.isWrapper; first | (rw [if_pos (by decide +kernel)]; kernel_rfl) | (rw [if_neg (by decide +kernel)]; exact ⟨rfl, rfl⟩))
    (fun os started H enc _ => lifted os started H enc)

theorem proved : Rows.UnblockBackSaid := over
#print axioms proved
end Go.Proofs.Ytfknibjejnmghaa.unblockBack
