/-
  At every signature and every number the law on its predicates' names and its first parts comes out true, and nothing that lay in memory has changed. No condition.
-/
import Derived.Test.YtfbpgkohekfkjaaRows
import Derived.WalkKit
import Derived.ProofKit
import Derived.OpenShut
import Derived.ShutString
import Derived.ChangeOld
import Derived.Below
import Derived.Lib.SmallJoins
import Derived.Deep.LoopGhost
import Derived.Test.YtfbpgkohekfkjaaSigCode
import Derived.Test.YtfbpgkohekfkjaaSigGreat
namespace Go.Proofs.Ytfbpgkohekfkjaa.sigFirst
open Go.Proofs.Ytfbpgkohekfkjaa
open Go.ChangeShapes Go.WideShapes Go.ChangeAt Go.RowKit
open Go.ChangeMaps (open_string shut_string)
set_option linter.unusedVariables false

theorem own : ownKnob Try.prog.godebug = none := by kernel_rfl
theorem laidOut : laidOutB Try.prog = true := by kernel_rfl

set_option maxRecDepth 100000 in
set_option maxHeartbeats 2000000 in
theorem walk (HCk : CheckC) (HFi : FindC) (HNa : NameC) (a0 : Option Addr) (len0 cap0 : Nat) (l0 : List Pd) (a1 : Int) (w : World) (w0 : l0.length = len0 ∧ PredRow w w.heap.size (.slice a0 len0 cap0) l0) (w1 : (Lit.int .u8 a1).wf = true) :
    Calls Try.prog 5 #[.slice a0 len0 cap0, .int .u8 a1] w fun e w' => e = .returned (.bool true) ∧ Below w.heap.size w w' := by
  obtain ⟨rfl, hrow⟩ := w0
  obtain ⟨u0, u1⟩ := bounds_u8 w1
  clear w1
  obtain ⟨n, rfl⟩ : ∃ n : Nat, (n : Int) = a1 := ⟨a1.toNat, by omega⟩
  have hn : n ≤ 255 := by omega
  clear u0 u1
  obtain ⟨_, hc1, hc2⟩ : ∃ _ : True, l0.length ≤ cap0 ∧ cap0 ≤ 9223372036854775807 := by
    obtain ⟨A', c', hv, q1, q2⟩ := hrow.form
    injection hv with _ _ e3
    exact ⟨trivial, by omega, by omega⟩
  have HK := Lib.hid HCk
  have HI := Lib.hid HFi
  have HA := Lib.hid HNa
  have HROW := Lib.hid hrow
  have HFX := Lib.hid (fun W => gfix_any HCk W)
  have hgr := great_any a0 cap0 l0 w hrow
  clear hrow HCk HFi HNa
  cases hg : greatP (l0.map (·.p)) with
  | true =>
    rw [hg] at hgr
    have HG := Lib.hid hgr
    clear hg hgr
    go_enter Try.func5, Try.ntmps5
    go_wp2_with fail
    refine HG.out.mono ?_
    rintro e w2 ⟨rfl, hb2⟩
    have HB2 := Lib.hid hb2
    clear hb2
    go_wp2_with fail
    refine (HFX.out _).mono ?_
    rintro e w3 ⟨rfl, hb3⟩
    have HB3 := Lib.hid (HB2.out.trans (hb3.mono HB2.out.size))
    clear hb3
    go_wp2_with fail
    go_ret
    exact ⟨rfl, HB3.out⟩
  | false =>
    have hl1 := (greatP_no hg).1
    rw [List.length_map] at hl1
    rw [hg] at hgr
    have HG := Lib.hid hgr
    clear hg hgr
    go_enter Try.func5, Try.ntmps5
    go_wp2_with fail
    refine HG.out.mono ?_
    rintro e w2 ⟨rfl, hb2⟩
    have HB2 := Lib.hid hb2
    have HR2 := Lib.hid ((HROW.out.below hb2).more hb2.size)
    have hz2 := hb2.size
    clear hb2
    go_wp2_with fail
    have hck := HK.out a0 cap0 l0 w2 HR2.out
    by_cases hok : checkP (l0.map (·.p)) = 0
    · rw [hok] at hck
      have HOK := Lib.hid hok
      refine hck.mono ?_
      rintro e w3 ⟨rfl, hb3⟩
      have HB3 := Lib.hid (HB2.out.trans (hb3.mono hz2))
      have HR3 := Lib.hid ((HR2.out.below hb3).more hb3.size)
      have hz3 : w.heap.size ≤ w3.heap.size := Nat.le_trans hz2 hb3.size
      clear hb3 hck hok
      go_wp2_with fail
      go_loopg [19] l0.length (fun gk i wr => ∃ k : Nat, k ≤ l0.length ∧ i = .int .i64 k ∧ Hid (l0.length - k = gk) ∧ w3.heap.size ≤ wr.heap.size ∧ Hid (Below w3.heap.size w3 wr))
      case atStart => exact ⟨0, Nat.zero_le _, rfl, Lib.hid rfl, Nat.le_refl _, Lib.hid (Below.refl _ _)⟩
      case round =>
        obtain ⟨k, hk, rfl, HGK, hzr, HBR⟩ := hrel
        have hrr := (HR3.out.below HBR.out).more hzr
        by_cases hlt : k < l0.length
        · obtain ⟨d, hd⟩ : ∃ d, l0[k]? = some d := ⟨_, List.getElem?_eq_getElem hlt⟩
          obtain ⟨hself, hname⟩ := checkP_found_self HOK.out (at_pr hd)
          have HSELF := Lib.hid hself
          have HNAME := Lib.hid hname
          have HRR := Lib.hid hrr
          obtain ⟨b, o, rfl, hb, x0, x1, hir, hfit, _, _⟩ := hrr.at hd
          have HFT := Lib.hid hfit
          clear hir hfit hd hself hname
          have bal : Below wr.heap.size wr (wr.alloc (.cells #[.string (strOfNums d.p.name), .slice d.A d.p.args.length d.c] 37)) := (Below.refl _ _).alloc (Nat.le_refl _) _
          have hcp : Held (wr.alloc (.cells #[.string (strOfNums d.p.name), .slice d.A d.p.args.length d.c] 37)) wr.heap.size 37 #[.string (strOfNums d.p.name), .slice d.A d.p.args.length d.c] := heap_alloc_new wr _
          have hra := (HRR.out.below bal).more bal.size
          have hfi := HI.out _ cap0 l0 d.p.name _ hra HFT.out.2.1 HFT.out.1
          rw [HSELF.out, show max (k : Int) 0 = (k : Int) by omega, show decide (0 ≤ (k : Int)) = true by simp] at hfi
          have HFI := Lib.hid hfi
          have HCP := Lib.hid hcp
          have HBAL := Lib.hid bal
          have hsa : (wr.alloc (.cells #[.string (strOfNums d.p.name), .slice d.A d.p.args.length d.c] 37)).heap.size = wr.heap.size + 1 := World.size_alloc _ _
          clear hra hfi hcp bal
          go_wp2_with fail
          refine HFI.out.mono ?_
          rintro e w4 ⟨rfl, hb4⟩
          have hz4 : wr.heap.size + 1 ≤ w4.heap.size := by have := hb4.size; omega
          have hc4 := (hb4.cell (p := ⟨wr.heap.size, 0, none⟩) (by simp)).trans (HCP.out.cell 0)
          simp at hc4
          have HB4 := Lib.hid (HBR.out.trans ((HBAL.out.trans (hb4.mono (by omega))).mono hzr))
          have HNM := Lib.hid (HA.out d.p.name w4 HFT.out.2.1 HFT.out.1)
          rw [HNAME.out] at HNM
          clear hb4
          go_wp2_with fail
          refine HNM.out.mono ?_
          rintro e w5 ⟨rfl, hb5⟩
          have hz5 : w3.heap.size ≤ w5.heap.size := by have := hb5.size; omega
          have HB5 := Lib.hid (HB4.out.trans (hb5.mono (by omega)))
          clear hb5
          go_wp2_with fail
          go_roundg (l0.length - (k + 1))
          case measure => have := HGK.out; omega
          case rel => exact ⟨k + 1, by omega, by go_num, Lib.hid rfl, hz5, HB5⟩
        · have hge : l0.length ≤ k := by omega
          have HRR := Lib.hid hrr
          have hwr : w.heap.size ≤ wr.heap.size := by omega
          have HBW := Lib.hid (HB3.out.trans (HBR.out.mono hz3))
          clear hrr
          go_wp2_with fail
          refine (HFX.out _).mono ?_
          rintro e w4 ⟨rfl, hb4⟩
          have hz4 : w.heap.size ≤ w4.heap.size := by have := hb4.size; omega
          obtain ⟨m, hm⟩ : ∃ m, n % (l0.length + 1) = m := ⟨_, rfl⟩
          have hmle : m ≤ l0.length := by have := Nat.mod_lt n (by omega : 0 < l0.length + 1); omega
          have hrem : (n : Int).tmod ((l0.length : Int) + 1) = (m : Int) := by
            rw [Int.tmod_eq_emod_of_nonneg (by omega), ← hm, Int.natCast_emod, Int.natCast_add]
            rfl
          have hmi : (m : Int) ≤ l0.length := by omega
          have htk := ((HRR.out.below hb4).more hb4.size).take (k := m) hmle
          have htl : (l0.take m).length = m := by rw [List.length_take]; omega
          have hck := HK.out a0 cap0 (l0.take m) w4 htk
          rw [List.map_take, checkP_take HOK.out m, htl] at hck
          have HCK := Lib.hid hck
          have HB4 := Lib.hid (HBW.out.trans (hb4.mono hwr))
          clear hb4 htk htl hck hm
          go_wp2_with fail
          refine HCK.out.mono ?_
          rintro e w5 ⟨rfl, hb5⟩
          have HB5 := Lib.hid (HB4.out.trans (hb5.mono hz4))
          clear hb5
          go_wp2_with fail
          go_ret
          exact ⟨rfl, HB5.out⟩
    · have hne : (checkP (l0.map (·.p)) != 0) = true := bne_iff_ne.2 hok
      generalize checkP (l0.map (·.p)) = C at hck hne
      refine hck.mono ?_
      rintro e w3 ⟨rfl, hb3⟩
      have HB3 := Lib.hid (HB2.out.trans (hb3.mono hz2))
      clear hb3 hck hok
      go_wp2_with fail
      refine (HFX.out _).mono ?_
      rintro e w4 ⟨rfl, hb4⟩
      have HB4 := Lib.hid (HB3.out.trans (hb4.mono HB3.out.size))
      clear hb4
      go_wp2_with fail
      go_ret
      exact ⟨rfl, HB4.out⟩

set_option maxRecDepth 100000 in
theorem lifted (os : Os) (started : os.Started) (H : Type) (enc : TypeId × Value → H) :
    ReturnsInHanded {} Try.checked os 5 .any (Rows.sigFirstSpec.pre6 enc Try.prog Try.f5 Rows.sigFirstRow.domain false) (Rows.sigFirstSpec.post enc Try.prog Try.f5 false true false false) := by
  refine returnsInHanded_of_change (C := Try.checked) own started (by kernel_rfl) Try.func5
    (ChangeSpec.witness6 (enc := enc) (C := Try.checked) false ⟨#[], #[.slice none 0 0, .int .u8 0], []⟩ 8 (by kernel_rfl) (by kernel_rfl) (by kernel_rfl) (by kernel_rfl)) ?_
  intro W base args ds gs before hval0 hW hcnd _
  have hval : ∀ (j : Nat) t v, Try.f5.params[j]? = some t → args[j]? = some v → Value.okWide Try.prog W .any base t v := hval0
  have hW' := hW
  obtain ⟨p, q, hA0, hV, rfl, hfz, hnd⟩ := hW
  have hA : DataW.TrodAll enc Try.prog W 0 (fun _ => true) true Try.f5.params.toList args.toList ds p := hA0
  rw [Try.params5] at hA hval
  obtain ⟨v0, vs0, d0, ds0, p0, q0, hargs, rfl, rfl, h0, r0⟩ := trodAll_cons hA
  obtain ⟨v1, vs1, d1, ds1, p1, q1, rfl, rfl, rfl, h1, r1⟩ := trodAll_cons r0
  obtain ⟨rfl, rfl, rfl⟩ := trodAll_nil r1
  obtain rfl : args = #[v0, v1] := by cases args; simp_all
  obtain ⟨rfl, rfl⟩ := trodVars_none hV
  obtain ⟨a0, len0, cap0, rfl⟩ := okWide_slice Try.underlying22 (hval 0 22 v0 rfl rfl)
  have k0 := h0
  have lt0 : ∀ x ∈ p0, x.block < W.heap.size := by obtain ⟨m, hm⟩ := k0; exact DataW.trod_lt m _ _ _ hm
  obtain ⟨l0, w0⟩ : ∃ ds : List Pd, ds.length = len0 ∧ PredRow W W.heap.size (.slice a0 len0 cap0) ds := by
    obtain ⟨fuel, hf⟩ := h0
    exact preds_of hf
  obtain ⟨a1, rfl, rfl, rfl, w1⟩ := open_int Try.underlying5 (hval 1 5 v1 rfl rfl) h1
  clear hA0 hval0
  refine (walk scheck_any sfind_any sname_any a0 len0 cap0 l0 a1 W w0 w1).mono fun e W' ⟨he, bel⟩ => ?_
  subst he
  exact ⟨_, rfl, _, _, _, [], _, [], hW', trodAll_mk1 (shut_bool Try.underlying4 _), (trodAll_cons_mk (Below.trod laidOut (by kernel_rfl) (of_decide_eq_true (by kernel_rfl)) k0 bel lt0) (trodAll_cons_mk (shut_int Try.underlying5 w1) (trodAll_mk0))), rfl, bel.frame _, fun h => by cases h⟩

theorem over : Rows.sigFirstRow.holds Try.pinned (OpenSpec.ofChange Rows.sigFirstSpec) :=
  OpenClaim.holds_of_wide 5 Try.f5 rfl rfl rfl rfl rfl rfl rfl ⟨rfl, rfl, rfl, rfl, rfl⟩ rfl rfl rfl rfl rfl (by kernel_rfl) Try.func5 (by kernel_rfl)
    (of_decide_eq_true (by kernel_rfl)) (by unfold Func.isWrapper; first | (rw [if_pos (by decide +kernel)]; kernel_rfl) | (rw [if_neg (by decide +kernel)]; exact ⟨rfl, rfl⟩))
    (fun os started H enc _ => lifted os started H enc)

theorem proved : Rows.SigFirstSaid := over
#print axioms proved
end Go.Proofs.Ytfbpgkohekfkjaa.sigFirst
