/-
  At every signature the law on what sigtext's Print, Line and Parse answer, beside the document's own answers, comes out true, and nothing that lay in memory has changed. No condition.
-/
import Derived.Test.YtncjfnmkoiclbaaRows
import Derived.WalkKit
import Derived.ProofKit
import Derived.OpenShut
import Derived.ShutString
import Derived.ChangeOld
import Derived.Below
import Derived.Lib.SmallJoins
import Derived.Deep.LoopGhost
import Derived.Test.YtncjfnmkoiclbaaTextFixed
import Derived.Test.YtncjfnmkoiclbaaTextRefParse
import Derived.Test.YtncjfnmkoiclbaaTextPrint
import Derived.Test.YtncjfnmkoiclbaaSigSameRef
import Derived.Test.YtncjfnmkoiclbaaSigGreat
namespace Go.Proofs.Ytncjfnmkoiclbaa.sigtextPrints
open Go.Proofs.Ytncjfnmkoiclbaa
open Go.ChangeShapes Go.WideShapes Go.ChangeAt Go.RowKit
open Go.ChangeMaps (open_string shut_string)
set_option linter.unusedVariables false

theorem own : ownKnob Try.prog.godebug = none := by kernel_rfl
theorem laidOut : laidOutB Try.prog = true := by kernel_rfl

set_option maxRecDepth 100000 in
set_option maxHeartbeats 2000000 in
theorem walk (a0 : Option Addr) (len0 cap0 : Nat) (l0 : List Pd) (w : World) (w0 : l0.length = len0 ∧ PredRow w w.heap.size (.slice a0 len0 cap0) l0) :
    Calls Try.prog 4 #[.slice a0 len0 cap0] w fun e w' => e = .returned (.bool true) ∧ Below w.heap.size w w' := by
  obtain ⟨rfl, hrow⟩ := w0
  have HROW := Lib.hid hrow
  have HFX := Lib.hid (fun W => tfix_any W)
  have hgr := great_any a0 cap0 l0 w hrow
  obtain ⟨_, hc1, hc2⟩ : ∃ _ : True, l0.length ≤ cap0 ∧ cap0 ≤ 9223372036854775807 := by
    obtain ⟨A', c', hv, q1, q2⟩ := hrow.form
    injection hv with _ _ e3
    exact ⟨trivial, by omega, by omega⟩
  clear hrow
  cases hg : greatP (l0.map (·.p)) with
  | true =>
    rw [hg] at hgr
    have HG := Lib.hid hgr
    clear hg hgr
    go_enter Try.func4, Try.ntmps4
    go_wp2_with fail
    refine HG.out.mono ?_
    rintro e w2 ⟨rfl, hb2⟩
    have HB2 := Lib.hid hb2
    clear hb2
    go_wp2_with fail
    refine (HFX.out _).mono ?_
    rintro e w3 ⟨rfl, hb3⟩
    have HB3 := Lib.hid (HB2.out.trans (hb3.mono HB2.out.size))
    clear hb3
    go_wp2_with fail
    go_ret
    exact ⟨rfl, HB3.out⟩
  | false =>
    obtain ⟨hl1, hl2⟩ := greatP_no hg
    rw [List.length_map] at hl1
    rw [hg] at hgr
    have HG := Lib.hid hgr
    have HSM := Lib.hid hl2
    have HPR := Lib.hid (fun W (h : Below w.heap.size w W) => sprint_any a0 cap0 l0 W ((HROW.out.below h).more h.size))
    have HRP := Lib.hid (fun W (h : Below w.heap.size w W) => rprint_any a0 cap0 l0 W ((HROW.out.below h).more h.size))
    have htx := text_small (HROW.out.names)
    have HPA := Lib.hid (fun W => parse_any (textP (l0.map (·.p))) htx.1 (by omega) W)
    have HP0 := Lib.hid (fun (h : checkP (l0.map (·.p)) = 0) => (show parseP (textP (l0.map (·.p))) = ⟨l0.map (·.p), 0, 0, 0⟩ by rw [show textP (l0.map (·.p)) = printP (l0.map (·.p)) from if_pos h]; exact parseP_print h))
    clear hg hgr hl2 htx
    generalize textP (l0.map (·.p)) = T at HPR HRP HPA HP0
    generalize checkP (l0.map (·.p)) = C at HPR HRP HP0
    obtain ⟨n, hn⟩ : ∃ n, w.heap.size = n := ⟨_, rfl⟩
    rw [hn] at HROW HPR HRP HG ⊢
    have HN := Lib.hid hn
    clear hn
    go_enter Try.func4, Try.ntmps4
    go_wp2_with fail
    refine HG.out.mono ?_
    rintro e w2 ⟨rfl, hb2⟩
    have HB2 := Lib.hid hb2
    have HPC := Lib.hid (HPR.out w2 hb2)
    clear hb2 HG
    go_wp2_with fail
    refine HPC.out.mono ?_
    rintro e w3 ⟨rfl, hb3⟩
    have HB3 := Lib.hid (HB2.out.trans (hb3.mono (by rw [← HN.out]; exact (by have := HB2.out.size; omega))))
    have HPD := Lib.hid (HRP.out w3 HB3.out)
    clear hb3 HPC HPR
    go_wp2_with fail
    refine HPD.out.mono ?_
    rintro e w4 ⟨rfl, hb4⟩
    have HB4 := Lib.hid (HB3.out.trans (hb4.mono (by have := HB3.out.size; have := HN.out; omega)))
    clear hb4 HPD HRP HB2 HB3
    go_wp2_with fail
    go_loopg [38] l0.length (fun gk i wr => ∃ k : Nat, k ≤ l0.length ∧ i = .int .i64 k ∧ Hid (l0.length - k = gk) ∧ Hid (Below n w wr))
    case atStart => exact ⟨0, Nat.zero_le _, rfl, Lib.hid rfl, HB4⟩
    case round =>
      obtain ⟨k, hk, rfl, HGK, HBR⟩ := hrel
      have hnr : n ≤ wr.heap.size := by have := HBR.out.size; have := HN.out; omega
      by_cases hlt : k < l0.length
      · obtain ⟨d, hd⟩ : ∃ d, l0[k]? = some d := ⟨_, List.getElem?_eq_getElem hlt⟩
        have hdl := HSM.out d.p (List.mem_map.2 ⟨d, List.mem_of_getElem? hd, rfl⟩)
        obtain ⟨q, o, rfl, hq, x0, x1, hir, hfit, ha1, ha2⟩ := (HROW.out.below HBR.out).at hd
        have HIR := Lib.hid hir
        have HFT := Lib.hid hfit
        obtain ⟨w5, hw5⟩ : ∃ w5, wr.alloc (.cells #[.string (strOfNums d.p.name), .slice d.A d.p.args.length d.c] 39) = w5 := ⟨_, rfl⟩
        have h5 : Held w5 wr.heap.size 39 #[.string (strOfNums d.p.name), .slice d.A d.p.args.length d.c] := by rw [← hw5]; exact heap_alloc_new wr _
        have b5 : Below wr.heap.size wr w5 := by rw [← hw5]; exact (Below.refl _ _).alloc (Nat.le_refl _) _
        have HH5 := Lib.hid h5
        have HB5 := Lib.hid (HBR.out.trans (b5.mono hnr))
        have HI5 := Lib.hid (hir.below (b5.mono hnr))
        have hn5 : n ≤ w5.heap.size := Nat.le_trans hnr b5.size
        have HLC := Lib.hid (sline_any d w5 (HI5.out.more hn5) hfit)
        have d0 := h5.cell 0
        have d1 := h5.cell 1
        have dl := h5.lt
        simp at d0 d1
        clear hir hfit hd h5 b5
        go_wp2_with fail
        clear hw5
        refine HLC.out.mono ?_
        rintro e w6 ⟨rfl, hb6⟩
        have HH6 := Lib.hid (HH5.out.below hb6 HH5.out.lt)
        have HI6 := Lib.hid (HI5.out.below (hb6.mono hn5))
        have HB6 := Lib.hid (HB5.out.trans (hb6.mono hn5))
        have hn6 : n ≤ w6.heap.size := Nat.le_trans hn5 hb6.size
        obtain ⟨w7, hw7⟩ : ∃ w7, w6.alloc (.cells #[.string (strOfNums d.p.name), .slice d.A d.p.args.length d.c] 39) = w7 := ⟨_, rfl⟩
        have h7 : Held w7 w6.heap.size 39 #[.string (strOfNums d.p.name), .slice d.A d.p.args.length d.c] := by rw [← hw7]; exact heap_alloc_new w6 _
        have b7 : Below w6.heap.size w6 w7 := by rw [← hw7]; exact (Below.refl _ _).alloc (Nat.le_refl _) _
        have HI7 := Lib.hid ((HI6.out.below (b7.mono hn6)).more (show n ≤ w7.heap.size from Nat.le_trans hn6 b7.size))
        have HH7 := Lib.hid (HH6.out.below b7 HH6.out.lt)
        have HB7 := Lib.hid (HB6.out.trans (b7.mono hn6))
        have HCC := Lib.hid (rcheck_any (some ⟨w6.heap.size, 0, none⟩) 1 [d] w7 (row_one h7 HI7.out HFT.out))
        rw [List.map_cons, List.map_nil] at HCC
        have HLL := Lib.hid (rline_any d.p.name d.p.args d.A d.c (by omega) (by omega) w7 HI7.out)
        change Hid (Calls _ _ _ _ (fun e w' => e = .returned (.string (strOfNums (lineP d.p))) ∧ Below w7.heap.size w7 w')) at HLL
        clear d0 d1 dl hb6 h7 b7 HLC x0 x1
        have d0 := HH6.out.cell 0
        have d1 := HH6.out.cell 1
        have dl := HH6.out.lt
        simp at d0 d1
        have hn7 : n ≤ w7.heap.size := by have := HB7.out.size; have := HN.out; omega
        have hla : checkP [d.p] = 0 → lineA d.p = lineP d.p := fun h => if_pos h
        have hlb : checkP [d.p] ≠ 0 → lineA d.p = [] := fun h => if_neg h
        generalize checkP [d.p] = K at HCC hla hlb ⊢
        generalize lineA d.p = LA at hla hlb ⊢
        generalize lineP d.p = LP at HLL hla
        go_wp2_with fail
        clear hw7
        refine HCC.out.mono ?_
        rintro e w8 ⟨rfl, rfl⟩
        clear d0 d1 dl
        have d0 := HH7.out.cell 0
        have d1 := HH7.out.cell 1
        have dl := HH7.out.lt
        simp at d0 d1
        by_cases hK : K = 0
        · have h1 := hla hK
          subst hK h1
          clear hla hlb
          go_wp2_with fail
          refine HLL.out.mono ?_
          rintro e w9 ⟨rfl, hb9⟩
          have HB9 := Lib.hid (HB7.out.trans (hb9.mono hn7))
          clear hb9 d0 d1 dl
          go_wp2_with fail
          go_roundg (l0.length - (k + 1))
          case measure => have := HGK.out; omega
          case rel => exact ⟨k + 1, by omega, by go_num, Lib.hid rfl, HB9⟩
        · have h1 := hlb hK
          subst h1
          have hk1 : (K != 0) = true := bne_iff_ne.2 hK
          have hk2 : (K == 0) = false := beq_eq_false_iff_ne.2 hK
          rw [show strOfNums [] = ⟨#[]⟩ from rfl]
          clear hla hlb hK
          go_wp2_with fail
          go_roundg (l0.length - (k + 1))
          case measure => have := HGK.out; omega
          case rel => exact ⟨k + 1, by omega, by go_num, Lib.hid rfl, HB7⟩
      · have HPC := Lib.hid (HPA.out wr)
        by_cases hC : C = 0
        · subst hC
          rw [HP0.out rfl] at HPC
          clear HPA HP0
          go_wp2_with fail
          refine HPC.out.mono ?_
          rintro e w5 ⟨⟨A, c, es, rfl, hown, hes⟩, hb5⟩
          have HB5 := Lib.hid (HBR.out.trans (hb5.mono hnr))
          have HOW := Lib.hid hown.fresh.1
          have HES := Lib.hid hes
          simp only
          obtain ⟨m, hm⟩ : ∃ m, w5.heap.size = m := ⟨_, rfl⟩
          have hw6 : Held (w5.alloc (.cells #[.int .i64 0, .int .i64 0] 43)) m 43 #[.int .i64 0, .int .i64 0] := by rw [← hm]; exact heap_alloc_new w5 _
          have b6 : Below m w5 (w5.alloc (.cells #[.int .i64 0, .int .i64 0] 43)) := by rw [← hm]; exact (Below.refl _ _).alloc (Nat.le_refl _) _
          have hnm : n ≤ m := by have := HB5.out.size; have := HN.out; omega
          have HH6 := Lib.hid hw6
          have HB6 := Lib.hid (HB5.out.trans (b6.mono hnm))
          rw [hm] at HOW
          have HO6 := Lib.hid (HOW.out.below b6)
          have HM := Lib.hid hm
          clear hown hes hb5 hm hw6 b6 HOW HPC HB5
          go_wp2_with fail
          rw [HM.out]
          clear HM
          generalize w5.alloc (.cells #[.int .i64 0, .int .i64 0] 43) = w6 at HH6 HB6 HO6 ⊢
          refine (HFX.out _).mono ?_
          rintro e w7 ⟨rfl, hb7⟩
          have HH7 := Lib.hid (HH6.out.below hb7 HH6.out.lt)
          have HB7 := Lib.hid (HB6.out.trans (hb7.mono (by have := HH6.out.lt; omega)))
          have HO7 := Lib.hid ((HO6.out.below (hb7.mono (Nat.le_of_lt HH6.out.lt))).more (show m ≤ w7.heap.size from Nat.le_of_lt HH7.out.lt))
          have HSE := Lib.hid (rsigsame_any A c es a0 cap0 l0 w7 HO7.out ((HROW.out.below HB7.out).more (by have := HH7.out.lt; omega)))
          rw [HES.out, decide_eq_true rfl] at HSE
          clear hb7
          go_wp2_with fail
          refine HSE.out.mono ?_
          rintro e w8 ⟨rfl, hb8⟩
          have HH8 := Lib.hid (HH7.out.below hb8 HH7.out.lt)
          have HB8 := Lib.hid (HB7.out.trans (hb8.mono (by have := HH7.out.lt; omega)))
          have y0 := HH8.out.cell 0
          have y1 := HH8.out.cell 1
          have yl := HH8.out.lt
          simp at y0 y1
          have heq := run_eql_place w8 0 0 0 0
          clear hb8
          go_wp2_with fail
          go_ret
          exact ⟨rfl, HB8.out⟩
        · have hC1 : (C != 0) = true := bne_iff_ne.2 hC
          generalize parseP T = r at HPC
          obtain ⟨L, k2, a, b⟩ := r
          clear HPA HP0 hC
          go_wp2_with fail
          refine HPC.out.mono ?_
          rintro e w5 ⟨⟨A, c, es, rfl, _, _⟩, hb5⟩
          simp only
          have HB5 := Lib.hid (HBR.out.trans (hb5.mono hnr))
          have HB6 := Lib.hid (HB5.out.alloc (show n ≤ w5.heap.size from Nat.le_trans hnr hb5.size) (.cells #[.int .i64 (a : Int), .int .i64 (b : Int)] 43))
          clear hb5 HPC
          go_wp2_with fail
          generalize w5.alloc (.cells #[.int .i64 (a : Int), .int .i64 (b : Int)] 43) = w6 at HB6 ⊢
          refine (HFX.out _).mono ?_
          rintro e w7 ⟨rfl, hb7⟩
          have HB7 := Lib.hid (HB6.out.trans (hb7.mono (by have := HB6.out.size; have := HN.out; omega)))
          clear hb7
          go_wp2_with fail
          go_ret
          exact ⟨rfl, HB7.out⟩

set_option maxRecDepth 100000 in
theorem lifted (os : Os) (started : os.Started) (H : Type) (enc : TypeId × Value → H) :
    ReturnsInHanded {} Try.checked os 4 .any (Rows.sigtextPrintsSpec.pre6 enc Try.prog Try.f4 Rows.sigtextPrintsRow.domain false) (Rows.sigtextPrintsSpec.post enc Try.prog Try.f4 false true false false) := by
  refine returnsInHanded_of_change (C := Try.checked) own started (by kernel_rfl) Try.func4
    (ChangeSpec.witness6 (enc := enc) (C := Try.checked) false ⟨#[], #[.slice none 0 0], []⟩ 8 (by kernel_rfl) (by kernel_rfl) (by kernel_rfl) (by kernel_rfl)) ?_
  intro W base args ds gs before hval0 hW hcnd _
  have hval : ∀ (j : Nat) t v, Try.f4.params[j]? = some t → args[j]? = some v → Value.okWide Try.prog W .any base t v := hval0
  have hW' := hW
  obtain ⟨p, q, hA0, hV, rfl, hfz, hnd⟩ := hW
  have hA : DataW.TrodAll enc Try.prog W 0 (fun _ => true) true Try.f4.params.toList args.toList ds p := hA0
  rw [Try.params4] at hA hval
  obtain ⟨v0, vs0, d0, ds0, p0, q0, hargs, rfl, rfl, h0, r0⟩ := trodAll_cons hA
  obtain ⟨rfl, rfl, rfl⟩ := trodAll_nil r0
  obtain rfl : args = #[v0] := by cases args; simp_all
  obtain ⟨rfl, rfl⟩ := trodVars_none hV
  obtain ⟨a0, len0, cap0, rfl⟩ := okWide_slice Try.underlying22 (hval 0 22 v0 rfl rfl)
  have k0 := h0
  have lt0 : ∀ x ∈ p0, x.block < W.heap.size := by obtain ⟨m, hm⟩ := k0; exact DataW.trod_lt m _ _ _ hm
  obtain ⟨l0, w0⟩ : ∃ ds : List Pd, ds.length = len0 ∧ PredRow W W.heap.size (.slice a0 len0 cap0) ds := by
    obtain ⟨fuel, hf⟩ := h0
    exact preds_of hf
  clear hA0 hval0
  refine (walk a0 len0 cap0 l0 W w0).mono fun e W' ⟨he, bel⟩ => ?_
  subst he
  exact ⟨_, rfl, _, _, _, [], _, [], hW', trodAll_mk1 (shut_bool Try.underlying4 _), (trodAll_cons_mk (Below.trod laidOut (by kernel_rfl) (of_decide_eq_true (by kernel_rfl)) k0 bel lt0) (trodAll_mk0)), rfl, bel.frame _, fun h => by cases h⟩

theorem over : Rows.sigtextPrintsRow.holds Try.pinned (OpenSpec.ofChange Rows.sigtextPrintsSpec) :=
  OpenClaim.holds_of_wide 4 Try.f4 rfl rfl rfl rfl rfl rfl rfl ⟨rfl, rfl, rfl, rfl, rfl⟩ rfl rfl rfl rfl rfl (by kernel_rfl) Try.func4 (by kernel_rfl)
    (of_decide_eq_true (by kernel_rfl)) (by unfold Func.isWrapper; first | (rw [if_pos (by decide +kernel)]; kernel_rfl) | (rw [if_neg (by decide +kernel)]; exact ⟨rfl, rfl⟩))
    (fun os started H enc _ => lifted os started H enc)

theorem proved : Rows.SigtextPrintsSaid := over
#print axioms proved
end Go.Proofs.Ytncjfnmkoiclbaa.sigtextPrints
