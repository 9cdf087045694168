/-
  At every text the law on what sigtext's Parse answers, beside the document's own answer, comes out true, and nothing that lay in memory has changed. No condition.
-/
import Derived.Test.YtncjfnmkoiclbaaRows
import Derived.WalkKit
import Derived.ProofKit
import Derived.OpenShut
import Derived.ShutString
import Derived.ChangeOld
import Derived.Below
import Derived.Lib.SmallJoins
import Derived.Deep.LoopGhost
import Derived.Test.YtncjfnmkoiclbaaTextFixed
import Derived.Test.YtncjfnmkoiclbaaTextRefParse
import Derived.Test.YtncjfnmkoiclbaaTextPrint
import Derived.Test.YtncjfnmkoiclbaaSigSameRef
namespace Go.Proofs.Ytncjfnmkoiclbaa.sigtextParses
open Go.Proofs.Ytncjfnmkoiclbaa
open Go.ChangeShapes Go.WideShapes Go.ChangeAt Go.RowKit
open Go.ChangeMaps (open_string shut_string)
set_option linter.unusedVariables false

theorem own : ownKnob Try.prog.godebug = none := by kernel_rfl
theorem laidOut : laidOutB Try.prog = true := by kernel_rfl

set_option maxRecDepth 100000 in
set_option maxHeartbeats 2000000 in
theorem walk (a0 : ByteArray) (w : World) (w0 : a0.size ≤ maxLen) :
    Calls Try.prog 5 #[.string a0] w fun e w' => e = .returned (.bool true) ∧ Below w.heap.size w w' := by
  obtain ⟨xs, rfl, hxl, hxb⟩ := text_of a0
  have hn63 : xs.length ≤ 9223372036854775807 := by rw [hxl]; unfold maxLen at w0; omega
  clear w0 hxl
  have hsz := strOfNums_size xs
  have HFX := Lib.hid (fun W => tfix_any W)
  by_cases h3 : 3000 < xs.length
  · have h3i : (3000 : Int) < (xs.length : Int) := by omega
    clear h3
    go_enter Try.func5, Try.ntmps5
    go_wp2_with fail
    refine (HFX.out _).mono ?_
    rintro e w1 ⟨rfl, hb1⟩
    go_wp2_with fail
    go_ret
    exact ⟨rfl, hb1⟩
  · have h3i : ¬ (3000 : Int) < (xs.length : Int) := by omega
    have HPA := Lib.hid (parse_any xs hxb (by omega) w)
    have HRP := Lib.hid (fun W => rparse_any xs hxb (by omega) W)
    have HBK := Lib.hid (fun h => parseP_back (s := xs) h)
    have HER := Lib.hid (fun h => parseF_err (xs.length + 1) 1 [] xs h)
    change Hid ((parseP xs).e ≠ 0 → (parseP xs).l = []) at HER
    have HXB := Lib.hid hxb
    clear h3 hxb
    generalize parseP xs = r at HPA HRP HBK HER
    obtain ⟨L, k, a, b⟩ := r
    simp only at HBK HER
    go_enter Try.func5, Try.ntmps5
    go_wp2_with fail
    refine HPA.out.mono ?_
    rintro e w1 ⟨⟨A, c, es, rfl, hown, hes⟩, hb1⟩
    simp only at hes
    have HB1 := Lib.hid hb1
    have HOW := Lib.hid hown.fresh.1
    have HES := Lib.hid hes
    have HLEN := Lib.hid (show es.length = L.length by rw [← hes, List.length_map])
    have hc12 : es.length ≤ c ∧ c ≤ 9223372036854775807 := by
      obtain ⟨A', c', hv, q1, q2⟩ := hown.fresh.1.form
      injection hv with _ _ e3
      omega
    clear hown hes hb1 HPA
    obtain ⟨m, hm⟩ : ∃ m, w1.heap.size = m := ⟨_, rfl⟩
    obtain ⟨w2, hw2⟩ : ∃ w2, w1.alloc (.cells #[.int .i64 (a : Int), .int .i64 (b : Int)] 43) = w2 := ⟨_, rfl⟩
    have h2 : Held w2 m 43 #[.int .i64 (a : Int), .int .i64 (b : Int)] := by rw [← hw2, ← hm]; exact heap_alloc_new w1 _
    have b2 : Below m w1 w2 := by rw [← hw2, ← hm]; exact (Below.refl _ _).alloc (Nat.le_refl _) _
    have HH2 := Lib.hid h2
    have HB2 := Lib.hid (HB1.out.trans (b2.mono (by rw [← hm]; exact HB1.out.size)))
    rw [hm] at HOW
    have HO2 := Lib.hid (HOW.out.below b2)
    clear h2 b2 HOW HB1
    go_wp2_with fail
    clear hw2
    refine (HRP.out _).mono ?_
    rintro e w3 ⟨⟨A2, c2, es2, rfl, hown2, hes2⟩, hb3⟩
    simp only at hes2
    have HH3 := Lib.hid (HH2.out.below hb3 HH2.out.lt)
    have HB3 := Lib.hid (HB2.out.trans (hb3.mono HB2.out.size))
    have HO3 := Lib.hid (HO2.out.below (hb3.mono (Nat.le_of_lt HH2.out.lt)))
    have HP3 := Lib.hid hown2.fresh.1
    have HES2 := Lib.hid hes2
    clear hown2 hes2 hb3 HRP HO2 HB2 HH2 hm
    obtain ⟨q, hq⟩ : ∃ q, w3.heap.size = q := ⟨_, rfl⟩
    obtain ⟨w4, hw4⟩ : ∃ w4, w3.alloc (.cells #[.slice A2 es2.length c2, .int .i64 k, .int .i64 (a : Int), .int .i64 (b : Int)] 48) = w4 := ⟨_, rfl⟩
    have h4 : Held w4 q 48 #[.slice A2 es2.length c2, .int .i64 k, .int .i64 (a : Int), .int .i64 (b : Int)] := by rw [← hw4, ← hq]; exact heap_alloc_new w3 _
    have b4 : Below q w3 w4 := by rw [← hw4, ← hq]; exact (Below.refl _ _).alloc (Nat.le_refl _) _
    rw [hq] at HP3
    have hmq : m < q := by rw [← hq]; exact HH3.out.lt
    have HH4 := Lib.hid (HH3.out.below b4 hmq)
    have HR4 := Lib.hid h4
    have HB4 := Lib.hid (HB3.out.trans (b4.mono (by rw [← hq]; exact HB3.out.size)))
    have HO4 := Lib.hid ((HO3.out.below (b4.mono (Nat.le_of_lt hmq))).more (show m ≤ w4.heap.size by have := h4.lt; omega))
    have HP4 := Lib.hid ((HP3.out.below b4).more (show q ≤ w4.heap.size from Nat.le_of_lt h4.lt))
    have HSM := Lib.hid (rsigsame_any A c es A2 c2 es2 w4 HO4.out HP4.out)
    rw [HES.out, HES2.out, decide_eq_true rfl] at HSM
    have HPR := Lib.hid (fun W (h : Below w4.heap.size w4 W) => sprint_any A c es W ((HO4.out.below h).more h.size))
    rw [HES.out] at HPR
    have HQ := Lib.hid hq
    have y0 := h4.cell 0
    have y1 := h4.cell 1
    have y2 := h4.cell 2
    have y3 := h4.cell 3
    have yl := h4.lt
    have x0 := HH4.out.cell 0
    have x1 := HH4.out.cell 1
    have xl := HH4.out.lt
    simp at y0 y1 y2 y3 x0 x1
    clear h4 b4 HP3 HO3 HB3 HH3
    go_wp2_with fail
    clear hq hw4
    refine HSM.out.mono ?_
    rintro e w5 ⟨rfl, hb5⟩
    have HH5 := Lib.hid (HH4.out.below hb5 xl)
    have HR5 := Lib.hid (HR4.out.below hb5 yl)
    have HB5 := Lib.hid (HB4.out.trans (hb5.mono HB4.out.size))
    have HPC := Lib.hid (HPR.out w5 hb5)
    have hnq := run_neq_place w5 a b a b
    clear hb5 y0 y1 y2 y3 x0 x1 xl yl HSM HPR
    rw [beq_self_eq_true, beq_self_eq_true] at hnq
    have y0 := HR5.out.cell 0
    have y1 := HR5.out.cell 1
    have y2 := HR5.out.cell 2
    have y3 := HR5.out.cell 3
    have yl := HR5.out.lt
    have x0 := HH5.out.cell 0
    have x1 := HH5.out.cell 1
    have xl := HH5.out.lt
    simp at y0 y1 y2 y3 x0 x1
    by_cases hk : k = 0
    · subst hk
      obtain ⟨g1, g2, _⟩ := HBK.out rfl
      have HTX := Lib.hid (show textP L = xs by unfold textP; rw [if_pos g1, g2])
      rw [g1, HTX.out] at HPC
      clear g1 g2 HBK HER
      go_wp2_with fail
      refine HPC.out.mono ?_
      rintro e w6 ⟨rfl, hb6⟩
      have HB6 := Lib.hid (HB5.out.trans (hb6.mono HB5.out.size))
      clear hb6
      go_wp2_with fail
      refine (HFX.out _).mono ?_
      rintro e w7 ⟨rfl, hb7⟩
      have HB7 := Lib.hid (HB6.out.trans (hb7.mono HB6.out.size))
      clear hb7
      go_wp2_with fail
      go_ret
      exact ⟨rfl, HB7.out⟩
    · have hL := HER.out hk
      subst hL
      have hk1 : (k != 0) = true := bne_iff_ne.2 hk
      have hk2 : (k == 0) = false := beq_eq_false_iff_ne.2 hk
      have hel : (es.length : Int) = 0 := by rw [HLEN.out]; rfl
      clear HBK HER
      generalize textP [] = TP at HPC
      generalize checkP [] = CP at HPC
      go_wp2_with fail
      refine HPC.out.mono ?_
      rintro e w6 ⟨rfl, hb6⟩
      have HB6 := Lib.hid (HB5.out.trans (hb6.mono HB5.out.size))
      clear hb6
      go_wp2_with fail
      refine (HFX.out _).mono ?_
      rintro e w7 ⟨rfl, hb7⟩
      have HB7 := Lib.hid (HB6.out.trans (hb7.mono HB6.out.size))
      clear hb7
      go_wp2_with fail
      go_ret
      exact ⟨rfl, HB7.out⟩

set_option maxRecDepth 100000 in
theorem lifted (os : Os) (started : os.Started) (H : Type) (enc : TypeId × Value → H) :
    ReturnsInHanded {} Try.checked os 5 .any (Rows.sigtextParsesSpec.pre6 enc Try.prog Try.f5 Rows.sigtextParsesRow.domain false) (Rows.sigtextParsesSpec.post enc Try.prog Try.f5 false true false false) := by
  refine returnsInHanded_of_change (C := Try.checked) own started (by kernel_rfl) Try.func5
    (ChangeSpec.witness6 (enc := enc) (C := Try.checked) false ⟨#[], #[.string ⟨#[]⟩], []⟩ 8 (by kernel_rfl) (by kernel_rfl) (by kernel_rfl) (by kernel_rfl)) ?_
  intro W base args ds gs before hval0 hW hcnd _
  have hval : ∀ (j : Nat) t v, Try.f5.params[j]? = some t → args[j]? = some v → Value.okWide Try.prog W .any base t v := hval0
  have hW' := hW
  obtain ⟨p, q, hA0, hV, rfl, hfz, hnd⟩ := hW
  have hA : DataW.TrodAll enc Try.prog W 0 (fun _ => true) true Try.f5.params.toList args.toList ds p := hA0
  rw [Try.params5] at hA hval
  obtain ⟨v0, vs0, d0, ds0, p0, q0, hargs, rfl, rfl, h0, r0⟩ := trodAll_cons hA
  obtain ⟨rfl, rfl, rfl⟩ := trodAll_nil r0
  obtain rfl : args = #[v0] := by cases args; simp_all
  obtain ⟨rfl, rfl⟩ := trodVars_none hV
  obtain ⟨a0, rfl, rfl, rfl, w0⟩ := open_string Try.underlying9 (hval 0 9 v0 rfl rfl) h0
  clear hA0 hval0
  refine (walk a0 W w0).mono fun e W' ⟨he, bel⟩ => ?_
  subst he
  exact ⟨_, rfl, _, _, _, [], _, [], hW', trodAll_mk1 (shut_bool Try.underlying4 _), (trodAll_cons_mk (shut_string Try.underlying9 w0) (trodAll_mk0)), rfl, bel.frame _, fun h => by cases h⟩

theorem over : Rows.sigtextParsesRow.holds Try.pinned (OpenSpec.ofChange Rows.sigtextParsesSpec) :=
  OpenClaim.holds_of_wide 5 Try.f5 rfl rfl rfl rfl rfl rfl rfl ⟨rfl, rfl, rfl, rfl, rfl⟩ rfl rfl rfl rfl rfl (by kernel_rfl) Try.func5 (by kernel_rfl)
    (of_decide_eq_true (by kernel_rfl)) (by unfold Func.isWrapper; first | (rw [if_pos (by decide +kernel)]; kernel_rfl) | (rw [if_neg (by decide +kernel)]; exact ⟨rfl, rfl⟩))
    (fun os started H enc _ => lifted os started H enc)

theorem proved : Rows.SigtextParsesSaid := over
#print axioms proved
end Go.Proofs.Ytncjfnmkoiclbaa.sigtextParses
