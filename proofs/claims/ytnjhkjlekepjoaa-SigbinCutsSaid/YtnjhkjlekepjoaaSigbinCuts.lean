/-
  At every signature, place and byte the law on what sigbin.Get answers of a payload that is cut off, or has a byte more, comes out true, and nothing that lay in memory has changed. No condition.
-/
import Derived.Test.YtnjhkjlekepjoaaRows
import Derived.WalkKit
import Derived.ProofKit
import Derived.OpenShut
import Derived.ShutString
import Derived.ChangeOld
import Derived.Below
import Derived.Lib.SmallJoins
import Derived.Deep.LoopGhost
import Derived.Test.YtnjhkjlekepjoaaSigbinFixed
import Derived.Test.YtnjhkjlekepjoaaSigbinGet
import Derived.Test.YtnjhkjlekepjoaaSigGreat
namespace Go.Proofs.Ytnjhkjlekepjoaa.sigbinCuts
open Go.Proofs.Ytnjhkjlekepjoaa
open Go.ChangeShapes Go.WideShapes Go.ChangeAt Go.RowKit
open Go.ChangeMaps (open_string shut_string)
set_option linter.unusedVariables false

theorem own : ownKnob Try.prog.godebug = none := by kernel_rfl
theorem laidOut : laidOutB Try.prog = true := by kernel_rfl

set_option maxRecDepth 100000 in
set_option maxHeartbeats 2000000 in
theorem walk (a0 : Option Addr) (len0 cap0 : Nat) (l0 : List Pd) (a1 : Int) (a2 : Int) (w : World) (w0 : l0.length = len0 ∧ PredRow w w.heap.size (.slice a0 len0 cap0) l0) (w1 : (Lit.int .u16 a1).wf = true) (w2 : (Lit.int .u8 a2).wf = true) :
    Calls Try.prog 5 #[.slice a0 len0 cap0, .int .u16 a1, .int .u8 a2] w fun e w' => e = .returned (.bool true) ∧ Below w.heap.size w w' := by
  obtain ⟨rfl, hrow⟩ := w0
  obtain ⟨b11, b12⟩ := bounds_u16 w1
  obtain ⟨b21, b22⟩ := bounds_u8 w2
  have HFX := Lib.hid (fun W => bfix_any W)
  have hgr := great_any a0 cap0 l0 w hrow
  have HROW := Lib.hid hrow
  clear hrow w1 w2
  cases hg : greatP (l0.map (·.p)) with
  | true =>
    rw [hg] at hgr
    have HG := Lib.hid hgr
    clear hg hgr
    go_enter Try.func5, Try.ntmps5
    go_wp2_with fail
    refine HG.out.mono ?_
    rintro e w2 ⟨rfl, hb2⟩
    have HB2 := Lib.hid hb2
    clear hb2
    go_wp2_with fail
    refine (HFX.out _).mono ?_
    rintro e w3 ⟨rfl, hb3⟩
    have HB3 := Lib.hid (HB2.out.trans (hb3.mono HB2.out.size))
    clear hb3
    go_wp2_with fail
    go_ret
    exact ⟨rfl, HB3.out⟩
  | false =>
    rw [hg] at hgr
    have HG := Lib.hid hgr
    have HPR := Lib.hid (fun W (h : Below w.heap.size w W) => sbput_any a0 cap0 l0 W ((HROW.out.below h).more h.size))
    clear hg hgr
    unfold putS at HPR
    by_cases h0 : checkP (l0.map (·.p)) = 0
    · rw [if_pos h0] at HPR
      obtain ⟨hl1, hl2⟩ := encS_le h0
      have hby := encS_bytes h0
      have hcut := fun c => getSig_cut (l := l0.map (·.p)) h0 (c := c)
      have hmore := getSig_more h0 a2
      clear h0
      generalize encS (l0.map (·.p)) = p at HPR hl1 hl2 hby hcut hmore
      obtain ⟨j, hj, hjl⟩ : ∃ j : Nat, a1.tmod (p.length : Int) = j ∧ j < p.length := by
        rw [Int.tmod_eq_emod_of_nonneg (by omega)]
        have q1 := Int.emod_nonneg a1 (show (p.length : Int) ≠ 0 by omega)
        have q2 := Int.emod_lt_of_pos a1 (show (0 : Int) < (p.length : Int) by omega)
        exact ⟨(a1 % (p.length : Int)).toNat, by omega, by omega⟩
      have hcut1 := hcut j hjl
      have HBY := Lib.hid hby
      have hne0 : ((p.length : Int) == 0) = false := beq_eq_false_iff_ne.2 (by omega)
      have hne1 : (p.length : Int) ≠ 0 := by omega
      have hjl2 : (p.take j).length = j := by rw [List.length_take]; omega
      have hji : (j : Int) ≤ (p.length : Int) := by omega
      have HJL2 := Lib.hid hjl2
      clear hcut hby hjl2
      obtain ⟨i0, hi, hz0, hz1, hz2⟩ := info_parts Try.infoU8
      go_enter Try.func5, Try.ntmps5
      go_wp2_with fail
      refine HG.out.mono ?_
      rintro e w2 ⟨rfl, hb2⟩
      have HB2 := Lib.hid hb2
      have HPC := Lib.hid (HPR.out w2 hb2)
      clear hb2 HG HPR
      go_wp2_with fail
      refine HPC.out.mono ?_
      rintro e w3 ⟨A, c, rfl, hown, hb3⟩
      have HB3 := Lib.hid (HB2.out.trans (hb3.mono HB2.out.size))
      dsimp only at hown
      have hr := Row.of_own hown
      have hcap : p.length ≤ c ∧ c ≤ 9223372036854775807 := by
        obtain ⟨_, _, hv, q1, q2, _⟩ := hr
        injection hv with _ _ e3
        unfold maxLen at q2
        omega
      obtain ⟨hc1, hc2⟩ := hcap
      have hjc : (j : Int) ≤ (c : Int) := by omega
      have hr1 := hr.take (Nat.le_of_lt hjl)
      have hg1 := bsget_any A c (p.take j) (by rw [HJL2.out]; omega) (fun x hx => HBY.out x (List.mem_of_mem_take hx)) w3 hr1
      rw [HJL2.out, hcut1] at hg1
      have HG1 := Lib.hid hg1
      have HR := Lib.hid hr
      clear hr hr1 hg1 hown hb3 HPC HB2
      go_wp2_with fail
      refine HG1.out.mono ?_
      rintro e w4 ⟨⟨A1, c1, es1, rfl, hown1, hes1⟩, hb4⟩
      obtain rfl : es1 = [] := by simpa using hes1
      have hs4 := hb4.size
      have HB4 := Lib.hid (HB3.out.trans (hb4.mono HB3.out.size))
      have HR4 := Lib.hid ((HR.out.below hb4).below ((Below.refl _ _).alloc hs4 (.cells #[] 5)))
      clear hown1 hes1 hb4 HG1 HR HB3
      go_wp2_with (first
        | (at_builtin; refine wpList_append_row _ rfl _ _ 25 rfl w4.heap.size 5 i0 (.int .u8 0) Try.underlying25 hi hz0 hz1 hz2 rfl (.slice (some ⟨w4.heap.size, 0, none⟩) 0 0) 0 [] (by rfl) (own_none _ _ _ (Nat.le_refl _)) w3.heap.size _ p rfl HR4.out (by omega) (by simp) ?_; intro v6 w6 hown6 hg6 hn6; rw [Nat.zero_add, List.nil_append] at hown6; obtain ⟨A6, c6, hv6⟩ := own_form hown6; subst hv6; have HO6 := Lib.hid hown6; have hs6 : w4.heap.size + 1 ≤ w6.heap.size := (by have := hg6.size; simpa using this); have HG6 := Lib.hid hg6; clear hown6 hg6 hn6)
        | (at_builtin; refine wpList_append_own _ rfl _ _ 25 rfl w4.heap.size 5 i0 (.int .u8 0) 1 1 Try.underlying25 hi hz0 hz1 hz2 rfl (by decide) _ _ _ rfl (HO6.out.alloc _) ⟨w6.heap.size, 0, none⟩ 1 1 [.int .u8 a2] rfl rfl (cell_one_new _ _ _) (by simp [Value.oneCell']) (by simp only [maxLen]; omega) (by omega) (by simp; omega) ?_; intro v7 w7 hown7 hg7 hn7))
      have hlow6 : ∀ i, (Value.slice (some ⟨w4.heap.size, 0, none⟩) 0 0).ownBlock = some i → w4.heap.size ≤ i := fun i e => by simp [Value.ownBlock] at e; omega
      have hlow7 : ∀ i, (Value.slice A6 p.length c6).ownBlock = some i → w4.heap.size ≤ i := fun i e => (World.ownsRow.lt HO6.out i e).1
      have hb7 : Below w4.heap.size w4 w7 := (((((Below.refl _ _).alloc (Nat.le_refl _) _).grown HG6.out (by simp) hlow6).alloc (by omega) _).grown hg7 (by simp; omega) hlow7)
      have hmap : p.map (Value.int .u8) ++ [.int .u8 a2] = (p ++ [a2]).map (.int .u8) := by simp
      have hlen7 : (p ++ [a2]).length = p.length + 1 := by simp
      rw [hmap, ← hlen7] at hown7
      obtain ⟨A7, c7, rfl⟩ := own_form hown7
      have hg2 := bsget_any A7 c7 (p ++ [a2]) (by omega) (fun x hx => by
        rcases List.mem_append.1 hx with h | h
        · exact HBY.out x h
        · rw [List.mem_singleton] at h; omega) w7 (Row.of_own hown7)
      rw [hmore, hlen7] at hg2
      have HG2 := Lib.hid hg2
      have HB7 := Lib.hid (HB4.out.trans (hb7.mono HB4.out.size))
      rw [hlen7]
      clear hown7 hg7 hn7 hg2 hb7 hlow6 hlow7 hmap hlen7 hmore
      refine HG2.out.mono ?_
      rintro e w8 ⟨⟨A8, c8, es8, rfl, hown8, hes8⟩, hb8⟩
      obtain rfl : es8 = [] := by simpa using hes8
      have HB8 := Lib.hid (HB7.out.trans (hb8.mono HB7.out.size))
      clear hown8 hes8 hb8
      go_wp2_with fail
      refine (HFX.out _).mono ?_
      rintro e w9 ⟨rfl, hb9⟩
      have HB9 := Lib.hid (HB8.out.trans (hb9.mono HB8.out.size))
      clear hb9
      go_wp2_with fail
      go_ret
      exact ⟨rfl, HB9.out⟩
    · rw [if_neg h0] at HPR
      have hne : (checkP (l0.map (·.p)) != 0) = true := bne_iff_ne.2 h0
      generalize checkP (l0.map (·.p)) = C at HPR hne
      clear h0
      go_enter Try.func5, Try.ntmps5
      go_wp2_with fail
      refine HG.out.mono ?_
      rintro e w2 ⟨rfl, hb2⟩
      have HB2 := Lib.hid hb2
      have HPC := Lib.hid (HPR.out w2 hb2)
      clear hb2 HG HPR
      go_wp2_with fail
      refine HPC.out.mono ?_
      rintro e w3 ⟨A, c, rfl, hown, hb3⟩
      have HB3 := Lib.hid (HB2.out.trans (hb3.mono HB2.out.size))
      clear hown hb3 HPC HB2
      go_wp2_with fail
      refine (HFX.out _).mono ?_
      rintro e w4 ⟨rfl, hb4⟩
      have HB4 := Lib.hid (HB3.out.trans (hb4.mono HB3.out.size))
      clear hb4
      go_wp2_with fail
      go_ret
      exact ⟨rfl, HB4.out⟩

set_option maxRecDepth 100000 in
theorem lifted (os : Os) (started : os.Started) (H : Type) (enc : TypeId × Value → H) :
    ReturnsInHanded {} Try.checked os 5 .any (Rows.sigbinCutsSpec.pre6 enc Try.prog Try.f5 Rows.sigbinCutsRow.domain false) (Rows.sigbinCutsSpec.post enc Try.prog Try.f5 false true false false) := by
  refine returnsInHanded_of_change (C := Try.checked) own started (by kernel_rfl) Try.func5
    (ChangeSpec.witness6 (enc := enc) (C := Try.checked) false ⟨#[], #[.slice none 0 0, .int .u16 0, .int .u8 0], []⟩ 8 (by kernel_rfl) (by kernel_rfl) (by kernel_rfl) (by kernel_rfl)) ?_
  intro W base args ds gs before hval0 hW hcnd _
  have hval : ∀ (j : Nat) t v, Try.f5.params[j]? = some t → args[j]? = some v → Value.okWide Try.prog W .any base t v := hval0
  have hW' := hW
  obtain ⟨p, q, hA0, hV, rfl, hfz, hnd⟩ := hW
  have hA : DataW.TrodAll enc Try.prog W 0 (fun _ => true) true Try.f5.params.toList args.toList ds p := hA0
  rw [Try.params5] at hA hval
  obtain ⟨v0, vs0, d0, ds0, p0, q0, hargs, rfl, rfl, h0, r0⟩ := trodAll_cons hA
  obtain ⟨v1, vs1, d1, ds1, p1, q1, rfl, rfl, rfl, h1, r1⟩ := trodAll_cons r0
  obtain ⟨v2, vs2, d2, ds2, p2, q2, rfl, rfl, rfl, h2, r2⟩ := trodAll_cons r1
  obtain ⟨rfl, rfl, rfl⟩ := trodAll_nil r2
  obtain rfl : args = #[v0, v1, v2] := by cases args; simp_all
  obtain ⟨rfl, rfl⟩ := trodVars_none hV
  obtain ⟨a0, len0, cap0, rfl⟩ := okWide_slice Try.underlying22 (hval 0 22 v0 rfl rfl)
  have k0 := h0
  have lt0 : ∀ x ∈ p0, x.block < W.heap.size := by obtain ⟨m, hm⟩ := k0; exact DataW.trod_lt m _ _ _ hm
  obtain ⟨l0, w0⟩ : ∃ ds : List Pd, ds.length = len0 ∧ PredRow W W.heap.size (.slice a0 len0 cap0) ds := by
    obtain ⟨fuel, hf⟩ := h0
    exact preds_of hf
  obtain ⟨a1, rfl, rfl, rfl, w1⟩ := open_int Try.underlying41 (hval 1 41 v1 rfl rfl) h1
  obtain ⟨a2, rfl, rfl, rfl, w2⟩ := open_int Try.underlying5 (hval 2 5 v2 rfl rfl) h2
  clear hA0 hval0
  refine (walk a0 len0 cap0 l0 a1 a2 W w0 w1 w2).mono fun e W' ⟨he, bel⟩ => ?_
  subst he
  exact ⟨_, rfl, _, _, _, [], _, [], hW', trodAll_mk1 (shut_bool Try.underlying4 _), (trodAll_cons_mk (Below.trod laidOut (by kernel_rfl) (of_decide_eq_true (by kernel_rfl)) k0 bel lt0) (trodAll_cons_mk (shut_int Try.underlying41 w1) (trodAll_cons_mk (shut_int Try.underlying5 w2) (trodAll_mk0)))), rfl, bel.frame _, fun h => by cases h⟩

theorem over : Rows.sigbinCutsRow.holds Try.pinned (OpenSpec.ofChange Rows.sigbinCutsSpec) :=
  OpenClaim.holds_of_wide 5 Try.f5 rfl rfl rfl rfl rfl rfl rfl ⟨rfl, rfl, rfl, rfl, rfl⟩ rfl rfl rfl rfl rfl (by kernel_rfl) Try.func5 (by kernel_rfl)
    (of_decide_eq_true (by kernel_rfl)) (by unfold Func.isWrapper; first | (rw [if_pos (by decide +kernel)]; kernel_rfl) | (rw [if_neg (by decide +kernel)]; exact ⟨rfl, rfl⟩))
    (fun os started H enc _ => lifted os started H enc)

theorem proved : Rows.SigbinCutsSaid := over
#print axioms proved
end Go.Proofs.Ytnjhkjlekepjoaa.sigbinCuts
