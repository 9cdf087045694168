/-
  At every slice of bytes the law on the parts of bytes answers true, and nothing that lay in memory has changed. No condition.
-/
import Derived.Test.YtpphgmddancocaaRows
import Derived.WalkKit
import Derived.ProofKit
import Derived.OpenShut
import Derived.ShutString
import Derived.ChangeOld
import Derived.Below
import Derived.Test.YtpphgmddancocaaSegsFixed
import Derived.Test.YtpphgmddancocaaPlainFrames
import Derived.Test.YtpphgmddancocaaSegsRef
import Derived.Test.YtpphgmddancocaaSegsCalls
import Derived.Test.YtpphgmddancocaaArg
namespace Go.Proofs.Ytpphgmddancocaa.segsOf
open Go.Proofs.Ytpphgmddancocaa
open Go.ChangeShapes Go.WideShapes Go.ChangeAt Go.RowKit
open Go.ChangeMaps (open_string shut_string)
set_option linter.unusedVariables false

theorem own : ownKnob Try.prog.godebug = none := by kernel_rfl
theorem laidOut : laidOutB Try.prog = true := by kernel_rfl

set_option maxRecDepth 100000 in
set_option maxHeartbeats 1000000 in
theorem walk (a0 : Option Addr) (len0 cap0 : Nat) (z0 : List Int) (w : World) (w0 : IsRow .u8 w a0 len0 cap0 z0) :
    Calls Try.prog 7 #[.slice a0 len0 cap0] w fun e w' => e = .returned (.bool true) ∧ Below w.heap.size w w' := by
  obtain ⟨xs, rfl, hrow, hbx⟩ := Row.of_arg w0
  clear w0
  by_cases hgt : 1000 < xs.length
  · have hgi : (1000 : Int) < (xs.length : Int) := by omega
    go_enter Try.func7, Try.ntmps7
    go_wp2_with fail
    refine (sfix_any _).mono ?_
    rintro e w3 ⟨rfl, hb3⟩
    go_wp2_with fail
    go_ret
    exact ⟨rfl, hb3⟩
  have hle : (xs.length : Int) ≤ 1000 := by omega
  have hcv := hrow.convert (P := Try.prog) 22 5 9 Try.underlying22 Try.underlying5 Try.underlying9
  have HOF := Lib.hid (fun W h => of_any a0 cap0 xs (by omega) W h hbx)
  have HFR := Lib.hid (fun W h => frames_any a0 cap0 xs (by omega) W h hbx)
  have HSK := Lib.hid (fun W h => skippedN_any a0 cap0 xs (by omega) W h hbx)
  have HRO := Lib.hid (fun W => rof_any xs (by omega) W hbx)
  have HLE := Lib.hid (fun l => PartsS.le (l := l) hbx)
  have HROW := Lib.hid hrow
  clear hrow hbx
  go_enter Try.func7, Try.ntmps7
  go_wp2_with fail
  refine (HRO.out _).mono ?_
  rintro e w1 ⟨v, ps, rfl, hpp, hsg, hb1⟩
  obtain ⟨hl1, hl2, hl3⟩ := HLE.out _ hpp
  rw [List.length_map] at hl1
  obtain ⟨A, c, rfl, hc, hm⟩ := hsg.form
  have HPP := Lib.hid hpp
  have HSG := Lib.hid hsg
  have HB1 := Lib.hid hb1
  have HL3 := Lib.hid hl3
  clear hpp hsg hb1 hcv hl3
  obtain ⟨N, hN⟩ : ∃ N, ps.length = N := ⟨_, rfl⟩
  have HN := Lib.hid hN
  rw [hN] at hl1 hc HSG ⊢
  clear hN
  go_wp2_with fail
  go_loopw [4, 16] (fun n i wr => ∃ k : Nat, k ≤ N ∧ i = .int .i64 k ∧ n = .int .i64 (skipN ((ps.map (·.s)).take k)) ∧ Below w1.heap.size w1 wr) (fun _ i _ => N - (intOf i).toNat)
  case atStart => exact ⟨0, Nat.zero_le _, rfl, rfl, Below.refl _ _⟩
  case round =>
    obtain ⟨k, hk, rfl, rfl, hbw⟩ := hrel
    by_cases hlt : k < N
    · obtain ⟨p, hp⟩ : ∃ p, ps[k]? = some p := ⟨_, List.getElem?_eq_getElem (by rw [HN.out]; exact hlt)⟩
      have hst := skipN_step (l := ps.map (·.s)) (k := k) (s := p.s) (by rw [List.getElem?_map, hp]; rfl)
      have htk := skipN_take (ps.map (·.s)) k
      have hpn := HL3.out p.s (List.mem_map.2 ⟨p, List.mem_of_getElem? hp, rfl⟩)
      obtain ⟨b, o, rfl, hb, x0, x1, x2, x3, x4, hr⟩ := (HSG.out.row.below hbw).at hp
      have hpn1 : (p.s.n : Int) ≤ 1000 := by omega
      have hpn0 : (0 : Int) ≤ p.s.n := by omega
      have hs0 : (0 : Int) ≤ skipN ((ps.map (·.s)).take k) := by omega
      have hs1 : (skipN ((ps.map (·.s)).take k) : Int) ≤ 1000 := by omega
      have hba : Below w1.heap.size w1 (wr.alloc (.cells #[.int .i64 p.s.frm, .int .i64 p.s.n, .bool p.s.isf, .int .i64 p.s.kind, .slice p.A p.s.pay.length p.c] 57)) := hbw.alloc hbw.size _
      have HST := Lib.hid hst
      have HBA := Lib.hid hba
      clear hst hba hp htk hpn hr hbw
      generalize skipN ((ps.map (·.s)).take k) = sk at *
      rcases Bool.eq_false_or_eq_true p.s.isf with hf | hf
      · rw [hf] at x2 HST HBA
        go_wp2_with fail
        go_roundw
        case rel => exact ⟨k + 1, by omega, by go_num, by rw [HST.out]; go_num, HBA.out⟩
        case measure => simp [intOf]; omega
      · rw [hf] at x2 HST HBA
        go_wp2_with fail
        go_roundw
        case rel => exact ⟨k + 1, by omega, by go_num, by rw [HST.out]; go_num, HBA.out⟩
        case measure => simp [intOf]; omega
    · obtain rfl : k = N := by omega
      have htn : (ps.map (·.s)).take k = ps.map (·.s) := List.take_of_length_le (by rw [List.length_map, HN.out]; exact Nat.le_refl _)
      rw [htn]
      clear htn
      have HB2 := Lib.hid (HB1.out.trans (hbw.mono HB1.out.size))
      have HSG2 := Lib.hid (HSG.out.below hbw)
      clear hbw
      go_wp2_with fail
      refine (sfix_any _).mono ?_
      rintro e w3 ⟨rfl, hb3⟩
      have HB3 := Lib.hid (HB2.out.trans (hb3.mono HB2.out.size))
      have HSG3 := Lib.hid (HSG2.out.below hb3)
      clear hb3
      go_wp2_with fail
      refine (HOF.out _ ((HROW.out.below HB3.out).more HB3.out.size)).mono ?_
      rintro e w4 ⟨v4, ps4, rfl, hpp4, hsg4, hb4⟩
      have HB4 := Lib.hid (HB3.out.trans (hb4.mono HB3.out.size))
      have HSG4 := Lib.hid (HSG3.out.below hb4)
      have HSM := Lib.hid (rsame_any ps4 ps (hpp4.same HPP.out) v4 (.slice A k c) w4 hsg4.row HSG4.out.row)
      clear hpp4 hsg4 hb4
      go_wp2_with fail
      refine HSM.out.mono ?_
      rintro e w5 ⟨rfl, hb5⟩
      have HB5 := Lib.hid (HB4.out.trans (hb5.mono HB4.out.size))
      have HSG5 := Lib.hid (HSG4.out.below hb5)
      clear hb5
      go_wp2_with fail
      refine (HFR.out _ ((HROW.out.below HB5.out).more HB5.out.size)).mono ?_
      rintro e w6 ⟨v6, ps6, l6, rfl, hpp6, hm6, hsg6, hb6⟩
      have HB6 := Lib.hid (HB5.out.trans (hb6.mono HB5.out.size))
      have HSG6 := Lib.hid (HSG5.out.below hb6)
      have HF6 := Lib.hid hsg6
      obtain rfl : l6 = ps.map (·.s) := hpp6.same HPP.out
      have HM6 := Lib.hid hm6
      clear hpp6 hm6 hsg6 hb6
      go_wp2_with fail
      refine (rframes_any ps (by have := HN.out; omega) (.slice A k c) w6 HSG6.out.row).mono ?_
      rintro e w7 ⟨v7, rfl, hsg7, hb7⟩
      have HB7 := Lib.hid (HB6.out.trans (hb7.mono HB6.out.size))
      have HSM7 := Lib.hid (rsame_any ps6 (onlyF ps) (by rw [HM6.out, onlyF_map]) v6 v7 w7 (HF6.out.below hb7).row hsg7.row)
      clear hsg7 hb7
      go_wp2_with fail
      refine HSM7.out.mono ?_
      rintro e w8 ⟨rfl, hb8⟩
      have HB8 := Lib.hid (HB7.out.trans (hb8.mono HB7.out.size))
      clear hb8
      go_wp2_with fail
      refine (HSK.out _ ((HROW.out.below HB8.out).more HB8.out.size)).mono ?_
      rintro e w9 ⟨l9, rfl, hpp9, hb9⟩
      obtain rfl : l9 = ps.map (·.s) := hpp9.same HPP.out
      have HB9 := Lib.hid (HB8.out.trans (hb9.mono HB8.out.size))
      clear hpp9 hb9
      go_wp2_with fail
      go_ret
      exact ⟨rfl, HB9.out⟩

set_option maxRecDepth 100000 in
theorem lifted (os : Os) (started : os.Started) (H : Type) (enc : TypeId × Value → H) :
    ReturnsInHanded {} Try.checked os 7 .any (Rows.segsOfSpec.pre6 enc Try.prog Try.f7 Rows.segsOfRow.domain false) (Rows.segsOfSpec.post enc Try.prog Try.f7 false true false false) := by
  refine returnsInHanded_of_change (C := Try.checked) own started (by kernel_rfl) Try.func7
    (ChangeSpec.witness6 (enc := enc) (C := Try.checked) false ⟨#[], #[.slice none 0 0], []⟩ 8 (by kernel_rfl) (by kernel_rfl) (by kernel_rfl) (by kernel_rfl)) ?_
  intro W base args ds gs before hval0 hW hcnd _
  have hval : ∀ (j : Nat) t v, Try.f7.params[j]? = some t → args[j]? = some v → Value.okWide Try.prog W .any base t v := hval0
  have hW' := hW
  obtain ⟨p, q, hA0, hV, rfl, hfz, hnd⟩ := hW
  have hA : DataW.TrodAll enc Try.prog W 0 (fun _ => true) true Try.f7.params.toList args.toList ds p := hA0
  rw [Try.params7] at hA hval
  obtain ⟨v0, vs0, d0, ds0, p0, q0, hargs, rfl, rfl, h0, r0⟩ := trodAll_cons hA
  obtain ⟨rfl, rfl, rfl⟩ := trodAll_nil r0
  obtain rfl : args = #[v0] := by cases args; simp_all
  obtain ⟨rfl, rfl⟩ := trodVars_none hV
  obtain ⟨a0, len0, cap0, rfl⟩ := okWide_slice Try.underlying22 (hval 0 22 v0 rfl rfl)
  have k0 := h0
  have lt0 : ∀ x ∈ p0, x.block < W.heap.size := by obtain ⟨m, hm⟩ := k0; exact DataW.trod_lt m _ _ _ hm
  obtain ⟨z0, w0⟩ : ∃ zs, IsRow .u8 W a0 len0 cap0 zs := by
    obtain ⟨fuel, hf⟩ := h0
    rcases open_ints Try.underlying22 Try.underlying5 (by kernel_rfl) hf with ⟨hcs, _⟩ | ⟨x, l, c, zs, hcs, _, hl, hm, hz, _, hcell, hwz⟩
    · simp [Value.cells] at hcs
      obtain ⟨rfl, rfl, rfl⟩ := hcs
      exact ⟨[], .inl ⟨rfl, rfl, rfl, rfl⟩⟩
    · simp [Value.cells] at hcs
      obtain ⟨rfl, rfl, rfl⟩ := hcs
      exact ⟨zs, .inr ⟨_, rfl, hl, hm, by simpa using hz, hcell, hwz⟩⟩
  clear hA0 hval0
  refine (walk a0 len0 cap0 z0 W w0).mono fun e W' ⟨he, bel⟩ => ?_
  subst he
  exact ⟨_, rfl, _, _, _, [], _, [], hW', trodAll_mk1 (shut_bool Try.underlying4 _), (trodAll_cons_mk (Below.trod laidOut (by kernel_rfl) (of_decide_eq_true (by kernel_rfl)) k0 bel lt0) trodAll_mk0), rfl, bel.frame _, fun h => by cases h⟩

theorem over : Rows.segsOfRow.holds Try.pinned (OpenSpec.ofChange Rows.segsOfSpec) :=
  OpenClaim.holds_of_wide 7 Try.f7 rfl rfl rfl rfl rfl rfl rfl ⟨rfl, rfl, rfl, rfl, rfl⟩ rfl rfl rfl rfl rfl (by kernel_rfl) Try.func7 (by kernel_rfl)
    (of_decide_eq_true (by kernel_rfl)) (by unfold Func.isWrapper; first | (rw [if_pos (by decide +kernel)]; kernel_rfl) | (rw [if_neg (by decide +kernel)]; exact ⟨rfl, rfl⟩))
    (fun os started H enc _ => lifted os started H enc)

theorem proved : Rows.SegsOfSaid := over
#print axioms proved
end Go.Proofs.Ytpphgmddancocaa.segsOf

