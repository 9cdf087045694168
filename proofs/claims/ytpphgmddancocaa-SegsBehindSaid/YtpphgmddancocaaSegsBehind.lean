/-
  At every slice of bytes the law that behind a frame the parts are those from there on answers true, and nothing that lay in memory has changed. No condition.
-/
import Derived.Test.YtpphgmddancocaaRows
import Derived.WalkKit
import Derived.ProofKit
import Derived.OpenShut
import Derived.ShutString
import Derived.ChangeOld
import Derived.Below
import Derived.Deep.QuietTactic
import Derived.BigQuiet
import Derived.IntWalk
import Derived.RegionTactic
import Derived.Test.YtpphgmddancocaaSegsFixed
import Derived.Test.YtpphgmddancocaaSegsRef
import Derived.Test.YtpphgmddancocaaSegsShift
import Derived.Test.YtpphgmddancocaaArg
namespace Go.Proofs.Ytpphgmddancocaa.segsBehind
open Go.Proofs.Ytpphgmddancocaa
open Go.ChangeShapes Go.WideShapes Go.ChangeAt Go.RowKit
open Go.ChangeMaps (open_string shut_string)
set_option linter.unusedVariables false

theorem own : ownKnob Try.prog.godebug = none := by kernel_rfl
theorem laidOut : laidOutB Try.prog = true := by kernel_rfl

set_option maxRecDepth 100000 in
set_option maxHeartbeats 1000000 in
theorem walk (a0 : Option Addr) (len0 cap0 : Nat) (z0 : List Int) (w : World) (w0 : IsRow .u8 w a0 len0 cap0 z0) :
    Calls Try.prog 9 #[.slice a0 len0 cap0] w fun e w' => e = .returned (.bool true) ∧ Below w.heap.size w w' := by
  obtain ⟨xs, rfl, hrow, hbx⟩ := Row.of_arg w0
  clear w0
  by_cases hgt : 600 < xs.length
  · have hgi : (600 : Int) < (xs.length : Int) := by omega
    go_enter Try.func9, Try.ntmps9
    go_wp2_with fail
    refine (sfix_any _).mono ?_
    rintro e w3 ⟨rfl, hb3⟩
    go_wp2_with fail
    go_ret
    exact ⟨rfl, hb3⟩
  have hle : (xs.length : Int) ≤ 600 := by omega
  have hlc0 : xs.length ≤ cap0 ∧ cap0 ≤ 9223372036854775807 := by
    obtain ⟨_, _, hv, q1, q2, _⟩ := hrow
    injection hv with _ _ e3
    subst e3
    unfold maxLen at q2
    exact ⟨q1, by omega⟩
  obtain ⟨hlc, hcm⟩ := hlc0
  have HOF := Lib.hid (fun W h => of_any a0 cap0 xs (by omega) W h hbx)
  have HLE := Lib.hid (fun l => PartsS.le (l := l) hbx)
  have HBX := Lib.hid hbx
  have HROW := Lib.hid hrow
  clear hrow hbx
  go_enter Try.func9, Try.ntmps9
  go_wp2_with fail
  refine (HOF.out _ HROW.out).mono ?_
  rintro e w1 ⟨v, ps, rfl, hpp, hsg, hb1⟩
  obtain ⟨A, c, rfl, hc, hm⟩ := hsg.form
  obtain ⟨hl1, _, hl3⟩ := HLE.out _ hpp
  rw [List.length_map] at hl1
  have HL3 := Lib.hid hl3
  have HPP := Lib.hid hpp
  have HSG := Lib.hid hsg.row
  have HB1 := Lib.hid hb1
  clear hpp hsg hb1 hl3 HOF
  obtain ⟨N, hN⟩ : ∃ N, ps.length = N := ⟨_, rfl⟩
  have HN := Lib.hid hN
  rw [hN] at hc hl1 HSG ⊢
  clear hN
  obtain ⟨L, hL⟩ : ∃ L, xs.length = L := ⟨_, rfl⟩
  have HL := Lib.hid hL
  rw [hL] at hgt hle hlc hl1 HROW ⊢
  clear hL
  go_wp2_with fail
  go_loopg [16] N (fun g i wr => ∃ k : Nat, k + g = N ∧ i = .int .i64 k ∧ Below w1.heap.size w1 wr)
  case atStart => exact ⟨0, by omega, rfl, Below.refl _ _⟩
  case round =>
    obtain ⟨k, hk, rfl, hbw⟩ := hrel
    by_cases hlt : k < N
    · obtain ⟨p, hp⟩ : ∃ p, ps[k]? = some p := ⟨_, List.getElem?_eq_getElem (by rw [HN.out]; exact hlt)⟩
      have hsl : (ps.map (·.s))[k]? = some p.s := by rw [List.getElem?_map, hp]; rfl
      have hbehind := HPP.out.behind k p.s hsl
      obtain ⟨hn1, hn2⟩ := HL3.out p.s (List.mem_of_getElem? hsl)
      rw [HL.out] at hn2
      obtain ⟨b, o, rfl, hb, x0, x1, x2, x3, x4, hr⟩ := (HSG.out.below hbw).at hp
      obtain ⟨⟨sf, sn, si, sk2, sp⟩, pA, pc⟩ := p
      simp only at hn1 hn2 hbehind x0 x1 x2 x3 x4
      have HBH := Lib.hid hbehind
      have HWA := Lib.hid (hbw.alloc hbw.size (.cells #[.int .i64 sf, .int .i64 sn, .bool si, .int .i64 sk2, .slice pA sp.length pc] 57))
      have hn1j : ¬ (sn : Int) < 1 := by omega
      have hn1i : (1 : Int) ≤ sn := by omega
      have hf0 : (0 : Int) ≤ sf := by omega
      have hf1 : ¬ (sf : Int) < 0 := by omega
      have hn2i : (sf : Int) + sn ≤ L := by omega
      have hn2j : ¬ (L : Int) < (sf : Int) + sn := by omega
      have hkb : (k : Int) ≤ 600 := by omega
      clear hp hsl hbehind hr hbw
      cases si with
      | false =>
        go_wp2_with fail
        go_roundg (N - (k + 1))
        case measure => omega
        case rel => exact ⟨k + 1, by omega, by go_num, HWA.out⟩
      | true =>
        obtain ⟨K, hK⟩ : ∃ K, sf + sn = K := ⟨_, rfl⟩
        have hKi : (sf : Int) + sn = K := by omega
        have hKL : K ≤ L := by omega
        have hKj : (K : Int) ≤ L := by omega
        have hKc : (K : Int) ≤ cap0 := by omega
        have hK0 : (0 : Int) ≤ K := by omega
        have hbh := HBH.out rfl
        rw [hK] at hbh
        have HBH2 := Lib.hid hbh
        have HKK := Lib.hid hK
        clear hK hbh HBH
        rw [hKi] at hn2i hn2j
        have HO2 : Hid (∀ W, Below w.heap.size w W → Calls Try.prog 33 #[.slice (if cap0 = K then a0 else a0.map (·.add K)) (L - K) (cap0 - K)] W (Collected (xs.drop K) W)) := Lib.hid (fun W hW => by
          have h1 := HROW.out
          rw [← HL.out] at h1
          have h2 := h1.drop (k := K) (by rw [HL.out]; omega)
          have h3 := of_any _ (cap0 - K) (xs.drop K) (by rw [List.length_drop, HL.out]; omega) W ((h2.below hW).more hW.size) (drop_bytes HBX.out K)
          rw [List.length_drop, HL.out] at h3
          exact h3)
        have hzw : wr.heap.size + 1 = (wr.alloc (.cells #[.int .i64 sf, .int .i64 sn, .bool true, .int .i64 sk2, .slice pA sp.length pc] 57)).heap.size := by simp
        by_cases hck : cap0 = K
        · subst hck
          have HO3 : Hid (∀ W, Below w.heap.size w W → Calls Try.prog 33 #[.slice a0 0 0] W (Collected (xs.drop cap0) W)) := by
            have h := HO2.out
            rw [if_pos rfl, Nat.sub_self, show L - cap0 = 0 by omega] at h
            exact Lib.hid h
          clear HO2
          go_wp2_with fail
          have hq : Held (wr.alloc (.cells #[.int .i64 sf, .int .i64 sn, .bool true, .int .i64 sk2, .slice pA sp.length pc] 57)) wr.heap.size 57 #[.int .i64 sf, .int .i64 sn, .bool true, .int .i64 sk2, .slice pA sp.length pc] := heap_alloc_new wr _
          generalize wr.alloc (.cells #[.int .i64 sf, .int .i64 sn, .bool true, .int .i64 sk2, .slice pA sp.length pc] 57) = w2 at hq hzw HWA ⊢
          obtain ⟨Q, hQ⟩ : ∃ Q, wr.heap.size = Q := ⟨_, rfl⟩
          rw [hQ] at hq hzw ⊢
          clear hQ
          refine (HO3.out w2 (HB1.out.trans (HWA.out.mono HB1.out.size))).mono ?_
          rintro e w3 ⟨v2, ps2, rfl, hpp2, hsg2, hb3⟩
          obtain ⟨A2, c2, rfl, hc2, hm2⟩ := hsg2.form
          obtain ⟨hl2, _, hl23⟩ := PartsS.le (drop_bytes HBX.out cap0) hpp2
          rw [List.length_map, List.length_drop, HL.out] at hl2
          have HL23 := Lib.hid hl23
          have hm := hpp2.shift (k := cap0) (xs := xs) (by rw [HL.out]; exact hKL)
          rw [Nat.add_zero] at hm
          have heq : (ps2.map (shiftP cap0)).map (·.s) = (ps.drop (k + 1)).map (·.s) := by
            rw [shiftP_map, List.map_drop]
            exact hm.same HBH2.out
          have HEQ := Lib.hid heq
          have HQ := Lib.hid hq
          obtain ⟨N2, hN2⟩ : ∃ N2, ps2.length = N2 := ⟨_, rfl⟩
          have HN2 := Lib.hid hN2
          have hs0 : Segs w3 w2.heap.size (.slice A2 N2 c2) (shifted cap0 0 ps2) := by rw [shifted_zero, ← hN2]; exact hsg2
          have HS0 := Lib.hid hs0
          have HB3 := Lib.hid hb3
          rw [hN2] at hc2 hl2 ⊢
          clear hl23 hs0 hN2 heq hm hpp2 hsg2 hb3 hq HO3 HBH2
          go_wp2_with fail
          obtain ⟨wy, hwy⟩ : ∃ wy, wy = w2 := ⟨_, rfl⟩
          go_loopg [54] N2 (fun g i wx => ∃ j : Nat, j + g = N2 ∧ i = .int .i64 j ∧ Hid (Segs wx w2.heap.size (.slice A2 N2 c2) (shifted cap0 j ps2)) ∧ Below w2.heap.size w2 wx)
          case atStart => exact ⟨0, by omega, rfl, HS0, HB3.out⟩
          case round =>
            clear HS0 HB3
            obtain ⟨j, hj, rfl, HSJ, hbx⟩ := hrel
            have hqx := HQ.out.below hbx HQ.out.lt
            have q0 := hqx.cell 0
            have q1 := hqx.cell 1
            simp at q0 q1
            clear hqx
            by_cases hjl : j < N2
            · obtain ⟨p2, hp2⟩ : ∃ p2, ps2[j]? = some p2 := ⟨_, List.getElem?_eq_getElem (by rw [HN2.out]; exact hjl)⟩
              obtain ⟨g2, rfl⟩ : ∃ g2, A2 = some ⟨g2, 0, none⟩ := by
                rcases HSJ.out.1.2 with ⟨h1, h2⟩ | ⟨g2, cap, cur, h1, _⟩
                · injection h1 with _ h1 _
                  omega
                · injection h1 with h1
                  exact ⟨g2, h1⟩
              have hsl2 := shifted_length cap0 j ps2
              rw [HN2.out] at hsl2
              have hown := HSJ.out.1
              rw [hsl2] at hown
              have r0 := (hown.cellAt (j * 5) (by omega)).trans (flatS_at _ _ p2 (shifted_at hp2) 0 (.int .i64 p2.s.frm) rfl)
              have f0 := hown.frozenAt (j * 5)
              have hgw : w2.heap.size ≤ g2 := (hown.lt g2 rfl).1
              have hmv := Segs.moved HN2.out HSJ.out hp2
              have HMV := Lib.hid hmv
              have hp2n : p2.s.frm ≤ 600 := by
                have h := (HL23.out p2.s (List.mem_map.2 ⟨p2, List.mem_of_getElem? hp2, rfl⟩)).2
                rw [List.length_drop, HL.out] at h
                omega
              have hp2i : (p2.s.frm : Int) ≤ 600 := by omega
              have hp2z : (0 : Int) ≤ p2.s.frm := by omega
              have HBX3 := Lib.hid (hbx.setCell (p := ⟨g2, j * 5, none⟩) hgw (.int .i64 ((p2.s.frm : Int) + cap0)))
              clear hown hmv hbx HSJ hp2
              generalize p2.s.frm = pf at *
              have hji : (j : Int) < N2 := by omega
              have hjz : (0 : Int) ≤ j := by omega
              go_wp2_with fail
              go_region
              all_goals
                go_wp2_with fail
                go_roundg (N2 - (j + 1))
                case measure => omega
                case rel => exact ⟨j + 1, by omega, by go_num, HMV.out.below (Below.refl _ _).drew, HBX3.out.drew⟩
            · obtain rfl : j = N2 := by omega
              have hsa : shifted cap0 j ps2 = ps2.map (shiftP cap0) := by rw [← HN2.out, shifted_all]
              rw [hsa] at HSJ
              have hB := HWA.out.trans (hbx.mono HWA.out.size)
              have hsd := (HSG.out.below hB).drop (k := k + 1) (by rw [HN.out]; omega)
              rw [List.length_drop, HN.out] at hsd
              have HBB := Lib.hid hB
              have hk1 : (k : Int) + 1 ≤ N := by omega
              have hk2 : (k : Int) + 1 ≤ c := by omega
              have hk3 : (0 : Int) ≤ (k : Int) + 1 := by omega
              by_cases hcd : c = k + 1
              · have hNk : N = k + 1 := by omega
                rw [if_pos hcd, show N - (k + 1) = 0 by omega, show c - (k + 1) = 0 by omega] at hsd
                have HSM := Lib.hid (rsame_any (ps2.map (shiftP cap0)) (ps.drop (k + 1)) HEQ.out _ _ _ HSJ.out.row hsd)
                subst hcd
                clear hsd hB hbx q0 q1 hNk
                go_wp2_with fail
                refine HSM.out.mono ?_
                rintro e w5 ⟨rfl, hb5⟩
                have HB5 := Lib.hid (HBB.out.trans (hb5.mono HBB.out.size))
                clear hb5
                go_wp2_with fail
                go_roundg (N - (k + 1))
                case measure => omega
                case rel => exact ⟨k + 1, by omega, by go_num, HB5.out⟩
              · rw [if_neg hcd, Option.map_some] at hsd
                have HSM := Lib.hid (rsame_any (ps2.map (shiftP cap0)) (ps.drop (k + 1)) HEQ.out _ _ _ HSJ.out.row hsd)
                clear hsd hB hbx q0 q1
                go_wp2_with fail
                refine HSM.out.mono ?_
                rintro e w5 ⟨rfl, hb5⟩
                have HB5 := Lib.hid (HBB.out.trans (hb5.mono HBB.out.size))
                clear hb5
                go_wp2_with fail
                go_roundg (N - (k + 1))
                case measure => omega
                case rel => exact ⟨k + 1, by omega, by go_num, HB5.out⟩
        · obtain ⟨ad, rfl⟩ : ∃ ad, a0 = some ad := by
            obtain ⟨_, _, hv, _, _, h3, _⟩ := HROW.out
            injection hv with e1 _ e3
            refine Option.ne_none_iff_exists'.1 fun e => ?_
            have := h3 (e1.symm.trans e)
            omega
          have HO3 : Hid (∀ W, Below w.heap.size w W → Calls Try.prog 33 #[.slice (some (ad.add K)) (L - K) (cap0 - K)] W (Collected (xs.drop K) W)) := by
            have h := HO2.out
            rw [if_neg hck, Option.map_some] at h
            exact Lib.hid h
          clear HO2
          go_wp2_with fail
          have hq : Held (wr.alloc (.cells #[.int .i64 sf, .int .i64 sn, .bool true, .int .i64 sk2, .slice pA sp.length pc] 57)) wr.heap.size 57 #[.int .i64 sf, .int .i64 sn, .bool true, .int .i64 sk2, .slice pA sp.length pc] := heap_alloc_new wr _
          generalize wr.alloc (.cells #[.int .i64 sf, .int .i64 sn, .bool true, .int .i64 sk2, .slice pA sp.length pc] 57) = w2 at hq hzw HWA ⊢
          obtain ⟨Q, hQ⟩ : ∃ Q, wr.heap.size = Q := ⟨_, rfl⟩
          rw [hQ] at hq hzw ⊢
          clear hQ
          refine (HO3.out w2 (HB1.out.trans (HWA.out.mono HB1.out.size))).mono ?_
          rintro e w3 ⟨v2, ps2, rfl, hpp2, hsg2, hb3⟩
          obtain ⟨A2, c2, rfl, hc2, hm2⟩ := hsg2.form
          obtain ⟨hl2, _, hl23⟩ := PartsS.le (drop_bytes HBX.out K) hpp2
          rw [List.length_map, List.length_drop, HL.out] at hl2
          have HL23 := Lib.hid hl23
          have hm := hpp2.shift (k := K) (xs := xs) (by rw [HL.out]; exact hKL)
          rw [Nat.add_zero] at hm
          have heq : (ps2.map (shiftP K)).map (·.s) = (ps.drop (k + 1)).map (·.s) := by
            rw [shiftP_map, List.map_drop]
            exact hm.same HBH2.out
          have HEQ := Lib.hid heq
          have HQ := Lib.hid hq
          obtain ⟨N2, hN2⟩ : ∃ N2, ps2.length = N2 := ⟨_, rfl⟩
          have HN2 := Lib.hid hN2
          have hs0 : Segs w3 w2.heap.size (.slice A2 N2 c2) (shifted K 0 ps2) := by rw [shifted_zero, ← hN2]; exact hsg2
          have HS0 := Lib.hid hs0
          have HB3 := Lib.hid hb3
          rw [hN2] at hc2 hl2 ⊢
          clear hl23 hs0 hN2 heq hm hpp2 hsg2 hb3 hq HO3 HBH2
          go_wp2_with fail
          obtain ⟨wy, hwy⟩ : ∃ wy, wy = w2 := ⟨_, rfl⟩
          go_loopg [54] N2 (fun g i wx => ∃ j : Nat, j + g = N2 ∧ i = .int .i64 j ∧ Hid (Segs wx w2.heap.size (.slice A2 N2 c2) (shifted K j ps2)) ∧ Below w2.heap.size w2 wx)
          case atStart => exact ⟨0, by omega, rfl, HS0, HB3.out⟩
          case round =>
            clear HS0 HB3
            obtain ⟨j, hj, rfl, HSJ, hbx⟩ := hrel
            have hqx := HQ.out.below hbx HQ.out.lt
            have q0 := hqx.cell 0
            have q1 := hqx.cell 1
            simp at q0 q1
            clear hqx
            by_cases hjl : j < N2
            · obtain ⟨p2, hp2⟩ : ∃ p2, ps2[j]? = some p2 := ⟨_, List.getElem?_eq_getElem (by rw [HN2.out]; exact hjl)⟩
              obtain ⟨g2, rfl⟩ : ∃ g2, A2 = some ⟨g2, 0, none⟩ := by
                rcases HSJ.out.1.2 with ⟨h1, h2⟩ | ⟨g2, cap, cur, h1, _⟩
                · injection h1 with _ h1 _
                  omega
                · injection h1 with h1
                  exact ⟨g2, h1⟩
              have hsl2 := shifted_length K j ps2
              rw [HN2.out] at hsl2
              have hown := HSJ.out.1
              rw [hsl2] at hown
              have r0 := (hown.cellAt (j * 5) (by omega)).trans (flatS_at _ _ p2 (shifted_at hp2) 0 (.int .i64 p2.s.frm) rfl)
              have f0 := hown.frozenAt (j * 5)
              have hgw : w2.heap.size ≤ g2 := (hown.lt g2 rfl).1
              have hmv := Segs.moved HN2.out HSJ.out hp2
              have HMV := Lib.hid hmv
              have hp2n : p2.s.frm ≤ 600 := by
                have h := (HL23.out p2.s (List.mem_map.2 ⟨p2, List.mem_of_getElem? hp2, rfl⟩)).2
                rw [List.length_drop, HL.out] at h
                omega
              have hp2i : (p2.s.frm : Int) ≤ 600 := by omega
              have hp2z : (0 : Int) ≤ p2.s.frm := by omega
              have HBX3 := Lib.hid (hbx.setCell (p := ⟨g2, j * 5, none⟩) hgw (.int .i64 ((p2.s.frm : Int) + K)))
              clear hown hmv hbx HSJ hp2
              generalize p2.s.frm = pf at *
              have hji : (j : Int) < N2 := by omega
              have hjz : (0 : Int) ≤ j := by omega
              go_wp2_with fail
              go_region
              all_goals
                go_wp2_with fail
                go_roundg (N2 - (j + 1))
                case measure => omega
                case rel => exact ⟨j + 1, by omega, by go_num, HMV.out.below (Below.refl _ _).drew, HBX3.out.drew⟩
            · obtain rfl : j = N2 := by omega
              have hsa : shifted K j ps2 = ps2.map (shiftP K) := by rw [← HN2.out, shifted_all]
              rw [hsa] at HSJ
              have hB := HWA.out.trans (hbx.mono HWA.out.size)
              have hsd := (HSG.out.below hB).drop (k := k + 1) (by rw [HN.out]; omega)
              rw [List.length_drop, HN.out] at hsd
              have HBB := Lib.hid hB
              have hk1 : (k : Int) + 1 ≤ N := by omega
              have hk2 : (k : Int) + 1 ≤ c := by omega
              have hk3 : (0 : Int) ≤ (k : Int) + 1 := by omega
              by_cases hcd : c = k + 1
              · have hNk : N = k + 1 := by omega
                rw [if_pos hcd, show N - (k + 1) = 0 by omega, show c - (k + 1) = 0 by omega] at hsd
                have HSM := Lib.hid (rsame_any (ps2.map (shiftP K)) (ps.drop (k + 1)) HEQ.out _ _ _ HSJ.out.row hsd)
                subst hcd
                clear hsd hB hbx q0 q1 hNk
                go_wp2_with fail
                refine HSM.out.mono ?_
                rintro e w5 ⟨rfl, hb5⟩
                have HB5 := Lib.hid (HBB.out.trans (hb5.mono HBB.out.size))
                clear hb5
                go_wp2_with fail
                go_roundg (N - (k + 1))
                case measure => omega
                case rel => exact ⟨k + 1, by omega, by go_num, HB5.out⟩
              · rw [if_neg hcd, Option.map_some] at hsd
                have HSM := Lib.hid (rsame_any (ps2.map (shiftP K)) (ps.drop (k + 1)) HEQ.out _ _ _ HSJ.out.row hsd)
                clear hsd hB hbx q0 q1
                go_wp2_with fail
                refine HSM.out.mono ?_
                rintro e w5 ⟨rfl, hb5⟩
                have HB5 := Lib.hid (HBB.out.trans (hb5.mono HBB.out.size))
                clear hb5
                go_wp2_with fail
                go_roundg (N - (k + 1))
                case measure => omega
                case rel => exact ⟨k + 1, by omega, by go_num, HB5.out⟩
    · obtain rfl : k = N := by omega
      have HB3 := Lib.hid (HB1.out.trans (hbw.mono HB1.out.size))
      clear hbw
      go_wp2_with fail
      refine (sfix_any _).mono ?_
      rintro e w3 ⟨rfl, hb3⟩
      have HB4 := Lib.hid (HB3.out.trans (hb3.mono HB3.out.size))
      clear hb3
      go_wp2_with fail
      go_ret
      exact ⟨rfl, HB4.out⟩

set_option maxRecDepth 100000 in
theorem lifted (os : Os) (started : os.Started) (H : Type) (enc : TypeId × Value → H) :
    ReturnsInHanded {} Try.checked os 9 .any (Rows.segsBehindSpec.pre6 enc Try.prog Try.f9 Rows.segsBehindRow.domain false) (Rows.segsBehindSpec.post enc Try.prog Try.f9 false true false false) := by
  refine returnsInHanded_of_change (C := Try.checked) own started (by kernel_rfl) Try.func9
    (ChangeSpec.witness6 (enc := enc) (C := Try.checked) false ⟨#[], #[.slice none 0 0], []⟩ 8 (by kernel_rfl) (by kernel_rfl) (by kernel_rfl) (by kernel_rfl)) ?_
  intro W base args ds gs before hval0 hW hcnd _
  have hval : ∀ (j : Nat) t v, Try.f9.params[j]? = some t → args[j]? = some v → Value.okWide Try.prog W .any base t v := hval0
  have hW' := hW
  obtain ⟨p, q, hA0, hV, rfl, hfz, hnd⟩ := hW
  have hA : DataW.TrodAll enc Try.prog W 0 (fun _ => true) true Try.f9.params.toList args.toList ds p := hA0
  rw [Try.params9] at hA hval
  obtain ⟨v0, vs0, d0, ds0, p0, q0, hargs, rfl, rfl, h0, r0⟩ := trodAll_cons hA
  obtain ⟨rfl, rfl, rfl⟩ := trodAll_nil r0
  obtain rfl : args = #[v0] := by cases args; simp_all
  obtain ⟨rfl, rfl⟩ := trodVars_none hV
  obtain ⟨a0, len0, cap0, rfl⟩ := okWide_slice Try.underlying22 (hval 0 22 v0 rfl rfl)
  have k0 := h0
  have lt0 : ∀ x ∈ p0, x.block < W.heap.size := by obtain ⟨m, hm⟩ := k0; exact DataW.trod_lt m _ _ _ hm
  obtain ⟨z0, w0⟩ : ∃ zs, IsRow .u8 W a0 len0 cap0 zs := by
    obtain ⟨fuel, hf⟩ := h0
    rcases open_ints Try.underlying22 Try.underlying5 (by kernel_rfl) hf with ⟨hcs, _⟩ | ⟨x, l, c, zs, hcs, _, hl, hm, hz, _, hcell, hwz⟩
    · simp [Value.cells] at hcs
      obtain ⟨rfl, rfl, rfl⟩ := hcs
      exact ⟨[], .inl ⟨rfl, rfl, rfl, rfl⟩⟩
    · simp [Value.cells] at hcs
      obtain ⟨rfl, rfl, rfl⟩ := hcs
      exact ⟨zs, .inr ⟨_, rfl, hl, hm, by simpa using hz, hcell, hwz⟩⟩
  clear hA0 hval0
  refine (walk a0 len0 cap0 z0 W w0).mono fun e W' ⟨he, bel⟩ => ?_
  subst he
  exact ⟨_, rfl, _, _, _, [], _, [], hW', trodAll_mk1 (shut_bool Try.underlying4 _), (trodAll_cons_mk (Below.trod laidOut (by kernel_rfl) (of_decide_eq_true (by kernel_rfl)) k0 bel lt0) trodAll_mk0), rfl, bel.frame _, fun h => by cases h⟩

theorem over : Rows.segsBehindRow.holds Try.pinned (OpenSpec.ofChange Rows.segsBehindSpec) :=
  OpenClaim.holds_of_wide 9 Try.f9 rfl rfl rfl rfl rfl rfl rfl ⟨rfl, rfl, rfl, rfl, rfl⟩ rfl rfl rfl rfl rfl (by kernel_rfl) Try.func9 (by kernel_rfl)
    (of_decide_eq_true (by kernel_rfl)) (by unfold Func.isWrapper; first | (rw [if_pos (by decide +kernel)]; kernel_rfl) | (rw [if_neg (by decide +kernel)]; exact ⟨rfl, rfl⟩))
    (fun os started H enc _ => lifted os started H enc)

theorem proved : Rows.SegsBehindSaid := over
#print axioms proved
end Go.Proofs.Ytpphgmddancocaa.segsBehind

