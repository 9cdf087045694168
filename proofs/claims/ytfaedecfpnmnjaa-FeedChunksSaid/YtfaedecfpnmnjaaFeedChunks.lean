/-
  At every slice of bytes, and however that is cut into chunks, the law on what a feed tells answers true, and nothing that lay in memory has changed. No condition.
-/
import Derived.Test.YtfaedecfpnmnjaaRows
import Derived.WalkKit
import Derived.ProofKit
import Derived.OpenShut
import Derived.ShutString
import Derived.ChangeOld
import Derived.Below
import Derived.Deep.LoopGhost
import Derived.Test.YtfaedecfpnmnjaaFeedFixed
import Derived.Test.YtfaedecfpnmnjaaFeedOf
import Derived.Test.YtfaedecfpnmnjaaSegsCalls
import Derived.Test.YtfaedecfpnmnjaaSegsSame
import Derived.Test.YtfaedecfpnmnjaaSlices
import Derived.Test.YtfaedecfpnmnjaaU16
namespace Go.Proofs.Ytfaedecfpnmnjaa.feedChunks
open Go.Proofs.Ytfaedecfpnmnjaa
open Go.ChangeShapes Go.WideShapes Go.ChangeAt Go.RowKit
open Go.ChangeMaps (open_string shut_string)
set_option linter.unusedVariables false

theorem own : ownKnob Try.prog.godebug = none := by kernel_rfl
theorem laidOut : laidOutB Try.prog = true := by kernel_rfl

set_option maxRecDepth 100000 in
set_option maxHeartbeats 1000000 in
theorem walk (a0 : Option Addr) (len0 cap0 : Nat) (z0 : List Int) (a1 : Option Addr) (len1 cap1 : Nat) (z1 : List Int) (w : World) (w0 : IsRow .u8 w a0 len0 cap0 z0) (w1 : IsRow .u16 w a1 len1 cap1 z1) :
    Calls Try.prog 5 #[.slice a0 len0 cap0, .slice a1 len1 cap1] w fun e w' => e = .returned (.bool true) ∧ Below w.heap.size w w' := by
  obtain ⟨xs, rfl, hrow, hbx⟩ := Row.of_arg w0
  obtain ⟨us, rfl, hus, hub⟩ := u16_of_arg w1
  clear w0 w1
  by_cases hgt : 600 < xs.length
  · have hgi : (600 : Int) < (xs.length : Int) := by omega
    go_enter Try.func5, Try.ntmps5
    go_wp2_with fail
    refine (dfix_any _).mono ?_
    rintro e w3 ⟨rfl, hb3⟩
    go_wp2_with fail
    go_ret
    exact ⟨rfl, hb3⟩
  by_cases hgt2 : 60 < us.length
  · have hgi : (60 : Int) < (us.length : Int) := by omega
    have hle : (xs.length : Int) ≤ 600 := by omega
    go_enter Try.func5, Try.ntmps5
    go_wp2_with fail
    refine (dfix_any _).mono ?_
    rintro e w3 ⟨rfl, hb3⟩
    go_wp2_with fail
    go_ret
    exact ⟨rfl, hb3⟩
  have hle : xs.length ≤ 600 := by omega
  have hle2 : us.length ≤ 60 := by omega
  obtain ⟨i0, hi, hz0, hz1, hz2⟩ := info_parts Try.infoSeg
  have HBX := Lib.hid hbx; clear hbx
  have HUB := Lib.hid hub; clear hub
  have HROW := Lib.hid hrow; clear hrow
  have HUS := Lib.hid hus; clear hus
  go_enter Try.func5, Try.ntmps5
  go_wp2_with fail
  refine (fnew_any _).mono ?_
  rintro e w2 ⟨rfl, hf2, hb2⟩
  have HF2 := Lib.hid hf2
  have HB2 := Lib.hid hb2
  have hz2' := hf2.lt
  clear hf2 hb2
  go_wp2_with fail
  obtain ⟨g, hgg⟩ : ∃ g, w.heap.size = g := ⟨_, rfl⟩
  rw [hgg] at HF2 HB2 HROW HUS hz2' ⊢
  go_loopg [6, 7, 32] us.length (fun gk oo rr ii wr => ∃ (k pos : Nat) (Ar : Option Addr) (cr : Nat) (Ao : Option Addr) (co : Nat) (ps : List Pt) (vh : Value) (a o : Nat), k ≤ us.length ∧ ii = .int .i64 k ∧ oo = .slice Ao ps.length co ∧ rr = .slice Ar (xs.length - pos) cr ∧ pos ≤ xs.length ∧
    Hid (us.length - k = gk) ∧ Hid (Segs wr g (.slice Ao ps.length co) ps) ∧ Hid (Fed wr g g vh (xs.take pos) (ps.map (·.s)) a o) ∧ Hid (OffN vh.ownBlock ps) ∧ Hid (Row wr g (.slice Ar (xs.length - pos) cr) (xs.drop pos)) ∧ Hid (Below g w wr))
  case atStart => exact ⟨0, 0, a0, cap0, none, 0, [], .slice none 0 0, 0, 0, Nat.zero_le _, rfl, rfl, rfl, Nat.zero_le _, Lib.hid rfl, Lib.hid (Segs.nil _ _), Lib.hid ⟨HF2.out, World.ownsRow_nil _ _ _ _, Fd.start⟩, Lib.hid (OffN.nil _), Lib.hid (HROW.out.below HB2.out), Lib.hid HB2.out⟩
  case round =>
    obtain ⟨k, pos, Ar, cr, Ao, co, ps, vh, a, o, hk, rfl, rfl, rfl, hpos, HGK, HS, HFD, HOFF, HR, HB⟩ := hrel
    have hgl := HFD.out.1.lt
    by_cases hlt : k < us.length
    · obtain ⟨u, hu⟩ : ∃ u, us[k]? = some u := ⟨_, List.getElem?_eq_getElem hlt⟩
      have hu16 : u < 65536 := HUB.out u (List.mem_of_getElem? hu)
      have hc : ∃ b o, a1 = some ⟨b, o, none⟩ ∧ wr.cell? ⟨b, o + k, none⟩ = some (.int .u16 u) := by
        obtain ⟨_, _, hv, _, _, _, h4⟩ := HUS.out.below HB.out
        injection hv with e1 _ _
        obtain ⟨b, o, e, _, hc⟩ := h4 (by rw [List.length_map]; omega)
        exact ⟨b, o, e1.trans e, hc k _ (by rw [List.getElem?_map, hu]; rfl)⟩
      obtain ⟨bu, ou, hau, hcu⟩ := hc
      obtain ⟨m, hm⟩ : ∃ m, u % (xs.length - pos + 1) = m := ⟨_, rfl⟩
      have hmle : m ≤ xs.length - pos := by have := Nat.mod_lt u (by omega : 0 < xs.length - pos + 1); omega
      have hrem : (u : Int).tmod (((xs.length - pos : Nat) : Int) + 1) = (m : Int) := by
        rw [Int.tmod_eq_emod_of_nonneg (by omega), ← hm, Int.natCast_emod, Int.natCast_add]
        rfl
      have hlr : (xs.drop pos).length = xs.length - pos := List.length_drop
      have hlt2 : (xs.take pos).length = pos := by rw [List.length_take]; omega
      obtain ⟨_, hcr1, hcr2⟩ : ∃ _ : True, xs.length - pos ≤ cr ∧ cr ≤ 9223372036854775807 := by
        obtain ⟨_, _, hv, q1, q2, _⟩ := HR.out
        injection hv with _ e2 e3
        subst e3
        unfold maxLen at q2
        exact ⟨trivial, by omega, by omega⟩
      have hyl : ((xs.drop pos).take m).length = m := by rw [List.length_take]; omega
      have htk : xs.take pos ++ (xs.drop pos).take m = xs.take (pos + m) := by rw [List.take_add]
      have hrt := HR.out.take (k := m) (by omega)
      rw [hyl] at hrt
      have hgv := give_any wr g g vh (xs.take pos) (ps.map (·.s)) a o HFD.out (fun x hx => HBX.out x (List.mem_of_mem_take hx)) (Nat.le_of_lt hgl) Ar cr ((xs.drop pos).take m) (fun x hx => HBX.out x (List.mem_of_mem_drop (List.mem_of_mem_take hx))) (by rw [hyl]; exact hrt.more (Nat.le_of_lt hgl)) (by rw [htk, List.length_take]; omega)
      rw [hyl, htk] at hgv
      have HGV := Lib.hid hgv
      have hpl : ps.length ≤ 600 := by
        have := HFD.out.2.2.len (fun x hx => HBX.out x (List.mem_of_mem_take hx))
        rw [List.length_map, List.length_take] at this
        omega
      have hown := fun j (e : vh.ownBlock = some j) => (HFD.out.2.1.lt j e).1
      have HOWN := Lib.hid hown
      have u0 : (0 : Int) ≤ u := by omega
      have u1 : (u : Int) < 65536 := by omega
      have m0 : (0 : Int) ≤ m := by omega
      have m1 : (m : Int) ≤ ((xs.length - pos : Nat) : Int) := by omega
      have m2 : ((xs.length - pos : Nat) : Int) ≤ cr := by omega
      have m3 : ((xs.length - pos : Nat) : Int) ≤ 600 := by omega
      have k1 : (k : Int) < us.length := by omega
      clear hgv hrt hyl htk hown hu hu16 hm hlr hlt2
      subst hau
      go_wp2_with fail
      refine HGV.out.mono ?_
      rintro e w3 ⟨v3, qs, vh3, a3, o3, rfl, hs3, hnp3, hfd3, hbut3, hat3, hoff3, hql⟩
      rw [← List.map_append] at hfd3
      rw [List.length_take] at hql
      have hlow : Below g wr w3 := hbut3.low (Nat.le_of_lt hgl) (Nat.le_refl _) HOWN.out
      have HSO := Lib.hid (HS.out.fed HFD.out.1 HFD.out.2.1 hbut3 HOFF.out)
      have hoffo : OffN vh3.ownBlock ps := by
        rcases hat3 with h | ⟨j, h1, h2⟩
        · rw [h]; exact HOFF.out
        · exact (reads_low HS.out.2.2 rfl).offN (fun i e => by rw [h1] at e; injection e with e; omega)
      have HOF3 := Lib.hid (hoffo.append hoff3)
      have HB3 := Lib.hid (HB.out.trans hlow)
      have hrd := (HR.out.below hlow).drop (k := m) (by rw [List.length_drop]; omega)
      rw [List.drop_drop, List.length_drop] at hrd
      obtain ⟨Aq, cq, rfl, _, _⟩ := hs3.form
      have HS3 := Lib.hid hs3
      have HFD3 := Lib.hid hfd3
      have hgl3 := hfd3.1.lt
      have HRD := Lib.hid hrd
      have HSB := Lib.hid (fun W (h : Below w3.heap.size w3 W) => HSO.out.below h)
      have HS3B := Lib.hid (fun W (h : Below w3.heap.size w3 W) => (hs3.below h).row)
      clear hs3 hnp3 hfd3 hbut3 hat3 hoff3 hoffo hrd hlow HS HFD HOFF HB HR HGV HOWN
      go_wp2_with fail
      by_cases hck : cr = m
      · rw [if_pos hck, show cr - m = 0 by omega] at HRD
        go_region_law (first | (refine step_append_segs (by rfl) (.tmp 50) (.tmp 51) 38 (by rfl) i0 _ Try.underlying38 hi hz0 hz1 (by omega) rfl g (.slice Ao ps.length co) ps (by rfl) (HSB.out _ (by first | exact Below.refl _ _ | exact (Below.refl _ _).drew)) (.slice Aq qs.length cq) qs (by rfl) (HS3B.out _ (by first | exact Below.refl _ _ | exact (Below.refl _ _).drew)) (by omega) (by simp; omega) ?_; intro v5 w5 hs5 hg5))
        all_goals
          have hb0 := (by first | exact ⟨_, Below.refl _ _, hg5⟩ | exact ⟨_, (Below.refl _ _).drew, hg5⟩ : ∃ W, Below w3.heap.size w3 W ∧ W.grownBy w5 (Value.slice Ao ps.length co).ownBlock)
          obtain ⟨W3, hbW, hgW⟩ := hb0
          have HFD5 := Lib.hid (HFD3.out.app HSO.out hbW hgW)
          have hlow5 : Below g w3 w5 := (app_but HFD3.out.1 HSO.out hbW hgW).1.low (Nat.le_of_lt hgl3) (Nat.le_refl _) (fun j e => (HSO.out.1.lt j e).1)
          have HRD5 := Lib.hid (HRD.out.below hlow5)
          have HB5 := Lib.hid (HB3.out.trans hlow5)
          obtain ⟨A5, c5, ev, _, _⟩ := hs5.form
          obtain ⟨N5, hN5⟩ : ∃ N5, (ps ++ qs).length = N5 := ⟨_, rfl⟩
          rw [hN5] at ev
          subst ev
          have HS5 := Lib.hid hs5
          have HN5 := Lib.hid hN5
          clear hs5 hg5 hbW hgW hlow5 hN5
          go_wp2_with fail
          go_roundg (us.length - (k + 1))
          case measure => have := HGK.out; omega
          case rel => exact ⟨k + 1, pos + m, Ar, 0, A5, c5, ps ++ qs, vh3, a3, o3, by omega, by go_num, by rw [HN5.out], by rw [show xs.length - pos - m = xs.length - (pos + m) by omega], by omega, Lib.hid rfl, Lib.hid (by rw [HN5.out]; exact HS5.out), HFD5, HOF3, HRD5, HB5⟩
      · rw [if_neg hck] at HRD
        go_region_law (first | (refine step_append_segs (by rfl) (.tmp 50) (.tmp 51) 38 (by rfl) i0 _ Try.underlying38 hi hz0 hz1 (by omega) rfl g (.slice Ao ps.length co) ps (by rfl) (HSB.out _ (by first | exact Below.refl _ _ | exact (Below.refl _ _).drew)) (.slice Aq qs.length cq) qs (by rfl) (HS3B.out _ (by first | exact Below.refl _ _ | exact (Below.refl _ _).drew)) (by omega) (by simp; omega) ?_; intro v5 w5 hs5 hg5))
        all_goals
          have hb0 := (by first | exact ⟨_, Below.refl _ _, hg5⟩ | exact ⟨_, (Below.refl _ _).drew, hg5⟩ : ∃ W, Below w3.heap.size w3 W ∧ W.grownBy w5 (Value.slice Ao ps.length co).ownBlock)
          obtain ⟨W3, hbW, hgW⟩ := hb0
          have HFD5 := Lib.hid (HFD3.out.app HSO.out hbW hgW)
          have hlow5 : Below g w3 w5 := (app_but HFD3.out.1 HSO.out hbW hgW).1.low (Nat.le_of_lt hgl3) (Nat.le_refl _) (fun j e => (HSO.out.1.lt j e).1)
          have HRD5 := Lib.hid (HRD.out.below hlow5)
          have HB5 := Lib.hid (HB3.out.trans hlow5)
          obtain ⟨A5, c5, ev, _, _⟩ := hs5.form
          obtain ⟨N5, hN5⟩ : ∃ N5, (ps ++ qs).length = N5 := ⟨_, rfl⟩
          rw [hN5] at ev
          subst ev
          have HS5 := Lib.hid hs5
          have HN5 := Lib.hid hN5
          clear hs5 hg5 hbW hgW hlow5 hN5
          go_wp2_with fail
          go_roundg (us.length - (k + 1))
          case measure => have := HGK.out; omega
          case rel => exact ⟨k + 1, pos + m, _, cr - m, A5, c5, ps ++ qs, vh3, a3, o3, by omega, by go_num, by rw [HN5.out], by rw [show xs.length - pos - m = xs.length - (pos + m) by omega], by omega, Lib.hid rfl, Lib.hid (by rw [HN5.out]; exact HS5.out), HFD5, HOF3, HRD5, HB5⟩
    · have hge : us.length ≤ k := by omega
      have hlr : (xs.drop pos).length = xs.length - pos := List.length_drop
      have htk : xs.take pos ++ xs.drop pos = xs := List.take_append_drop pos xs
      have hgv := give_any wr g g vh (xs.take pos) (ps.map (·.s)) a o HFD.out (fun x hx => HBX.out x (List.mem_of_mem_take hx)) (Nat.le_of_lt hgl) Ar cr (xs.drop pos) (fun x hx => HBX.out x (List.mem_of_mem_drop hx)) (by rw [hlr]; exact HR.out.more (Nat.le_of_lt hgl)) (by rw [htk]; omega)
      rw [hlr, htk] at hgv
      have HGV := Lib.hid hgv
      have hpl : ps.length ≤ 600 := by
        have := HFD.out.2.2.len (fun x hx => HBX.out x (List.mem_of_mem_take hx))
        rw [List.length_map, List.length_take] at this
        omega
      have hown := fun j (e : vh.ownBlock = some j) => (HFD.out.2.1.lt j e).1
      have HOWN := Lib.hid hown
      clear hgv hown hlr htk
      go_wp2_with fail
      refine HGV.out.mono ?_
      rintro e w3 ⟨v3, qs, vh3, a3, o3, rfl, hs3, hnp3, hfd3, hbut3, hat3, hoff3, hql⟩
      rw [← List.map_append] at hfd3
      have hlow : Below g wr w3 := hbut3.low (Nat.le_of_lt hgl) (Nat.le_refl _) HOWN.out
      have HSO := Lib.hid (HS.out.fed HFD.out.1 HFD.out.2.1 hbut3 HOFF.out)
      have hoffo : OffN vh3.ownBlock ps := by
        rcases hat3 with h | ⟨j, h1, h2⟩
        · rw [h]; exact HOFF.out
        · exact (reads_low HS.out.2.2 rfl).offN (fun i e => by rw [h1] at e; injection e with e; omega)
      have HOFO := Lib.hid hoffo
      have HOF3 := Lib.hid hoff3
      have HB3 := Lib.hid (HB.out.trans hlow)
      have hgl3 := hfd3.1.lt
      have HCL := Lib.hid (close_any w3 g g vh3 xs _ a3 o3 hfd3 HBX.out (Nat.le_of_lt hgl3) (by omega))
      have hz3 : wr.heap.size ≤ w3.heap.size := hbut3.size
      obtain ⟨Aq, cq, rfl, _, _⟩ := hs3.form
      have HS3 := Lib.hid hs3
      have HFD3 := Lib.hid hfd3
      have hown3 := fun j (e : vh3.ownBlock = some j) => (hfd3.2.1.lt j e).1
      have HOWN3 := Lib.hid hown3
      have HOLT := Lib.hid (fun j e => (HS.out.1.lt j e).2)
      clear hs3 hnp3 hfd3 hbut3 hat3 hoff3 hoffo hlow HS HFD HOFF HB HR HGV HOWN hown3
      go_wp2_with fail
      refine HCL.out.mono ?_
      rintro e w4 ⟨v4, rs, vh4, a4, rfl, hs4, hnp4, hpp, hf4, _, hbut4, _, _, hrl⟩
      have hlow : Below g w3 w4 := hbut4.low (Nat.le_of_lt hgl3) (Nat.le_refl _) HOWN3.out
      have HSO4 := Lib.hid (HSO.out.fed HFD3.out.1 HFD3.out.2.1 hbut4 HOFO.out)
      have HSQ4 := Lib.hid (HS3.out.fed HFD3.out.1 HFD3.out.2.1 hbut4 HOF3.out)
      have HB4 := Lib.hid (HB3.out.trans hlow)
      have hz4 : w3.heap.size ≤ w4.heap.size := hbut4.size
      obtain ⟨Az, cz, rfl, _, _⟩ := hs4.form
      have HS4 := Lib.hid hs4
      have HPP := Lib.hid hpp
      clear hs4 hnp4 hpp hf4 hbut4 hlow HSO HS3 HFD3 HCL HOF3 HOFO
      have hql2 : qs.length ≤ 600 := by omega
      have hrl2 : rs.length ≤ 601 := by omega
      have hgw3 : g ≤ w3.heap.size := Nat.le_of_lt hgl3
      have HOF := Lib.hid (fun W h => of_any a0 cap0 xs (by omega) W h HBX.out)
      go_wp2_with (first
        | (at_builtin; (refine wpList_append_segs (by rfl) (.tmp 70) (.tmp 71) 38 (by rfl) i0 _ Try.underlying38 hi hz0 hz1 (by omega) rfl g (.slice Ao ps.length co) ps (by rfl) HSO4.out (.slice Aq qs.length cq) qs (by rfl) HSQ4.out.row (by omega) (by omega) ?_; intro v5 w5 hs5 hg5; obtain ⟨A5, c5, ev, _, _⟩ := hs5.form; obtain ⟨N5, hN5⟩ : ∃ N5, (ps ++ qs).length = N5 := ⟨_, rfl⟩; rw [hN5] at ev; subst ev; have hN52 : N5 ≤ 1200 := (by rw [← hN5, List.length_append]; omega); have HS5 := Lib.hid hs5; have HZ5 := Lib.hid (HS4.out.app HSO4.out (fun j e => Nat.lt_of_lt_of_le (HOLT.out j e) hz3) hg5); have HB5 := Lib.hid (HB4.out.grown hg5 (Nat.le_trans hgw3 hz4) (fun j e => (HSO4.out.1.lt j e).1)); have HN5 := Lib.hid hN5; have hz5 : w4.heap.size ≤ w5.heap.size := hg5.size; clear hs5 hg5 hN5))
        | (at_builtin; (refine wpList_append_segs (by rfl) (.tmp 72) (.tmp 73) 38 (by rfl) i0 _ Try.underlying38 hi hz0 hz1 (by omega) rfl g (.slice A5 N5 c5) (ps ++ qs) (by rfl) HS5.out (.slice Az rs.length cz) rs (by rfl) HZ5.out.row (by rw [HN5.out]; omega) (by omega) ?_; intro v6 w6 hs6 hg6; obtain ⟨A6, c6, ev, _, _⟩ := hs6.form; obtain ⟨N6, hN6⟩ : ∃ N6, (ps ++ qs ++ rs).length = N6 := ⟨_, rfl⟩; rw [hN6] at ev; subst ev; have HS6 := Lib.hid hs6; have HB6 := Lib.hid (HB5.out.grown hg6 (Nat.le_trans (Nat.le_trans hgw3 hz4) hz5) (fun j e => (HS5.out.1.lt j e).1)); have HN6 := Lib.hid hN6; have hz6 : w5.heap.size ≤ w6.heap.size := hg6.size; clear hs6 hg6 hN6)))
      have hgw6 : g ≤ w6.heap.size := by omega
      refine (dfix_any _).mono ?_
      rintro e w7 ⟨rfl, hb7⟩
      have hgw7 : g ≤ w7.heap.size := Nat.le_trans hgw6 hb7.size
      have HB7 := Lib.hid (HB6.out.trans (hb7.mono hgw6))
      have HS7 := Lib.hid (HS6.out.below hb7)
      clear hb7
      go_wp2_with fail
      refine (HOF.out _ ((HROW.out.below HB7.out).more hgw7)).mono ?_
      rintro e w8 ⟨v8, ps8, rfl, hpp8, hsg8, hb8⟩
      have HB8 := Lib.hid (HB7.out.trans (hb8.mono hgw7))
      have hgw8 : g ≤ w8.heap.size := Nat.le_trans hgw7 hb8.size
      have hpp := HPP.out
      rw [← List.map_append] at hpp
      have HSM := Lib.hid (rsame_any (ps ++ qs ++ rs) ps8 (hpp.same hpp8) (.slice A6 N6 c6) v8 w8 (HS7.out.below hb8).row hsg8.row)
      obtain ⟨A8, c8, rfl, _, _⟩ := hsg8.form
      clear hpp8 hsg8 hb8 hpp
      go_wp2_with fail
      refine HSM.out.mono ?_
      rintro e w9 ⟨rfl, hb9⟩
      have HB9 := Lib.hid (HB8.out.trans (hb9.mono hgw8))
      clear hb9
      go_wp2_with fail
      go_ret
      exact ⟨rfl, by rw [hgg]; exact HB9.out⟩

set_option maxRecDepth 100000 in
theorem lifted (os : Os) (started : os.Started) (H : Type) (enc : TypeId × Value → H) :
    ReturnsInHanded {} Try.checked os 5 .any (Rows.feedChunksSpec.pre6 enc Try.prog Try.f5 Rows.feedChunksRow.domain false) (Rows.feedChunksSpec.post enc Try.prog Try.f5 false true false false) := by
  refine returnsInHanded_of_change (C := Try.checked) own started (by kernel_rfl) Try.func5
    (ChangeSpec.witness6 (enc := enc) (C := Try.checked) false ⟨#[], #[.slice none 0 0, .slice none 0 0], []⟩ 8 (by kernel_rfl) (by kernel_rfl) (by kernel_rfl) (by kernel_rfl)) ?_
  intro W base args ds gs before hval0 hW hcnd _
  have hval : ∀ (j : Nat) t v, Try.f5.params[j]? = some t → args[j]? = some v → Value.okWide Try.prog W .any base t v := hval0
  have hW' := hW
  obtain ⟨p, q, hA0, hV, rfl, hfz, hnd⟩ := hW
  have hA : DataW.TrodAll enc Try.prog W 0 (fun _ => true) true Try.f5.params.toList args.toList ds p := hA0
  rw [Try.params5] at hA hval
  obtain ⟨v0, vs0, d0, ds0, p0, q0, hargs, rfl, rfl, h0, r0⟩ := trodAll_cons hA
  obtain ⟨v1, vs1, d1, ds1, p1, q1, rfl, rfl, rfl, h1, r1⟩ := trodAll_cons r0
  obtain ⟨rfl, rfl, rfl⟩ := trodAll_nil r1
  obtain rfl : args = #[v0, v1] := by cases args; simp_all
  obtain ⟨rfl, rfl⟩ := trodVars_none hV
  obtain ⟨a0, len0, cap0, rfl⟩ := okWide_slice Try.underlying22 (hval 0 22 v0 rfl rfl)
  have k0 := h0
  have lt0 : ∀ x ∈ p0, x.block < W.heap.size := by obtain ⟨m, hm⟩ := k0; exact DataW.trod_lt m _ _ _ hm
  obtain ⟨z0, w0⟩ : ∃ zs, IsRow .u8 W a0 len0 cap0 zs := by
    obtain ⟨fuel, hf⟩ := h0
    rcases open_ints Try.underlying22 Try.underlying5 (by kernel_rfl) hf with ⟨hcs, _⟩ | ⟨x, l, c, zs, hcs, _, hl, hm, hz, _, hcell, hwz⟩
    · simp [Value.cells] at hcs
      obtain ⟨rfl, rfl, rfl⟩ := hcs
      exact ⟨[], .inl ⟨rfl, rfl, rfl, rfl⟩⟩
    · simp [Value.cells] at hcs
      obtain ⟨rfl, rfl, rfl⟩ := hcs
      exact ⟨zs, .inr ⟨_, rfl, hl, hm, by simpa using hz, hcell, hwz⟩⟩
  obtain ⟨a1, len1, cap1, rfl⟩ := okWide_slice Try.underlying46 (hval 1 46 v1 rfl rfl)
  have k1 := h1
  have lt1 : ∀ x ∈ p1, x.block < W.heap.size := by obtain ⟨m, hm⟩ := k1; exact DataW.trod_lt m _ _ _ hm
  obtain ⟨z1, w1⟩ : ∃ zs, IsRow .u16 W a1 len1 cap1 zs := by
    obtain ⟨fuel, hf⟩ := h1
    rcases open_ints Try.underlying46 Try.underlying49 (by kernel_rfl) hf with ⟨hcs, _⟩ | ⟨x, l, c, zs, hcs, _, hl, hm, hz, _, hcell, hwz⟩
    · simp [Value.cells] at hcs
      obtain ⟨rfl, rfl, rfl⟩ := hcs
      exact ⟨[], .inl ⟨rfl, rfl, rfl, rfl⟩⟩
    · simp [Value.cells] at hcs
      obtain ⟨rfl, rfl, rfl⟩ := hcs
      exact ⟨zs, .inr ⟨_, rfl, hl, hm, by simpa using hz, hcell, hwz⟩⟩
  clear hA0 hval0
  refine (walk a0 len0 cap0 z0 a1 len1 cap1 z1 W w0 w1).mono fun e W' ⟨he, bel⟩ => ?_
  subst he
  exact ⟨_, rfl, _, _, _, [], _, [], hW', trodAll_mk1 (shut_bool Try.underlying4 _), (trodAll_cons_mk (Below.trod laidOut (by kernel_rfl) (of_decide_eq_true (by kernel_rfl)) k0 bel lt0) (trodAll_cons_mk (Below.trod laidOut (by kernel_rfl) (of_decide_eq_true (by kernel_rfl)) k1 bel lt1) trodAll_mk0)), rfl, bel.frame _, fun h => by cases h⟩

theorem over : Rows.feedChunksRow.holds Try.pinned (OpenSpec.ofChange Rows.feedChunksSpec) :=
  OpenClaim.holds_of_wide 5 Try.f5 rfl rfl rfl rfl rfl rfl rfl ⟨rfl, rfl, rfl, rfl, rfl⟩ rfl rfl rfl rfl rfl (by kernel_rfl) Try.func5 (by kernel_rfl)
    (of_decide_eq_true (by kernel_rfl)) (by unfold Func.isWrapper; first | (rw [if_pos (by decide +kernel)]; kernel_rfl) | (rw [if_neg (by decide +kernel)]; exact ⟨rfl, rfl⟩))
    (fun os started H enc _ => lifted os started H enc)

theorem proved : Rows.FeedChunksSaid := over
#print axioms proved
end Go.Proofs.Ytfaedecfpnmnjaa.feedChunks

