/-
  The dictionary of a trace; the chapter's example of layer 13.
-/
import Derived.Test.YtlmedebhkkiagaaDictPut
import Derived.Deep.QuietTactic
import Derived.BigQuiet
namespace Go.Proofs.Ytlmedebhkkiagaa
open Go.RowKit Go.ChangeShapes Go.WideShapes

theorem addA_le {L : List (List Int)} {l : List Ag} (k : Nat) : (addA L (l.take k)).length ≤ L.length + l.length := by
  have := (addA_ok (l.take k) L).high
  have h2 : (l.take k).length ≤ l.length := by rw [List.length_take]; omega
  omega
set_option maxRecDepth 100000 in
set_option maxHeartbeats 1000000 in
theorem pargs_any {w : World} {base D r : Nat} {v : Value} {L : List (List Int)} (h : DictAt w base D r v L) (A : Option Addr) (c : Nat) (l : List Ag) (hg : GRow w base (.slice A l.length c) l) (hn : L.length + l.length ≤ 1000000000) (hbs : base ≤ w.heap.size) :
    Calls Try.prog 34 #[.pointer (some ⟨D, 0, none⟩), .slice A l.length c] w fun e w' => e = .returned (.tuple #[]) ∧ (∃ v', DictAt w' base D r v' (addA L l)) ∧ Below base w w' := by
  obtain ⟨-, hc1, hc2⟩ := hg.1.len
  have HG := Lib.hid hg
  have H0 := Lib.hid h
  clear hg h
  go_enter Try.func34, Try.ntmps34
  go_wp2_with fail
  go_loopg [8] l.length (fun gk i wr => ∃ (k : Nat) (v : Value), k ≤ l.length ∧ i = .int .i64 k ∧ Hid (l.length - k = gk) ∧ Hid (DictAt wr base D r v (addA L (l.take k))) ∧ Hid (Below base w wr))
  case atStart => exact ⟨0, v, Nat.zero_le _, rfl, Lib.hid rfl, H0, Lib.hid (Below.refl _ _)⟩
  case round =>
    obtain ⟨k, v1, hk, rfl, HGK, HD, HB⟩ := hrel
    by_cases hlt : k < l.length
    · obtain ⟨a, ha⟩ : ∃ a, l[k]? = some a := ⟨_, List.getElem?_eq_getElem hlt⟩
      have hz := HB.out.size
      obtain ⟨b, o, rfl, hb, x0, x1, x2, hfit⟩ := (HG.out.below HB.out).at ha
      obtain ⟨w4, hw4⟩ : ∃ w4, wr.alloc (.cells #[.int .i64 a.t, .int .i64 a.n, .string (strOfNums a.s)] 68) = w4 := ⟨_, rfl⟩
      have s4 : w4.heap.size = wr.heap.size + 1 := by rw [← hw4, World.size_alloc]
      have hb4 : Below wr.heap.size wr w4 := by rw [← hw4]; exact (Below.refl _ _).alloc (Nat.le_refl _) _
      have hh4 : Held w4 wr.heap.size 68 #[.int .i64 a.t, .int .i64 a.n, .string (strOfNums a.s)] := by rw [← hw4]; exact heap_alloc_new wr _
      have y0 := hh4.cell 0
      have y2 := hh4.cell 2
      simp at y0 y2
      have hd4 := HD.out.below hb4
      have HB4 := Lib.hid (HB.out.trans (hb4.mono (by omega)))
      have HS := Lib.hid (addA_succ (L := L) ha)
      by_cases ht : a.t = 2
      · have hst : stepA (addA L (l.take k)) a = (putD (addA L (l.take k)) a.s).1 := if_pos ht
        rw [hst] at HS
        have hp := dput_any hd4 a.s hfit.2.1 hfit.1 (by have := addA_le (L := L) (l := l) k; omega) (by omega)
        rw [← HS.out] at hp
        have HP := Lib.hid hp
        have HD4 := Lib.hid hd4
        obtain ⟨at', hat⟩ : ∃ t, a.t = t := ⟨_, rfl⟩
        rw [hat] at x0 hw4 y0 ht
        clear hp hd4 hst ha hfit hb4 hh4 hat
        subst ht
        go_wp2_with fail
        refine HP.out.mono ?_
        rintro e w5 ⟨rfl, v2, hd5, hbt, _⟩
        have HB5 := Lib.hid (HB4.out.trans (hbt.below (by omega) HD4.out))
        have HD5 := Lib.hid hd5
        clear hd5 hbt
        go_wp2_with fail
        go_roundg (l.length - (k + 1))
        case measure => have := HGK.out; omega
        case rel => exact ⟨k + 1, v2, by omega, by go_num, Lib.hid rfl, HD5, HB5⟩
      · have hst : stepA (addA L (l.take k)) a = addA L (l.take k) := if_neg ht
        rw [hst] at HS
        have HD4 := Lib.hid hd4
        rw [← HS.out] at HD4
        have hne : (a.t == 2) = false := beq_eq_false_iff_ne.2 ht
        clear hd4 hst ha hfit hb4 hh4 ht
        go_wp2_with fail
        go_roundg (l.length - (k + 1))
        case measure => have := HGK.out; omega
        case rel => exact ⟨k + 1, v1, by omega, by go_num, Lib.hid rfl, HD4, HB4⟩
    · obtain rfl : k = l.length := by omega
      have HD' := HD
      rw [List.take_length] at HD'
      go_wp2_with fail
      go_end0
      exact ⟨rfl, ⟨v1, HD'.out⟩, HB.out⟩
#print axioms pargs_any

set_option maxRecDepth 100000 in
set_option maxHeartbeats 1000000 in
theorem dof_any (A : Option Addr) (c : Nat) (ps : List Pm) (w : World) (hrow : TrRow w w.heap.size (.slice A ps.length c) ps) (hn : nT ps ≤ 1000000000) :
    Calls Try.prog 24 #[.slice A ps.length c] w fun e w' => ∃ D r v, e = .returned (.pointer (some ⟨D, 0, none⟩)) ∧ DictAt w' w.heap.size D r v (addT [] ps) ∧ Below w.heap.size w w' := by
  obtain ⟨-, hc1, hc2⟩ := hrow.1.len
  obtain ⟨N, hN⟩ : ∃ N, w.heap.size = N := ⟨_, rfl⟩
  have HW := Lib.hid (dnew_any w)
  rw [hN] at HW hrow ⊢
  have HTR := Lib.hid hrow
  clear hrow
  go_enter Try.func24, Try.ntmps24
  go_wp2_with fail
  refine HW.out.mono ?_
  rintro e w1 ⟨D, r, v, rfl, hd, _, hb⟩
  have HD1 := Lib.hid hd
  have HB1 := Lib.hid hb
  clear hd hb HW
  go_wp2_with fail
  go_loopg [11] ps.length (fun gk i wr => ∃ (k : Nat) (v : Value), k ≤ ps.length ∧ i = .int .i64 k ∧ Hid (ps.length - k = gk) ∧ Hid (DictAt wr N D r v (addT [] (ps.take k))) ∧ Hid (Below N w wr))
  case atStart => exact ⟨0, v, Nat.zero_le _, rfl, Lib.hid rfl, HD1, HB1⟩
  case round =>
    obtain ⟨k, v1, hk, rfl, HGK, HD, HB⟩ := hrel
    by_cases hlt : k < ps.length
    · obtain ⟨d, hd⟩ : ∃ d, ps[k]? = some d := ⟨_, List.getElem?_eq_getElem hlt⟩
      have hz := HB.out.size
      obtain ⟨b, o, rfl, hb, x0, x1, hok, hl1, hl2⟩ := (HTR.out.below HB.out).at hd
      obtain ⟨w4, hw4⟩ : ∃ w4, wr.alloc (.cells #[.int .u64 d.tm, .slice d.A d.evs.length d.c] 39) = w4 := ⟨_, rfl⟩
      have s4 : w4.heap.size = wr.heap.size + 1 := by rw [← hw4, World.size_alloc]
      have hb4 : Below wr.heap.size wr w4 := by rw [← hw4]; exact (Below.refl _ _).alloc (Nat.le_refl _) _
      have hh4 : Held w4 wr.heap.size 39 #[.int .u64 d.tm, .slice d.A d.evs.length d.c] := by rw [← hw4]; exact heap_alloc_new wr _
      have y1 := hh4.cell 1
      simp at y1
      have HD4 := Lib.hid (HD.out.below hb4)
      have hbx := HB.out.trans (hb4.mono (by omega))
      have HB4 := Lib.hid hbx
      have HS := Lib.hid (addT_succ (L := []) hd)
      have hnk := nT_at ps k d hd
      have hlen := (addT_ok (ps.take k) []).high
      simp only [List.length_nil, Nat.zero_add] at hlen
      obtain ⟨dA, hdA⟩ : ∃ dA, d.A = dA := ⟨_, rfl⟩
      have hgr := hok.1.below (hb4.mono (by omega))
      rw [hdA] at hgr y1 x1 hw4
      have HGR := Lib.hid hgr
      obtain ⟨M, hM⟩ : ∃ M, addT [] (ps.take k) = M := ⟨_, rfl⟩
      rw [hM] at hlen HS HD4
      have HLE := Lib.hid hlen
      have HNK := Lib.hid hnk
      clear hok hd hh4 hgr hdA hb4 hbx hM hlen hnk
      obtain ⟨wx, hwx⟩ : ∃ wx, wx = wr := ⟨_, rfl⟩
      subst hwx
      go_wp2_with fail
      clear hw4 x0 x1 y1
      go_loopg [18] d.evs.length (fun gm i wr2 => ∃ (m : Nat) (v : Value), m ≤ d.evs.length ∧ i = .int .i64 m ∧ Hid (d.evs.length - m = gm) ∧ Hid (DictAt wr2 N D r v (addE M (d.evs.take m))) ∧ Hid (Below N w4 wr2))
      case atStart => exact ⟨0, v1, Nat.zero_le _, rfl, Lib.hid rfl, HD4, Lib.hid (Below.refl _ _)⟩
      case round =>
        obtain ⟨m, v2, hm, rfl, HGM, HD5, HB5⟩ := hrel
        by_cases hml : m < d.evs.length
        · obtain ⟨x, hx⟩ : ∃ x, d.evs[m]? = some x := ⟨_, List.getElem?_eq_getElem hml⟩
          have hz5 := HB5.out.size
          obtain ⟨b2, o2, rfl, hb2, u0, u1, hokx, hl3, hl4⟩ := (HGR.out.below HB5.out).at hx
          obtain ⟨w6, hw6⟩ : ∃ w6, wr.alloc (.cells #[.int .i64 x.p, .slice x.A x.args.length x.c] 42) = w6 := ⟨_, rfl⟩
          have s6 : w6.heap.size = wr.heap.size + 1 := by rw [← hw6, World.size_alloc]
          have hb6 : Below wr.heap.size wr w6 := by rw [← hw6]; exact (Below.refl _ _).alloc (Nat.le_refl _) _
          have hh6 : Held w6 wr.heap.size 42 #[.int .i64 x.p, .slice x.A x.args.length x.c] := by rw [← hw6]; exact heap_alloc_new wr _
          have z1 := hh6.cell 1
          simp at z1
          have hlm := (addE_ok (d.evs.take m) M).high
          have hna := nA_at d.evs m x hx
          have hp := pargs_any (HD5.out.below hb6) x.A x.c x.args (hokx.1.below (hb6.mono (by omega))) (by have := HLE.out; have := HNK.out; omega) (by omega)
          rw [← addE_succ (L := M) hx] at hp
          obtain ⟨xA, hxA⟩ : ∃ xA, x.A = xA := ⟨_, rfl⟩
          rw [hxA] at hp z1 u1 hw6
          have HP := Lib.hid hp
          have HB6 := Lib.hid (HB5.out.trans (hb6.mono (by omega)))
          clear hp hokx hx hh6 hb6 hxA hlm hna
          obtain ⟨wy, hwy⟩ : ∃ wy, wy = wr := ⟨_, rfl⟩
          subst hwy
          go_wp2_with fail
          refine HP.out.mono ?_
          rintro e w7 ⟨rfl, ⟨v3, hd7⟩, hb7⟩
          have HD7 := Lib.hid hd7
          have HB7 := Lib.hid (HB6.out.trans hb7)
          clear hd7 hb7
          go_wp2_with fail
          go_roundg (d.evs.length - (m + 1))
          case measure => have := HGM.out; omega
          case rel => exact ⟨m + 1, v3, by omega, by go_num, Lib.hid rfl, HD7, HB7⟩
        · obtain rfl : m = d.evs.length := by omega
          have HD6 := HD5
          rw [List.take_length, ← HS.out] at HD6
          go_wp2_with fail
          go_roundg (ps.length - (k + 1))
          case measure => have := HGK.out; omega
          case rel => exact ⟨k + 1, v2, by omega, by go_num, Lib.hid rfl, HD6, Lib.hid (HB4.out.trans HB5.out)⟩
    · obtain rfl : k = ps.length := by omega
      have HD' := HD
      rw [List.take_length] at HD'
      go_wp2_with fail
      go_ret
      exact ⟨D, r, v1, rfl, HD'.out, HB.out⟩
#print axioms dof_any

theorem str_97 : strOfNums [97] = ⟨#[97]⟩ := by decide +kernel
theorem str_98 : strOfNums [98] = ⟨#[98]⟩ := by decide +kernel
set_option maxRecDepth 100000 in
set_option maxHeartbeats 1000000 in
theorem fix13_any (w : World) : Calls Try.prog 15 #[] w fun e w' => e = .returned (.bool true) ∧ Below w.heap.size w w' := by
  obtain ⟨N, hN⟩ : ∃ N, w.heap.size = N := ⟨_, rfl⟩
  have HW := Lib.hid (dnew_any w)
  rw [hN] at HW ⊢
  have ba : TxB [97] := by simp [TxB]
  have bb : TxB [98] := by simp [TxB]
  have e1 : putD ([] : List (List Int)) [97] = ([[97]], 0) := by decide
  have e2 : putD ([[97]] : List (List Int)) [98] = ([[97], [98]], 1) := by decide
  have e3 : putD ([[97], [98]] : List (List Int)) [97] = ([[97], [98]], 0) := by decide
  go_enter Try.func15, Try.ntmps15
  go_wp2_with fail
  refine HW.out.mono ?_
  rintro e w1 ⟨D, r, v, rfl, hd, _, hb1⟩
  have hz1 := hb1.size
  have hp1 := dput_any hd [97] ba (by decide) (by decide) (by omega)
  rw [e1, str_97] at hp1
  dsimp only at hp1
  have HP1 := Lib.hid hp1
  have HB1 := Lib.hid hb1
  have HD1 := Lib.hid hd
  clear hp1 hb1 hd
  go_wp2_with fail
  refine HP1.out.mono ?_
  rintro e w2 ⟨rfl, v2, hd2, hbt2, _⟩
  have hb2 := hbt2.below (by omega) HD1.out
  have hz2 := hb2.size
  have hp2 := dput_any hd2 [98] bb (by decide) (by decide) (by omega)
  rw [e2, str_98] at hp2
  dsimp only at hp2
  have HP2 := Lib.hid hp2
  have HB2 := Lib.hid (HB1.out.trans hb2)
  have HD2 := Lib.hid hd2
  clear hp2 hb2 hd2 hbt2
  go_wp2_with fail
  refine HP2.out.mono ?_
  rintro e w3 ⟨rfl, v3, hd3, hbt3, _⟩
  have hb3 := hbt3.below (by omega) HD2.out
  have hz3 := hb3.size
  have hp3 := dput_any hd3 [97] ba (by decide) (by decide) (by omega)
  rw [e3, str_97] at hp3
  dsimp only at hp3
  have HP3 := Lib.hid hp3
  have HB3 := Lib.hid (HB2.out.trans hb3)
  have HD3 := Lib.hid hd3
  clear hp3 hb3 hd3 hbt3
  go_wp2_with fail
  refine HP3.out.mono ?_
  rintro e w4 ⟨rfl, v4, hd4, hbt4, _⟩
  have hb4 := hbt4.below (by omega) HD3.out
  have HB4 := Lib.hid (HB3.out.trans hb4)
  clear hd4 hbt4 hb4
  go_wp2_with fail
  go_ret
  exact ⟨rfl, HB4.out⟩
#print axioms fix13_any
end Go.Proofs.Ytlmedebhkkiagaa
