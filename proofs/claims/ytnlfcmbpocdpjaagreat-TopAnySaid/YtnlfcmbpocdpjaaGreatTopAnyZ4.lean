/-
  What the theorem of TopAny rests on, part 4 of 16.
-/
import Derived.WalkKit
import Derived.LoopTactic
import Derived.Lib.Strings
import Derived.Deep.LoopGhost
import Derived.Deep.QuietTactic
import Derived.BigQuiet
import Derived.Test.YtnlfcmbpocdpjaaGreatRows
import Derived.RangeFuncNested
import Derived.RangeFuncBox
import Derived.RangeFuncLeaves
import Derived.Shelf.Abstract
import Derived.WalkSpells
import Derived.OwnWalkIn
import Derived.TacticsInMore
import Derived.LoopNIn
import Derived.LoopIn
import Derived.Maps.AppendAt
import Derived.Lib.Hide
import Derived.Outline
import Derived.Deep.RegionHeld3
import Derived.Test.YtnlfcmbpocdpjaaGreatTopAnyZ3
set_option maxRecDepth 100000
set_option maxHeartbeats 16000000
namespace Go.Proofs.YtnlfcmbpocdpjaaGreat
open Lib (hid)
open Go.RowKit Go.ChangeShapes Go.WideShapes
theorem Tryz.infoTxt : (Tryz.prog.info? 9).map (fun i => (i.zero, i.size, i.bytes)) = some (some (.string ⟨#[]⟩), 1, 16) := by kernel_rfl
theorem dnew_any (w : World) : Calls Tryz.prog 191 #[] w fun e w' => ∃ D r v, e = .returned (.pointer (some ⟨D, 0, none⟩)) ∧ DictAt w' w.heap.size D r v [] ∧ v.ownBlock = none ∧ Below w.heap.size w w' := by
 have hmm := @run_makeMap Tryz.prog
 obtain ⟨r, hr⟩ : ∃ r, w.heap.size = r := ⟨_, rfl⟩
 have hm0 : MapK strV (w.alloc (.map #[] 0)) r ([] : List (List Int)) := by rw [← hr]; exact MapK.new strV w
 have hb0 : Below r w (w.alloc (.map #[] 0)) := (Below.refl _ _).alloc (by omega) _
 have s0 : (w.alloc (.map #[] 0)).heap.size = r + 1 := by rw [World.size_alloc, hr]
 rw [hr]
 go_enter Tryz.func191, Tryz.ntmps191
 go_wp2_with fail
 go_ret
 have hb1 := (Below.refl (r + 1) (w.alloc (.map #[] 0))).alloc (by omega) (.cells #[.slice none 0 0, .map (some r)] 287)
 refine ⟨_, r, .slice none 0 0, rfl, ⟨?_, own_nil _ _ _, hm0.below hb1 (by omega), ?_, Nat.le_refl _, fun t h => by simp at h⟩, rfl, ?_⟩
 ·rw [← s0]
  exact heap_alloc_new _ _
 ·omega
 ·exact hb0.trans (hb1.mono (by omega))
section
variable {w : World} {base D r : Nat} {v : Value} {L : List (List Int)}
theorem dfind_any (h : DictAt w base D r v L) (s : List Int) (hs : TxB s) :
  Calls Tryz.prog 196 #[.pointer (some ⟨D, 0, none⟩), .string (strOfNums s)] w fun e w' => e = .returned (.tuple #[.int .i64 (if placeD L s < 0 then 0 else placeD L s), .bool (decide (0 ≤ placeD L s))]) ∧ w = w' := by
 have x1 := h.held.cell 1
 simp at x1
 have hlk := h.map.look text_way h.tx.b hs (t := 285) Tryz.underlying285 (zero_int13 w)
 unfold strV at hlk
 obtain ⟨n, hn⟩ : ∃ n, (if placeD L s < 0 then 0 else placeD L s) = n := ⟨_, rfl⟩
 obtain ⟨b, hb⟩ : ∃ b, decide (0 ≤ placeD L s) = b := ⟨_, rfl⟩
 rw [hn, hb] at hlk ⊢
 clear h hn hb
 go_enter Tryz.func196, Tryz.ntmps196
 go_wp2_with fail
 exact bodyPost_ret (v := .tuple #[.int .i64 n, .bool b]) (by simp [results, Tryz.results196, go_sem]) rfl ⟨rfl, rfl⟩
theorem dall_any (h : DictAt w base D r v L) (hn : L.length ≤ 1000000000) :
  Calls Tryz.prog 170 #[.pointer (some ⟨D, 0, none⟩)] w fun e w' => ∃ A c, e = .returned (.slice A L.length c) ∧ w'.ownsRow w.heap.size 9 1 (.slice A L.length c) L.length (strVs L) ∧ Below w.heap.size w w' := by
 obtain ⟨i0, hi, hz0, hz1, hz2⟩ := info_parts Tryz.infoTxt
 have x0 := h.held.cell 0
 simp at x0
 have HER := hid (ERow.of_own h.own)
 have hl : (strVs L).length = L.length * 1 := by rw [strVs_length, Nat.mul_one]
 have HON := hid (strVs_one L)
 clear h
 obtain ⟨n, hn'⟩ : ∃ n, L.length = n := ⟨_, rfl⟩
 rw [hn'] at HER hl hn ⊢
 clear hn'
 go_enter Tryz.func170, Tryz.ntmps170
 go_wp2_with (at_builtin; refine wpList_append_erow _ rfl _ _ 62 9 rfl w.heap.size i0 (.string ⟨#[]⟩) 1 16 Tryz.underlying62 hi hz0 hz1 hz2 rfl (by decide) (.slice none 0 0) 0 [] rfl (own_nil _ _ _) w.heap.size v n (strVs L) (by rfl) HER.out hl HON.out (by simp only [maxLen]; omega) (by omega) (Nat.le_refl _) n (Nat.zero_add n) (strVs L) rfl ?_; intro A c w2 hown2 hg2 _)
 go_ret
 refine ⟨A, c, rfl, hown2, (Below.refl _ _).grown hg2 (Nat.le_refl _) (fun k hk => ?_)⟩
 simp [Value.ownBlock] at hk
end
section
variable {w w' : World} {base D r : Nat} {v v' : Value} {L L' : List (List Int)}
def PutLeft (w : World) (base D r : Nat) (v : Value) (L' : List (List Int)) (w' : World) : Prop :=
 ∃ v', DictAt w' base D r v' L' ∧ DBut w w' D r v.ownBlock ∧ (v'.ownBlock = v.ownBlock ∨ ∀ j, v'.ownBlock = some j → w.heap.size ≤ j)
theorem dput_any (h : DictAt w base D r v L) (s : List Int) (hs : TxB s) (hsl : s.length ≤ maxLen) (hn : L.length ≤ 1000000000) (hbs : base ≤ w.heap.size) :
  Calls Tryz.prog 210 #[.pointer (some ⟨D, 0, none⟩), .string (strOfNums s)] w fun e w' => e = .returned (.int .i64 (putD L s).2) ∧ PutLeft w base D r v (putD L s).1 w' := by
 have HF := hid (dfind_any h s hs)
 rcases placeD_ways L s with ⟨hp, hno⟩ | ⟨j, hj0, hp, _, _⟩
 ·rw [putD_new hp]
  rw [hp] at HF
  simp only [show ((-1 : Int) < 0) from by decide, if_true, show decide ((0 : Int) ≤ -1) = false from rfl] at HF
  obtain ⟨i0, hi, hz0, hz1, hz2⟩ := info_parts Tryz.infoTxt
  obtain ⟨q1, q2, q3⟩ := h.ne
  obtain ⟨A, c, hv, hc1, hc2⟩ := h.form
  obtain ⟨x0, x1⟩ := cC2 h.held
  simp at x0 x1
  obtain ⟨o, hup, hmk⟩ := h.map.add text_way h.tx.b hs (t := 285) Tryz.underlying285 (by rw [hp]; decide)
  unfold strV at hup
  have hrl := h.map.lt
  have htx : TxOk (L ++ [s]) := fun t ht => by
   rcases List.mem_append.1 ht with h1 | h1
   ·exact h.tx t h1
   ·rw [List.mem_singleton.1 h1]; exact ⟨hsl, hs⟩
  have hg1 : w.grownBy (w.putObj r o) (some r) := grownBy_putObj' w r o
  obtain ⟨w1, hw1⟩ : ∃ w1, w.putObj r o = w1 := ⟨_, rfl⟩
  rw [hw1] at hup hmk hg1
  have hs1 : w.heap.size ≤ w1.heap.size := hg1.size
  have hh1 : Held w1 D 287 #[v, .map (some r)] := h.held.grown hg1 (fun e => q1 (by injection e))
  have hown1 : w1.ownsRow base 9 1 v L.length (strVs L) := h.own.kept hg1 (.inr (fun e => q3 e.symm))
  have y0 := hh1.cell 0
  simp at y0
  obtain ⟨w2, hw2⟩ : ∃ w2, w1.alloc (.cells #[.string (strOfNums s)] 9) = w2 := ⟨_, rfl⟩
  have hb2 : Below w1.heap.size w1 w2 := by rw [← hw2]; exact (Below.refl _ _).alloc (Nat.le_refl _) _
  have hown2 : w2.ownsRow base 9 1 v L.length (strVs L) := own_below hown1 hb2
  have hh2 : Held w2 D 287 #[v, .map (some r)] := hh1.below hb2 hh1.lt
  have hm2 : MapK strV w2 r (L ++ [s]) := hmk.below hb2 hmk.lt
  have hce2 : w2.cell? ⟨w1.heap.size, 0, none⟩ = some (.string (strOfNums s)) := by rw [← hw2]; exact cell_one_new w1 _ _ 0 _ rfl
  have hs2 := hb2.size
  have HP := hid (show ∀ v2 w3, w3.ownsRow base 9 1 v2 (L.length + 1) (strVs L ++ [.string (strOfNums s)]) → w2.grownBy w3 v.ownBlock → (v2.ownBlock = v.ownBlock ∨ v2.ownBlock = some w2.heap.size) → Held w3 D 287 #[v, .map (some r)] ∧ PutLeft w base D r v (L ++ [s]) (w3.setCell ⟨D, 0, none⟩ v2) from fun v2 w3 hown3 hg3 hat => by
   have hh3 : Held w3 D 287 #[v, .map (some r)] := hh2.grown hg3 q2
   have hm3 : MapK strV w3 r (L ++ [s]) := hm2.keep (hg3.block r hm2.lt q3)
   obtain ⟨es, cl, hme, _⟩ := id hm3
   have hDr : some D ≠ v2.ownBlock := own_not_held hown3 hh3 (by decide)
   have hs3 := hg3.size
   refine ⟨hh3, v2, ⟨?_, ?_, hm3.keep (Below.heap_setCell w3 ⟨D, 0, none⟩ v2 r (fun e => q1 e.symm)), h.hD, h.hr, htx⟩, ⟨?_, ?_, ?_, ?_, fun k h1 h2 h3 h4 => ?_⟩, ?_⟩
   ·have := hh3.put 0 v2
    simpa using this
   ·have h4 : (w3.setCell ⟨D, 0, none⟩ v2).ownsRow base 9 1 v2 (L.length + 1) (strVs L ++ [.string (strOfNums s)]) := hown3.kept (grown_put w3 D 0 v2) (.inr (fun e => hDr e.symm))
    rw [List.length_append, strVs_snoc]
    exact h4
   ·show w3.os = w.os
    rw [hg3.os, hb2.os, hg1.os]
   ·show w3.tape = w.tape
    rw [hg3.tape, hb2.tape, hg1.tape]
   ·show w3.output = w.output
    rw [hg3.output, hb2.output, hg1.output]
   ·have : (w3.setCell ⟨D, 0, none⟩ v2).heap.size = w3.heap.size := by simp [World.setCell]
    omega
   ·rw [Below.heap_setCell w3 ⟨D, 0, none⟩ v2 k (fun e => h2 e), hg3.block k (by omega) h4, hb2.block k (by omega), hg1.block k h1 (fun e => h3 (by injection e))]
   ·rcases hat with e | e
    ·exact .inl e
    ·refine .inr fun j hj => ?_
     rw [e] at hj
     injection hj with hj
     omega)
  have HOW := hid hown2
  have HER := hid (show ERow w2 (w1.heap.size + 1) (.slice (some ⟨w1.heap.size, 0, none⟩) 1 1) 1 [.string (strOfNums s)] from ⟨_, _, rfl, Nat.le_refl _, by unfold maxLen; omega, by simp, fun _ => ⟨w1.heap.size, 0, rfl, Nat.lt_succ_self _, fun i u hi => by
   match i with
   | 0 => simp at hi; rw [← hi]; exact hce2
   | i + 1 => simp at hi⟩⟩)
  subst hv
  obtain ⟨n, hn'⟩ : ∃ n, L.length = n := ⟨_, rfl⟩
  rw [hn'] at hup HOW x0 y0 HP hc1 hn ⊢
  clear h hmk htx hg1 hw1 hh1 hown1 hb2 hown2 hh2 hm2 hce2 hs hno hp q1 q2 q3
  have hn3 : strVs L = strVs L := rfl
  go_enter Tryz.func210, Tryz.ntmps210
  go_wp2_with fail
  refine HF.out.mono ?_
  rintro e wz ⟨rfl, rfl⟩
  go_wp2_with (at_builtin; refine wpList_append_erow _ rfl _ _ 62 9 rfl base i0 (.string ⟨#[]⟩) 1 16 Tryz.underlying62 hi hz0 hz1 hz2 rfl (by decide) (.slice A n c) n (strVs L) (by rfl) HOW.out (w1.heap.size + 1) _ 1 [.string (strOfNums s)] (by rfl) HER.out rfl (by simp [Value.oneCell']) (by simp only [maxLen]; omega) (by omega) (by omega) (n + 1) rfl _ rfl ?_; intro A3 c3 w3 hown3 hg3 hat3; obtain ⟨hh3, hpl⟩ := HP.out _ _ hown3 hg3 hat3; have z0 := hh3.cell 0; have z1 := hh3.frozen 0; have zl := hh3.lt; simp at z0; have HPL := hid hpl; clear hpl hown3 hg3 hat3 hh3)
  go_ret
  exact ⟨rfl, HPL.out⟩
 ·rw [putD_old hp]
  rw [hp] at HF
  simp only [show ¬ ((j : Int) < 0) from by omega, if_false, show decide ((0 : Int) ≤ (j : Int)) = true from decide_eq_true (by omega)] at HF
  have HL := hid (show PutLeft w base D r v L w from ⟨v, h, DBut.refl _ _ _ _, .inl rfl⟩)
  clear h hp
  go_enter Tryz.func210, Tryz.ntmps210
  go_wp2_with fail
  refine HF.out.mono ?_
  rintro e w1 ⟨rfl, rfl⟩
  go_wp2_with fail
  go_ret
  exact ⟨rfl, HL.out⟩
end
theorem addA_le {L : List (List Int)} {l : List Ag} (k : Nat) : (addA L (l.take k)).length ≤ L.length + l.length := by
 have := (addA_ok (l.take k) L).high
 have h2 : (l.take k).length ≤ l.length := by rw [List.length_take]; omega
 omega
theorem pargs_any {w : World} {base D r : Nat} {v : Value} {L : List (List Int)} (h : DictAt w base D r v L) (A : Option Addr) (c : Nat) (l : List Ag) (hg : GRow w base (.slice A l.length c) l) (hn : L.length + l.length ≤ 1000000000) (hbs : base ≤ w.heap.size) :
  Calls Tryz.prog 192 #[.pointer (some ⟨D, 0, none⟩), .slice A l.length c] w fun e w' => e = .returned (.tuple #[]) ∧ (∃ v', DictAt w' base D r v' (addA L l)) ∧ Below base w w' := by
 obtain ⟨-, hc1, hc2⟩ := hg.1.len
 have HG := hid hg
 have H0 := hid h
 clear hg h
 go_enter Tryz.func192, Tryz.ntmps192
 go_wp2_with fail
 go_loopg [8] l.length (fun gk i wr => ∃ (k : Nat) (v : Value), k ≤ l.length ∧ i = .int .i64 k ∧ Hid (l.length - k = gk) ∧ Hid (DictAt wr base D r v (addA L (l.take k))) ∧ Hid (Below base w wr))
 case atStart => exact ⟨0, v, Nat.zero_le _, rfl, hid rfl, H0, hid (Below.refl _ _)⟩
 case round =>
  obtain ⟨k, v1, hk, rfl, HGK, HD, HB⟩ := hrel
  by_cases hlt : k < l.length
  ·obtain ⟨a, ha⟩ : ∃ a, l[k]? = some a := ⟨_, List.getElem?_eq_getElem hlt⟩
   have hz := HB.out.size
   obtain ⟨b, o, rfl, hb, x0, x1, x2, hfit⟩ := (HG.out.below HB.out).at ha
   obtain ⟨w4, hw4⟩ : ∃ w4, wr.alloc (.cells #[.int .i64 a.t, .int .i64 a.n, .string (strOfNums a.s)] 135) = w4 := ⟨_, rfl⟩
   have s4 : w4.heap.size = wr.heap.size + 1 := by rw [← hw4, World.size_alloc]
   have hb4 : Below wr.heap.size wr w4 := by rw [← hw4]; exact (Below.refl _ _).alloc (Nat.le_refl _) _
   have hh4 : Held w4 wr.heap.size 135 #[.int .i64 a.t, .int .i64 a.n, .string (strOfNums a.s)] := by rw [← hw4]; exact heap_alloc_new wr _
   have y0 := hh4.cell 0
   have y2 := hh4.cell 2
   simp at y0 y2
   have hd4 := HD.out.below hb4
   have HB4 := hid (HB.out.trans (hb4.mono (by omega)))
   have HS := hid (addA_succ (L := L) ha)
   by_cases ht : a.t = 2
   ·have hst : stepA (addA L (l.take k)) a = (putD (addA L (l.take k)) a.s).1 := if_pos ht
    rw [hst] at HS
    have hp := dput_any hd4 a.s hfit.2.1 hfit.1 (by have := addA_le (L := L) (l := l) k; omega) (by omega)
    rw [← HS.out] at hp
    have HP := hid hp
    have HD4 := hid hd4
    obtain ⟨at', hat⟩ : ∃ t, a.t = t := ⟨_, rfl⟩
    rw [hat] at x0 hw4 y0 ht
    clear hp hd4 hst ha hfit hb4 hh4 hat
    subst ht
    go_wp2_with fail
    refine HP.out.mono ?_
    rintro e w5 ⟨rfl, v2, hd5, hbt, _⟩
    have HB5 := hid (HB4.out.trans (hbt.below (by omega) HD4.out))
    have HD5 := hid hd5
    clear hd5 hbt
    go_wp2_with fail
    go_roundg (l.length - (k + 1))
    case measure => have := HGK.out; omega
    case rel => exact ⟨k + 1, v2, by omega, by go_num, hid rfl, HD5, HB5⟩
   ·have hst : stepA (addA L (l.take k)) a = addA L (l.take k) := if_neg ht
    rw [hst] at HS
    have HD4 := hid hd4
    rw [← HS.out] at HD4
    have hne : (a.t == 2) = false := beq_eq_false_iff_ne.2 ht
    clear hd4 hst ha hfit hb4 hh4 ht
    go_wp2_with fail
    go_roundg (l.length - (k + 1))
    case measure => have := HGK.out; omega
    case rel => exact ⟨k + 1, v1, by omega, by go_num, hid rfl, HD4, HB4⟩
  ·obtain rfl : k = l.length := by omega
   have HD' := HD
   rw [List.take_length] at HD'
   go_wp2_with fail
   go_end0
   exact ⟨rfl, ⟨v1, HD'.out⟩, HB.out⟩
theorem dof_any (A : Option Addr) (c : Nat) (ps : List Pm) (w : World) (hrow : TrRow w w.heap.size (.slice A ps.length c) ps) (hn : nT ps ≤ 1000000000) :
  Calls Tryz.prog 166 #[.slice A ps.length c] w fun e w' => ∃ D r v, e = .returned (.pointer (some ⟨D, 0, none⟩)) ∧ DictAt w' w.heap.size D r v (addT [] ps) ∧ Below w.heap.size w w' := by
 obtain ⟨-, hc1, hc2⟩ := hrow.1.len
 obtain ⟨N, hN⟩ : ∃ N, w.heap.size = N := ⟨_, rfl⟩
 have HW := hid (dnew_any w)
 rw [hN] at HW hrow ⊢
 have HTR := hid hrow
 clear hrow
 go_enter Tryz.func166, Tryz.ntmps166
 go_wp2_with fail
 refine HW.out.mono ?_
 rintro e w1 ⟨D, r, v, rfl, hd, _, hb⟩
 have HD1 := hid hd
 have HB1 := hid hb
 clear hd hb HW
 go_wp2_with fail
 go_loopg [11] ps.length (fun gk i wr => ∃ (k : Nat) (v : Value), k ≤ ps.length ∧ i = .int .i64 k ∧ Hid (ps.length - k = gk) ∧ Hid (DictAt wr N D r v (addT [] (ps.take k))) ∧ Hid (Below N w wr))
 case atStart => exact ⟨0, v, Nat.zero_le _, rfl, hid rfl, HD1, HB1⟩
 case round =>
  obtain ⟨k, v1, hk, rfl, HGK, HD, HB⟩ := hrel
  by_cases hlt : k < ps.length
  ·obtain ⟨d, hd⟩ : ∃ d, ps[k]? = some d := ⟨_, List.getElem?_eq_getElem hlt⟩
   have hz := HB.out.size
   obtain ⟨b, o, rfl, hb, x0, x1, hok, hl1, hl2⟩ := (HTR.out.below HB.out).at hd
   obtain ⟨w4, hw4⟩ : ∃ w4, wr.alloc (.cells #[.int .u64 d.tm, .slice d.A d.evs.length d.c] 55) = w4 := ⟨_, rfl⟩
   have s4 : w4.heap.size = wr.heap.size + 1 := by rw [← hw4, World.size_alloc]
   have hb4 : Below wr.heap.size wr w4 := by rw [← hw4]; exact (Below.refl _ _).alloc (Nat.le_refl _) _
   have hh4 : Held w4 wr.heap.size 55 #[.int .u64 d.tm, .slice d.A d.evs.length d.c] := by rw [← hw4]; exact heap_alloc_new wr _
   have y1 := hh4.cell 1
   simp at y1
   have HD4 := hid (HD.out.below hb4)
   have hbx := HB.out.trans (hb4.mono (by omega))
   have HB4 := hid hbx
   have HS := hid (addT_succ (L := []) hd)
   have hnk := nT_at ps k d hd
   have hlen := (addT_ok (ps.take k) []).high
   simp only [List.length_nil, Nat.zero_add] at hlen
   obtain ⟨dA, hdA⟩ : ∃ dA, d.A = dA := ⟨_, rfl⟩
   have hgr := hok.1.below (hb4.mono (by omega))
   rw [hdA] at hgr y1 x1 hw4
   have HGR := hid hgr
   obtain ⟨M, hM⟩ : ∃ M, addT [] (ps.take k) = M := ⟨_, rfl⟩
   rw [hM] at hlen HS HD4
   have HLE := hid hlen
   have HNK := hid hnk
   clear hok hd hh4 hgr hdA hb4 hbx hM hlen hnk
   obtain ⟨wx, hwx⟩ : ∃ wx, wx = wr := ⟨_, rfl⟩
   subst hwx
   go_wp2_with fail
   clear hw4 x0 x1 y1
   go_loopg [18] d.evs.length (fun gm i wr2 => ∃ (m : Nat) (v : Value), m ≤ d.evs.length ∧ i = .int .i64 m ∧ Hid (d.evs.length - m = gm) ∧ Hid (DictAt wr2 N D r v (addE M (d.evs.take m))) ∧ Hid (Below N w4 wr2))
   case atStart => exact ⟨0, v1, Nat.zero_le _, rfl, hid rfl, HD4, hid (Below.refl _ _)⟩
   case round =>
    obtain ⟨m, v2, hm, rfl, HGM, HD5, HB5⟩ := hrel
    by_cases hml : m < d.evs.length
    ·obtain ⟨x, hx⟩ : ∃ x, d.evs[m]? = some x := ⟨_, List.getElem?_eq_getElem hml⟩
     have hz5 := HB5.out.size
     obtain ⟨b2, o2, rfl, hb2, u0, u1, hokx, hl3, hl4⟩ := (HGR.out.below HB5.out).at hx
     obtain ⟨w6, hw6⟩ : ∃ w6, wr.alloc (.cells #[.int .i64 x.p, .slice x.A x.args.length x.c] 91) = w6 := ⟨_, rfl⟩
     have s6 : w6.heap.size = wr.heap.size + 1 := by rw [← hw6, World.size_alloc]
     have hb6 : Below wr.heap.size wr w6 := by rw [← hw6]; exact (Below.refl _ _).alloc (Nat.le_refl _) _
     have hh6 : Held w6 wr.heap.size 91 #[.int .i64 x.p, .slice x.A x.args.length x.c] := by rw [← hw6]; exact heap_alloc_new wr _
     have z1 := hh6.cell 1
     simp at z1
     have hlm := (addE_ok (d.evs.take m) M).high
     have hna := nA_at d.evs m x hx
     have hp := pargs_any (HD5.out.below hb6) x.A x.c x.args (hokx.1.below (hb6.mono (by omega))) (by have := HLE.out; have := HNK.out; omega) (by omega)
     rw [← addE_succ (L := M) hx] at hp
     obtain ⟨xA, hxA⟩ : ∃ xA, x.A = xA := ⟨_, rfl⟩
     rw [hxA] at hp z1 u1 hw6
     have HP := hid hp
     have HB6 := hid (HB5.out.trans (hb6.mono (by omega)))
     clear hp hokx hx hh6 hb6 hxA hlm hna
     obtain ⟨wy, hwy⟩ : ∃ wy, wy = wr := ⟨_, rfl⟩
     subst hwy
     go_wp2_with fail
     refine HP.out.mono ?_
     rintro e w7 ⟨rfl, ⟨v3, hd7⟩, hb7⟩
     have HD7 := hid hd7
     have HB7 := hid (HB6.out.trans hb7)
     clear hd7 hb7
     go_wp2_with fail
     go_roundg (d.evs.length - (m + 1))
     case measure => have := HGM.out; omega
     case rel => exact ⟨m + 1, v3, by omega, by go_num, hid rfl, HD7, HB7⟩
    ·obtain rfl : m = d.evs.length := by omega
     have HD6 := HD5
     rw [List.take_length, ← HS.out] at HD6
     go_wp2_with fail
     go_roundg (ps.length - (k + 1))
     case measure => have := HGK.out; omega
     case rel => exact ⟨k + 1, v2, by omega, by go_num, hid rfl, HD6, hid (HB4.out.trans HB5.out)⟩
  ·obtain rfl : k = ps.length := by omega
   have HD' := HD
   rw [List.take_length] at HD'
   go_wp2_with fail
   go_ret
   exact ⟨D, r, v1, rfl, HD'.out, HB.out⟩
section
open Go.RowKit Go.Shelf
attribute [local go_sem] Oper.semAt_some
theorem written1_in (F : Fence) (m : Nat) (hf : F.fn 190) (hro : F.round = none) (hn : 1 ≤ m) (l Bn n₀ : Nat) (n : Nat) (hn64 : n < 18446744073709551616) (J Jx : List Int → World → Prop)
  (hY : ∀ pre x W, J pre W → pre.length < (encI n).length → YieldAt F (m - 1) Tryz.prog l #[.int .u8 x] W fun e W' =>
   (e = .returned (.bool true) ∧ J (pre ++ [x]) W' ∧ Below n₀ W W') ∨ (e = .returned (.bool false) ∧ Jx (pre ++ [x]) W'))
  (W : World) (hBn : W.cell? ⟨Bn, 0, none⟩ = some (.int .u64 n)) (h0 : J [] W) :
  CallsIn F m Tryz.prog 190 #[.func (.yield l) #[] #[], .pointer (some ⟨Bn, 0, none⟩)] W fun e W' => (∃ v, e = .returned v) ∧
   ((∃ ys, ys = encI n ∧ J ys W') ∨ (∃ pre, pre <+: encI n ∧ Jx pre W')) := by
 refine callsIn_of_wp Tryz.func190 rfl hf ?_ hro
 simp only [Tryz.ntmps190, List.size_toArray, List.length_cons, List.length_nil, Nat.reduceAdd, Nat.reduceSub, Array.replicate_succ, Array.replicate_zero, List.push_toArray, List.append_toArray, List.nil_append, List.cons_append]
 gi_wp2
 gi_loopw [3] (fun p wr => ∃ (pre : List Int) (r : Nat), r < 18446744073709551616 ∧ p = .int .u64 r ∧ encI n = pre ++ encI r ∧ J pre wr)
  (fun p _ => (intOf p).toNat)
 case atStart =>
  exact ⟨[], n, hn64, rfl, rfl, h0⟩
 case round =>
  obtain ⟨pre, r, hr, rfl, hx, hJs⟩ := hrel
  have HX := hid hx
  clear hx
  by_cases hlt : r < 128
  ·have hge : ¬ (128 : Int) ≤ (r : Int) := by omega
   obtain ⟨fn, tmps, assign, body, hy, hR⟩ := hY pre (r : Int) wr hJs (by rw [HX.out, encI_small hlt]; simp)
   gi_wp2
   refine hR.mono ?_
   rintro e W3 (⟨rfl, hJ3, hk3⟩ | ⟨rfl, hJx3⟩)
   ·gi_wp2
    go_end0
    exact ⟨⟨_, rfl⟩, .inl ⟨_, by rw [HX.out, encI_small hlt], hJ3⟩⟩
   ·gi_wp2
    go_end0
    exact ⟨⟨_, rfl⟩, .inr ⟨_, by rw [HX.out, encI_small hlt]; exact List.prefix_refl _, hJx3⟩⟩
  ·have hge : (128 : Int) ≤ (r : Int) := by omega
   obtain ⟨fn, tmps, assign, body, hy, hR⟩ := hY pre ((r : Int) % 128 + 128) wr hJs (by rw [HX.out, encI_great hlt]; simp)
   gi_wp2
   refine hR.mono ?_
   rintro e W3 (⟨rfl, hJ3, hk3⟩ | ⟨rfl, hJx3⟩)
   ·gi_wp2
    exact ⟨⟨pre ++ [(r : Int) % 128 + 128], r / 128, by omega, by simp, by rw [HX.out, encI_great hlt]; simp, hJ3⟩, by simp [intOf]; omega⟩
   ·gi_wp2
    refine bodyPost_ret (results_none rfl _ _ _) rfl ?_
    exact ⟨⟨_, rfl⟩, .inr ⟨pre ++ [(r : Int) % 128 + 128], ⟨encI (r / 128), by rw [HX.out, encI_great hlt]; simp⟩, hJx3⟩⟩
theorem written_in (F : Fence) (m : Nat) (hf : F.fn 165) (hro : F.round = none) (n : Int) (w : World) :
  CallsIn F m Tryz.prog 165 #[.int .u64 n] w fun e w' => e = .returned (.func (.func 190) #[] #[.pointer (some ⟨w.heap.size, 0, none⟩)]) ∧ w' = w.alloc (.cells #[.int .u64 n] 52) := by
 refine callsIn_of_wp Tryz.func165 rfl hf ?_ hro
 simp only [Tryz.ntmps165, List.size_toArray, List.length_cons, List.length_nil, Nat.reduceAdd, Nat.reduceSub, Array.replicate_succ, Array.replicate_zero, List.push_toArray, List.append_toArray, List.nil_append, List.cons_append]
 gi_wp2
 go_ret
 exact ⟨rfl, rfl⟩
theorem written_stops (F : Fence) (m : Nat) (hf : F.fn 190) (hro : F.round = none) (hm : 1 ≤ m) (Bn n₀ n : Nat) (hn : n < 18446744073709551616) (w : World) (hBn : Bn < w.heap.size)
  (hc : w.cell? ⟨Bn, 0, none⟩ = some (.int .u64 n)) :
  SeqStopsK F m Tryz.prog 190 #[.pointer (some ⟨Bn, 0, none⟩)] (fun x : Int => #[Value.int .u8 x]) (Below n₀) (fun ys => ys = encI n) (fun pre => pre <+: encI n) (encI n).length w := fun l J Jx W hW _ _ hY h0 =>
 written1_in F m hf hro hm l Bn n₀ n hn J Jx hY W ((hW.cell (p := ⟨Bn, 0, none⟩) hBn).trans hc) h0
theorem size_in (F : Fence) (m : Nat) (h1 : F.fn 154) (h2 : F.fn 165) (h3 : F.fn 190) (hro : F.round = none) (hm : 3 ≤ m) (n : Nat) (hn : n < 18446744073709551616) (w : World) :
  CallsIn F m Tryz.prog 154 #[.int .u64 n] w fun e W' => e = .returned (.int .i64 (encI n).length) ∧ Below w.heap.size w W' := by
 have hm1 : 1 ≤ m := by omega
 have hlen := (encI_ten hn).2
 refine callsIn_of_wp_marks Tryz.func154 rfl h1 ?_ hro
 simp only [Tryz.ntmps154, List.size_toArray, List.length_cons, List.length_nil, Nat.reduceAdd, Nat.reduceSub, Array.replicate_succ, Array.replicate_zero, List.push_toArray, List.append_toArray, List.nil_append, List.cons_append]
 gi_wp2_with (gi_at_call 165; refine (written_in F (m - 1) h2 hro _ _).mono ?_; rintro e w' ⟨rfl, rfl⟩)
 have bO := Boxed.new w 3 (.int .i64 0)
 have bN := Boxed.new (w.alloc (.cells #[.int .i64 0] 3)) 52 (.int .u64 n)
 rw [World.size_alloc] at bN
 have hB0 : Below w.heap.size w ((w.alloc (.cells #[.int .i64 0] 3)).alloc (.cells #[.int .u64 n] 52)) := ((Below.refl _ w).alloc (Nat.le_refl _) _).alloc (by simp) _
 refine wpIn_rangeFunc_ownG hro hm1 (gf := 190) (lb := #[.pointer (some ⟨w.heap.size + 1, 0, none⟩)]) rfl h3 (enters_of Tryz.func190 (by kernel_rfl) rfl)
  (written_stops F (m - 1) h3 hro (by omega) (w.heap.size + 1) w.heap.size n hn _ (by simp) bN.cell) belowK_t (belowK_b (by simp; omega)) (Below.refl _ _) (fun _ => rfl)
  (fun pre W => Boxed W w.heap.size 3 (.int .i64 pre.length) ∧ Below w.heap.size w W)
  (fun _ _ _ => False)
  (OwnFrom.and (Own.from (boxed_own w.heap.size 3 (fun pre : List Int => .int .i64 pre.length)) _) (ownFrom_below (Nat.le_refl _) (by simp; omega)))
  (fun _ _ _ _ _ hs _ _ => hs)
  ⟨bO.alloc _, hB0⟩
  (fun x => { tmps := #[.int .u64 n, undef, .int .i64 0, .pointer (some ⟨w.heap.size, 0, none⟩), .int .u64 n, .func (.func 190) #[] #[.pointer (some ⟨w.heap.size + 1, 0, none⟩)], .int .u8 x, undef, undef, undef], defers := [] }) ?assign ?body ?done ?stop
 case assign =>
  intro l x W K hK
  gi_wp2
  simpa using hK
 case body =>
  rintro l pre x W ⟨hv, hB⟩ hlt
  have hc := hv.cell
  have hfz := hv.frozen
  gi_wp2
  exact ⟨(KeepsOthers.setCell _ _ _).from _, (Below.refl w.heap.size W).setCell (p := ⟨w.heap.size, 0, none⟩) (Nat.le_refl _) _, by simpa using hv.set _, hB.setCell (p := ⟨w.heap.size, 0, none⟩) (Nat.le_refl _) _⟩
 case done =>
  rintro D ys W hD rfl ⟨hv, hB⟩ hK
  have hc := hv.cell
  gi_wp2
  refine ⟨by simp, .inl ⟨_, _, rfl, run_takeDeferred hK, ?_⟩⟩
  exact ⟨_, results_tmp rfl _ _ _, rfl, hB.trans (belowK_b (w := w) (Nat.le_refl _) W D _ _ (by simp at hD; omega) hK rfl rfl)⟩
 case stop =>
  rintro D c pre W _ _ h _
  exact h.elim
end
section
open Go.RowKit Go.Shelf
attribute [local go_sem] Oper.semAt_some
theorem Tryz.infoU8 : (Tryz.prog.info? 5).map (fun i => (i.zero, i.size, i.bytes)) = some (some (.int .u8 0), 1, 1) := by kernel_rfl
theorem put_in (F : Fence) (m : Nat) (h0 : F.fn 137) (h1 : F.fn 154) (h2 : F.fn 165) (h3 : F.fn 190) (hro : F.round = none) (hm : 5 ≤ m)
  (A : Option Addr) (c : Nat) (xs : List Int) (n : Nat) (hn : n < 18446744073709551616) (hsm : xs.length ≤ 100000000000) (w : World) (hrow : Row w w.heap.size (.slice A xs.length c) xs) :
  CallsIn F m Tryz.prog 137 #[.slice A xs.length c, .int .u64 n] w fun e W' => ∃ v, e = .returned v ∧ W'.ownsRow w.heap.size 5 1 v (xs.length + (encI n).length) ((xs ++ encI n).map (.int .u8)) ∧ Below w.heap.size w W' := by
 have hm1 : 1 ≤ m := by omega
 have hlen := (encI_ten hn).2
 obtain ⟨i0, hi, hz0, hz1, hz2⟩ := info_parts Tryz.infoU8
 refine callsIn_of_wp_marks Tryz.func137 rfl h0 ?_ hro
 simp only [Tryz.ntmps137, List.size_toArray, List.length_cons, List.length_nil, Nat.reduceAdd, Nat.reduceSub, Array.replicate_succ, Array.replicate_zero, List.push_toArray, List.append_toArray, List.nil_append, List.cons_append]
 gi_wp2_with (first
  | (gi_at_call 154; refine (size_in F (m - 1) h1 h2 h3 hro (by omega) n hn _).mono ?_; rintro e w1 ⟨rfl, hb1⟩)
  | (gi_at_make; refine wpListIn_make_own _ rfl _ _ 22 rfl w.heap.size 5 i0 (.int .u8 0) 1 Tryz.underlying22 hi hz0 hz1 .i64 .i64 _ (xs.length + (encI n).length) rfl rfl (by simp) (by rw [hz2]; omega) (by simp only [maxLen]; omega) hb1.size ?_; intro w2 hown2 hg2; have hb2 : Below w.heap.size w w2 := hb1.grown hg2 hb1.size (by simp)
     have bO := Boxed.new w2 22 (.slice (some ⟨w1.heap.size, 0, none⟩) 0 (xs.length + (encI n).length)))
  | (gi_at_builtin; refine wpListIn_append_row _ rfl _ _ 22 rfl w.heap.size 5 i0 (.int .u8 0) Tryz.underlying22 hi hz0 hz1 hz2 rfl _ 0 [] rfl (hown2.alloc _) w.heap.size _ xs rfl (hrow.below (hb2.alloc hb2.size _)) (by omega) (by have := hb2.size; simp; omega) ?_
     intro v3 w3 hown3 hg3 hnil3
     obtain ⟨g3, cap3, hv3⟩ := ownsRow_some hown3 (fun h => absurd (show Value.slice (some ⟨w1.heap.size, 0, none⟩) 0 (xs.length + (encI n).length) = .slice none 0 0 from (hnil3.1 h).1) (by simp))
     subst hv3
     obtain ⟨bw3, bs3, hrow3, hb3⟩ := boxed_grown bO (by decide) (hown2.alloc _) (by have := hb2.size; simp; omega) hb2.size hown3 hg3
     have hc3 := bw3.cell
     have hf3 := bw3.frozen)
  | (gi_at_call 165; refine (written_in F (m - 1) h2 hro _ _).mono ?_; rintro e w' ⟨rfl, rfl⟩))
 simp only [Nat.zero_add, List.nil_append] at bs3 hrow3 hb3
 have hb4 : Below w.heap.size w (w3.setCell ⟨w2.heap.size, 0, none⟩ (.slice (some ⟨g3, 0, none⟩) xs.length cap3)) := (hb2.alloc hb2.size _).trans hb3
 have hsz3 : w2.heap.size + 1 ≤ w3.heap.size := by have := hg3.size; simpa using this
 have hle2 := hb2.size
 have bN := Boxed.new (w3.setCell ⟨w2.heap.size, 0, none⟩ (.slice (some ⟨g3, 0, none⟩) xs.length cap3)) 52 (.int .u64 n)
 have hszc : (w3.setCell ⟨w2.heap.size, 0, none⟩ (.slice (some ⟨g3, 0, none⟩) xs.length cap3)).heap.size = w3.heap.size := by simp
 rw [hszc] at bN
 have hB0 := hb4.alloc (by rw [hszc]; omega) (.cells #[.int .u64 n] 52)
 refine wpIn_rangeFunc_ownG hro hm1 (gf := 190) (lb := #[.pointer (some ⟨w3.heap.size, 0, none⟩)]) rfl h3 (enters_of Tryz.func190 (by kernel_rfl) rfl)
  (written_stops F (m - 1) h3 hro (by omega) w3.heap.size w.heap.size n hn _ (by simp) bN.cell) belowK_t (belowK_b (by simp; omega)) (Below.refl _ _) (fun _ => rfl)
  (fun pre W => (∃ v, Boxed W w2.heap.size 22 v ∧ W.ownsRow w.heap.size 5 1 v (xs.length + pre.length) ((xs ++ pre).map (.int .u8)) ∧ v ≠ .slice none 0 0) ∧ Below w.heap.size w W)
  (fun _ _ _ => False)
  (OwnFrom.and (Own.from (holdsRow_own w.heap.size w2.heap.size 22 5 1 (fun pre : List Int => xs.length + pre.length) (fun pre => (xs ++ pre).map (.int .u8)) (fun _ v => v ≠ .slice none 0 0)) _) (ownFrom_below (Nat.le_refl _) (by simp; omega)))
  (fun _ _ _ _ _ hs _ _ => hs)
  ⟨⟨_, bs3.alloc _, by simpa using hrow3.alloc _, by simp⟩, hB0⟩
  (fun x => { tmps := #[.slice A xs.length c, .int .u64 n, undef, undef, .slice none 0 0, .pointer (some ⟨w2.heap.size, 0, none⟩), .int .u8 x, .slice A xs.length c, .int .i64 xs.length, .int .u64 n, .int .i64 (encI n).length, .int .i64 (xs.length + (encI n).length), .slice (some ⟨w1.heap.size, 0, none⟩) 0 (xs.length + (encI n).length), .slice (some ⟨w1.heap.size, 0, none⟩) 0 (xs.length + (encI n).length), .slice A xs.length c, .slice (some ⟨g3, 0, none⟩) xs.length cap3, .int .u64 n, .func (.func 190) #[] #[.pointer (some ⟨w3.heap.size, 0, none⟩)], .int .u8 x, undef, undef, undef, undef, undef], defers := [] }) ?assign ?body ?done ?stop
 case assign =>
  intro l x W K hK
  gi_wp2
  exact hK
 case body =>
  rintro l pre x W ⟨⟨v, hv, hrow, hnil⟩, hB⟩ hlt
  have hc := hv.cell
  gi_wp2_with (gi_at_builtin; refine wpListIn_append_own _ rfl _ _ 22 rfl w.heap.size 5 i0 (.int .u8 0) 1 1 Tryz.underlying22 hi hz0 hz1 hz2 rfl (by decide) _ _ _ rfl (hrow.alloc _) ⟨W.heap.size, 0, none⟩ 1 1 [.int .u8 x] rfl rfl (cell_one_new _ _ _) (by simp [Value.oneCell']) (by simp only [maxLen]; omega) (by omega) (by have := hB.size; simp; omega) ?_; intro v' w1 hown' hgrow hn'; obtain ⟨g', cap', rfl⟩ := ownsRow_succ hown'; obtain ⟨hv1, hv2, hr2, hk2, hb2⟩ := hv.appended (by decide) hrow hB.size hle2 hown' hgrow; have hc1 := hv1.cell; have hf1 := hv1.frozen)
  exact ⟨hk2.from _, hb2, ⟨_, hv2, by simpa [Nat.add_assoc] using hr2, by simp⟩, hB.trans hb2⟩
 case done =>
  rintro D ys W hD rfl ⟨⟨v, hv, hrow, hnil⟩, hB⟩ hK
  have hc := hv.cell
  gi_wp2
  refine ⟨by simp, .inl ⟨_, _, rfl, run_takeDeferred hK, ?_⟩⟩
  exact ⟨_, results_tmp rfl _ _ _, v, rfl, ownsRow_putObj hrow _ hK rfl, hB.trans (belowK_b (w := w) (Nat.le_refl _) W D _ _ (by simp at hD; omega) hK rfl rfl)⟩
 case stop =>
  rintro D c pre W _ _ h _
  exact h.elim
end
open Go.RowKit Go.Shelf
theorem put_any (A : Option Addr) (c : Nat) (xs : List Int) (n : Nat) (hn : n < 18446744073709551616) (hsm : xs.length ≤ 100000000000) (w : World) (hrow : Row w w.heap.size (.slice A xs.length c) xs) :
  Calls Tryz.prog 137 #[.slice A xs.length c, .int .u64 n] w fun e W' => ∃ v, e = .returned v ∧ W'.ownsRow w.heap.size 5 1 v (xs.length + (encI n).length) ((xs ++ encI n).map (.int .u8)) ∧ Below w.heap.size w W' :=
 callsIn_wide.1 (put_in Fence.wide 5 trivial trivial trivial trivial rfl (by omega) A c xs n hn hsm w hrow)
theorem size_any (n : Nat) (hn : n < 18446744073709551616) (w : World) :
  Calls Tryz.prog 154 #[.int .u64 n] w fun e W' => e = .returned (.int .i64 (encI n).length) ∧ Below w.heap.size w W' :=
 callsIn_wide.1 (size_in Fence.wide 5 trivial trivial trivial rfl (by omega) n hn w)
theorem put_nil (n : Nat) (hn : n < 18446744073709551616) (w : World) :
  Calls Tryz.prog 137 #[.slice none 0 0, .int .u64 n] w fun e W' => ∃ v, e = .returned v ∧ W'.ownsRow w.heap.size 5 1 v (encI n).length ((encI n).map (.int .u8)) ∧ Below w.heap.size w W' := by
 have h := put_any none 0 [] n hn (by simp) w (Row.nil _ _)
 simpa using h
theorem bput_any (A : Option Addr) (c : Nat) (xs : List Int) (s : List Int) (hs : ∀ x ∈ s, 0 ≤ x ∧ x < 256) (hsm : xs.length ≤ 1000000000) (hsl : s.length ≤ 1000000000) (w : World) (hrow : Row w w.heap.size (.slice A xs.length c) xs) :
  Calls Tryz.prog 139 #[.slice A xs.length c, .string (strOfNums s)] w fun e W' => ∃ v, e = .returned v ∧ W'.ownsRow w.heap.size 5 1 v (xs.length + (encT s).length) ((xs ++ encT s).map (.int .u8)) ∧ Below w.heap.size w W' := by
 have hn : s.length < 18446744073709551616 := by omega
 obtain ⟨l1, l2⟩ := encI_ten hn
 obtain ⟨i0, hi, hz0, hz1, hz2⟩ := info_parts Tryz.infoU8
 have hp := put_any A c xs s.length hn (by omega) w hrow
 have hss : (strOfNums s).size = s.length := strOfNums_size s
 have hcs := strCells_nums s hs
 have HP := hid hp; clear hp hrow
 have HCS := hid hcs; clear hcs
 have HET := hid (encT_length s)
 go_enter Tryz.func139, Tryz.ntmps139
 go_wp2_with fail
 refine HP.out.mono ?_
 rintro e w1 ⟨v1, rfl, hown1, hb1⟩
 have hsz1 := hb1.size
 go_wp2_with (at_builtin; refine Lib.wpList_append_own_string _ rfl _ _ 22 9 rfl w.heap.size 5 i0 Tryz.underlying22 Tryz.underlying9 hi hz0 hz1 hz2 _ _ _ rfl hown1 (strOfNums s) rfl (by rw [hss]; simp only [maxLen]; omega) (by rw [hss]; omega) hsz1 ?_; intro v2 w2 hown2 hg2 hn2)
 go_ret
 refine ⟨v2, rfl, ?_, hb1.grown hg2 hsz1 (fun j ej => (hown1.lt j ej).1)⟩
 rw [HCS.out, hss, ← List.map_append, List.append_assoc] at hown2
 rw [HET.out, ← Nat.add_assoc]
 exact hown2
open Go.RowKit
theorem fold_any (x : Int) (h1 : -9223372036854775808 ≤ x) (h2 : x ≤ 9223372036854775807) (w : World) :
  Calls Tryz.prog 194 #[.int .i64 x] w fun e w' => e = .returned (.int .u64 (foldI x)) ∧ w = w' := by
 by_cases hx : x < 0
 ·have e1 : foldI x = 2 * (-1 - x) + 1 := by unfold foldI; rw [if_pos hx]
  have E1 := hid e1; clear e1
  go_enter Tryz.func194, Tryz.ntmps194
  go_wp2
  go_ret
  exact ⟨by rw [E1.out]; rfl, rfl⟩
 ·have e1 : foldI x = 2 * x := by unfold foldI; rw [if_neg hx]
  have E1 := hid e1; clear e1
  go_enter Tryz.func194, Tryz.ntmps194
  go_wp2
  go_ret
  exact ⟨by rw [E1.out]; rfl, rfl⟩
theorem encI_mono : ∀ (k m n : Nat), n < k → m ≤ n → (encI m).length ≤ (encI n).length
 | 0, _, _, h, _ => by omega
 | k + 1, m, n, h, hm => by
  by_cases h1 : m < 128
  ·rw [encI_small h1]
   by_cases h2 : n < 128
   ·rw [encI_small h2]; simp
   ·rw [encI_great h2]; simp
  ·have h2 : ¬ n < 128 := by omega
   rw [encI_great h1, encI_great h2, List.length_cons, List.length_cons]
   have := encI_mono k (m / 128) (n / 128) (by omega) (by omega)
   omega
theorem encI_one_at_least (n : Nat) : 1 ≤ (encI n).length := by
 by_cases h : n < 128
 ·rw [encI_small h]; simp
 ·rw [encI_great h]; simp
def tmAt (l : List Pm) (i : Nat) : Int := match l[i]? with
 | some p => p.tm
 | none => 0
def evsAt (l : List Pm) (i : Nat) : List Em := match l[i]? with
 | some p => p.evs
 | none => []
theorem tmAt_of {l : List Pm} {i : Nat} {p : Pm} (h : l[i]? = some p) : tmAt l i = p.tm := by unfold tmAt; rw [h]
theorem evsAt_of {l : List Pm} {i : Nat} {p : Pm} (h : l[i]? = some p) : evsAt l i = p.evs := by unfold evsAt; rw [h]
def argN (D : List (List Int)) (a : Ag) : Nat := if a.t = 1 then (foldI a.n).toNat else (placeD D a.s).toNat
def argsB (D : List (List Int)) (l : List Ag) : List Int := l.flatMap fun a => encI (argN D a)
def evB (D : List (List Int)) (e : Em) : List Int := encI e.p.toNat ++ argsB D e.args
def evlB (D : List (List Int)) (l : List Em) : List Int := l.flatMap (evB D)
def evsB (D : List (List Int)) (l : List Em) : List Int := encI l.length ++ evlB D l
def stepN (l : List Pm) (i : Nat) : Nat := (tmAt l i - tmAt l (i - 1)).toNat
def ptB (D : List (List Int)) (l : List Pm) (i : Nat) : List Int := (if 0 < i then encI (stepN l i) else []) ++ evsB D (evsAt l i)
def ptsB (D : List (List Int)) (l : List Pm) (k : Nat) : List Int := (List.range k).flatMap (ptB D l)
def dictB (D : List (List Int)) : List Int := encI D.length ++ catT D
def headB (l : List Pm) : List Int := encI l.length ++ dictB (addT [] l) ++ ptsB (addT [] l) l l.length
def payB (l : List Pm) : List Int := encI (tmAt l 0).toNat ++ headB l
theorem ptsB_zero (D : List (List Int)) (l : List Pm) : ptsB D l 0 = [] := rfl
theorem ptsB_succ (D : List (List Int)) (l : List Pm) (k : Nat) : ptsB D l (k + 1) = ptsB D l k ++ ptB D l k := by simp [ptsB, List.range_succ]
theorem argsB_succ {D : List (List Int)} {l : List Ag} {k : Nat} {a : Ag} (h : l[k]? = some a) : argsB D (l.take (k + 1)) = argsB D (l.take k) ++ encI (argN D a) := by rw [take_one h]; simp [argsB]
theorem evlB_succ {D : List (List Int)} {l : List Em} {k : Nat} {e : Em} (h : l[k]? = some e) : evlB D (l.take (k + 1)) = evlB D (l.take k) ++ evB D e := by rw [take_one h]; simp [evlB]
structure AOk (a : Ag) : Prop where
 kind : a.t = 1 ∨ a.t = 2
 len : a.s.length ≤ 200
 fits : a.Fits
structure EOk (e : Em) : Prop where
 low : 0 ≤ e.p
 high : e.p < 64
 few : e.args.length ≤ 8
 args : ∀ a ∈ e.args, AOk a
structure POk (p : Pm) : Prop where
 fits : p.Fits
 few : p.evs.length ≤ 1024
 evs : ∀ e ∈ p.evs, EOk e
structure BOk (l : List Pm) : Prop where
 few : l.length ≤ 1024
 pts : ∀ p ∈ l, POk p
 ord : ∀ i p q, l[i]? = some p → l[i + 1]? = some q → p.tm ≤ q.tm
theorem BOk.take {l : List Pm} (h : BOk l) (n : Nat) : BOk (l.take n) :=
 ⟨by rw [List.length_take]; have := h.few; omega, fun p hp => h.pts p (List.mem_of_mem_take hp), fun i p q h1 h2 => by
  rw [List.getElem?_take] at h1 h2
  split at h2
  ·rename_i hlt
   rw [if_pos (by omega)] at h1
   exact h.ord i p q h1 h2
  ·cases h2⟩
theorem argN_lt {D : List (List Int)} {a : Ag} (h : AOk a) (hD : D.length ≤ 1000000000) : argN D a < 18446744073709551616 := by
 unfold argN
 split
 ·obtain ⟨_, _, _, h1, h2⟩ := h.fits
  obtain ⟨q1, q2⟩ := foldI_range h1 h2
  omega
 ·rcases placeD_ways D a.s with ⟨q, _⟩ | ⟨j, h0, q, _⟩
  ·rw [q]; decide
  ·rw [q]; omega
theorem argsB_len {D : List (List Int)} (hD : D.length ≤ 1000000000) : ∀ (l : List Ag), (∀ a ∈ l, AOk a) → (argsB D l).length ≤ 10 * l.length
 | [], _ => by simp [argsB]
 | a :: l, h => by
  have h1 := argsB_len hD l (fun b hb => h b (List.mem_cons_of_mem _ hb))
  have h2 := (encI_ten (argN_lt (D := D) (h a (List.mem_cons_self ..)) hD)).2
  simp only [argsB, List.flatMap_cons, List.length_append, List.length_cons] at h1 ⊢
  omega
theorem evB_len {D : List (List Int)} (hD : D.length ≤ 1000000000) {e : Em} (h : EOk e) : (evB D e).length ≤ 90 := by
 have h1 := argsB_len hD e.args h.args
 have h2 := (encI_ten (n := e.p.toNat) (by have := h.high; omega)).2
 have := h.few
 simp only [evB, List.length_append]
 omega
theorem evlB_len {D : List (List Int)} (hD : D.length ≤ 1000000000) : ∀ (l : List Em), (∀ e ∈ l, EOk e) → (evlB D l).length ≤ 90 * l.length
 | [], _ => by simp [evlB]
 | a :: l, h => by
  have h1 := evlB_len hD l (fun b hb => h b (List.mem_cons_of_mem _ hb))
  have h2 := evB_len hD (h a (List.mem_cons_self ..))
  simp only [evlB, List.flatMap_cons, List.length_append, List.length_cons] at h1 ⊢
  omega
theorem evsB_len {D : List (List Int)} (hD : D.length ≤ 1000000000) {p : Pm} (h : POk p) : 1 ≤ (evsB D p.evs).length ∧ (evsB D p.evs).length ≤ 92170 := by
 have h1 := evlB_len hD p.evs h.evs
 have h2 := (encI_ten (n := p.evs.length) (by have := h.few; omega)).2
 have h3 := encI_one_at_least p.evs.length
 have := h.few
 simp only [evsB, List.length_append]
 omega
theorem stepN_lt {l : List Pm} (h : ∀ p ∈ l, POk p) (i : Nat) : stepN l i < 18446744073709551616 := by
 have key : ∀ j, 0 ≤ tmAt l j ∧ tmAt l j < 18446744073709551616 := fun j => by
  unfold tmAt
  cases hj : l[j]? with
  | none => exact ⟨Int.le_refl _, by decide⟩
  | some p => exact (h p (List.mem_of_getElem? hj)).fits
 have h1 := key i
 have h2 := key (i - 1)
 unfold stepN
 omega
theorem ptB_len {D : List (List Int)} (hD : D.length ≤ 1000000000) {l : List Pm} (h : ∀ p ∈ l, POk p) {i : Nat} (hi : i < l.length) : 1 ≤ (ptB D l i).length ∧ (ptB D l i).length ≤ 92180 := by
 have h1 := evsB_len hD (h _ (List.getElem_mem hi))
 rw [← evsAt_of (List.getElem?_eq_getElem hi)] at h1
 have h2 := (encI_ten (stepN_lt h i)).2
 simp only [ptB, List.length_append]
 split
 ·omega
 ·simp; omega
theorem ptsB_len {D : List (List Int)} (hD : D.length ≤ 1000000000) {l : List Pm} (h : ∀ p ∈ l, POk p) : ∀ k, k ≤ l.length → (ptsB D l k).length ≤ 92180 * k
 | 0, _ => by simp [ptsB]
 | k + 1, hk => by
  have h1 := ptsB_len hD h k (by omega)
  have h2 := (ptB_len hD h (i := k) (by omega)).2
  rw [ptsB_succ, List.length_append]
  omega
theorem nA_le : ∀ l : List Em, (∀ e ∈ l, EOk e) → nA l ≤ 8 * l.length
 | [], _ => by simp [nA]
 | e :: l, h => by
  have h1 := nA_le l (fun b hb => h b (List.mem_cons_of_mem _ hb))
  have h2 := (h e (List.mem_cons_self ..)).few
  simp only [nA, List.foldr_cons, List.length_cons] at h1 ⊢
  omega
theorem nT_le : ∀ l : List Pm, (∀ p ∈ l, POk p) → nT l ≤ 8192 * l.length
 | [], _ => by simp [nT]
 | p :: l, h => by
  have h1 := nT_le l (fun b hb => h b (List.mem_cons_of_mem _ hb))
  have h2 := nA_le p.evs (h p (List.mem_cons_self ..)).evs
  have h3 := (h p (List.mem_cons_self ..)).few
  simp only [nT, List.foldr_cons, List.length_cons] at h1 ⊢
  omega
def Tx200 (L : List (List Int)) : Prop := ∀ t ∈ L, t.length ≤ 200 ∧ ∀ x ∈ t, 0 ≤ x ∧ x < 256
theorem addA_200 : ∀ (l : List Ag) (L : List (List Int)), Tx200 L → (∀ a ∈ l, AOk a) → Tx200 (addA L l)
 | [], _, h, _ => h
 | a :: l, L, h, hl => by
  refine addA_200 l (stepA L a) ?_ (fun b hb => hl b (List.mem_cons_of_mem _ hb))
  have ha := hl a (List.mem_cons_self ..)
  unfold stepA
  split
  ·intro t ht
   rcases putD_mem ht with h1 | rfl
   ·exact h t h1
   ·exact ⟨ha.len, ha.fits.2.1⟩
  ·exact h
theorem addE_200 : ∀ (l : List Em) (L : List (List Int)), Tx200 L → (∀ e ∈ l, EOk e) → Tx200 (addE L l)
 | [], _, h, _ => h
 | e :: l, L, h, hl => addE_200 l (addA L e.args) (addA_200 _ _ h (hl e (List.mem_cons_self ..)).args) (fun b hb => hl b (List.mem_cons_of_mem _ hb))
theorem addT_200 : ∀ (l : List Pm) (L : List (List Int)), Tx200 L → (∀ p ∈ l, POk p) → Tx200 (addT L l)
 | [], _, h, _ => h
 | p :: l, L, h, hl => addT_200 l (addE L p.evs) (addE_200 _ _ h (hl p (List.mem_cons_self ..)).evs) (fun b hb => hl b (List.mem_cons_of_mem _ hb))
theorem BOk.dict {l : List Pm} (h : BOk l) : (addT [] l).length ≤ 8388608 ∧ Tx200 (addT [] l) := by
 have h1 := (addT_ok l []).high
 have h2 := nT_le l h.pts
 have h3 := h.few
 simp only [List.length_nil] at h1
 exact ⟨by omega, addT_200 l [] (fun t ht => by simp at ht) h.pts⟩
theorem dictB_len {D : List (List Int)} (h1 : D.length ≤ 8388608) (h2 : Tx200 D) : (dictB D).length ≤ 1761607690 := by
 have h3 := (encI_ten (n := D.length) (by omega)).2
 have h4 := catT_le 200 (by decide) D (fun t ht => (h2 t ht).1)
 simp only [dictB, List.length_append]
 omega
theorem headB_len {l : List Pm} (h : BOk l) : (headB l).length ≤ 1856000020 := by
 obtain ⟨h1, h2⟩ := h.dict
 have h3 := dictB_len h1 h2
 have h4 := ptsB_len (D := addT [] l) (by omega) h.pts l.length (Nat.le_refl _)
 have h5 := (encI_ten (n := l.length) (by have := h.few; omega)).2
 have := h.few
 simp only [headB, List.length_append]
 omega
theorem payB_len {l : List Pm} (h : BOk l) : (payB l).length ≤ 1856000030 := by
 have h1 := headB_len h
 have h2 : (encI (tmAt l 0).toNat).length ≤ 10 := by
  refine (encI_ten ?_).2
  unfold tmAt
  cases hj : l[0]? with
  | none => decide
  | some p => have := (h.pts p (List.mem_of_getElem? hj)).fits; unfold Pm.Fits at this; dsimp only; omega
 simp only [payB, List.length_append]
 omega
theorem stepA_more (L : List (List Int)) (a : Ag) : ∃ X, stepA L a = L ++ X := by
 unfold stepA putD
 split
 ·split
  ·exact ⟨_, rfl⟩
  ·exact ⟨[], by simp⟩
 ·exact ⟨[], by simp⟩
theorem addA_more : ∀ (l : List Ag) (L : List (List Int)), ∃ X, addA L l = L ++ X
 | [], L => ⟨[], by simp [addA]⟩
 | a :: l, L => by
  obtain ⟨X, hX⟩ := stepA_more L a
  obtain ⟨Y, hY⟩ := addA_more l (stepA L a)
  exact ⟨X ++ Y, by rw [show addA L (a :: l) = addA (stepA L a) l from rfl, hY, hX, List.append_assoc]⟩
theorem addE_more : ∀ (l : List Em) (L : List (List Int)), ∃ X, addE L l = L ++ X
 | [], L => ⟨[], by simp [addE]⟩
 | a :: l, L => by
  obtain ⟨X, hX⟩ := addA_more a.args L
  obtain ⟨Y, hY⟩ := addE_more l (addA L a.args)
  exact ⟨X ++ Y, by rw [show addE L (a :: l) = addE (addA L a.args) l from rfl, hY, hX, List.append_assoc]⟩
theorem addT_more : ∀ (l : List Pm) (L : List (List Int)), ∃ X, addT L l = L ++ X
 | [], L => ⟨[], by simp [addT]⟩
 | a :: l, L => by
  obtain ⟨X, hX⟩ := addE_more a.evs L
  obtain ⟨Y, hY⟩ := addT_more l (addE L a.evs)
  exact ⟨X ++ Y, by rw [show addT L (a :: l) = addT (addE L a.evs) l from rfl, hY, hX, List.append_assoc]⟩
theorem placeF_more (x : List Int) (X : List (List Int)) : ∀ (D : List (List Int)) (k : Nat), x ∈ D → placeF x (D ++ X) k = placeF x D k
 | [], _, h => by simp at h
 | t :: D, k, h => by
  simp only [List.cons_append, placeF]
  split
  ·rfl
  ·rename_i hne
   exact placeF_more x X D (k + 1) ((List.mem_cons.1 h).resolve_left (Ne.symm hne))
theorem argN_more {D X : List (List Int)} {a : Ag} (h : a.t = 2 → a.s ∈ D) (hk : a.t = 1 ∨ a.t = 2) : argN (D ++ X) a = argN D a := by
 unfold argN
 split
 ·rfl
 ·rename_i h1
  unfold placeD
  rw [placeF_more a.s X D 0 (h (hk.resolve_left h1))]
theorem putD_has {D : List (List Int)} {x : List Int} : x ∈ (putD D x).1 := by
 rcases placeD_ways D x with ⟨h1, h2⟩ | ⟨j, _, h1, h2, _⟩
 ·rw [putD_new h1]; simp
 ·rw [putD_old h1]; exact List.mem_of_getElem? h2
theorem addA_has : ∀ (l : List Ag) (L : List (List Int)), ∀ a ∈ l, a.t = 2 → a.s ∈ addA L l
 | [], _, a, h, _ => by simp at h
 | b :: l, L, a, h, ht => by
  rw [show addA L (b :: l) = addA (stepA L b) l from rfl]
  rcases List.mem_cons.1 h with rfl | h
  ·obtain ⟨X, hX⟩ := addA_more l (stepA L a)
   rw [hX, stepA, if_pos ht]
   exact List.mem_append.2 (.inl putD_has)
  ·exact addA_has l _ a h ht
theorem addE_has : ∀ (l : List Em) (L : List (List Int)), ∀ e ∈ l, ∀ a ∈ e.args, a.t = 2 → a.s ∈ addE L l
 | [], _, e, h, _, _, _ => by simp at h
 | b :: l, L, e, h, a, ha, ht => by
  rw [show addE L (b :: l) = addE (addA L b.args) l from rfl]
  rcases List.mem_cons.1 h with rfl | h
  ·obtain ⟨X, hX⟩ := addE_more l (addA L e.args)
   rw [hX]
   exact List.mem_append.2 (.inl (addA_has _ _ a ha ht))
  ·exact addE_has l _ e h a ha ht
theorem addT_has : ∀ (l : List Pm) (L : List (List Int)), ∀ p ∈ l, ∀ e ∈ p.evs, ∀ a ∈ e.args, a.t = 2 → a.s ∈ addT L l
 | [], _, p, h, _, _, _, _, _ => by simp at h
 | b :: l, L, p, h, e, he, a, ha, ht => by
  rw [show addT L (b :: l) = addT (addE L b.evs) l from rfl]
  rcases List.mem_cons.1 h with rfl | h
  ·obtain ⟨X, hX⟩ := addT_more l (addE L p.evs)
   rw [hX]
   exact List.mem_append.2 (.inl (addE_has _ _ e he a ha ht))
  ·exact addT_has l _ p h e he a ha ht
theorem flatMap_same {α β : Type} {f g : α → List β} {l : List α} (h : ∀ a ∈ l, f a = g a) : l.flatMap f = l.flatMap g := by
 induction l with
 | nil => rfl
 | cons a l ih => rw [List.flatMap_cons, List.flatMap_cons, h a (List.mem_cons_self ..), ih fun b hb => h b (List.mem_cons_of_mem _ hb)]
theorem evsB_more {D X : List (List Int)} {l : List Em} (h : ∀ e ∈ l, ∀ a ∈ e.args, (a.t = 2 → a.s ∈ D) ∧ (a.t = 1 ∨ a.t = 2)) : evsB (D ++ X) l = evsB D l := by
 unfold evsB evlB
 rw [flatMap_same (g := evB D) fun e he => ?_]
 unfold evB argsB
 rw [flatMap_same (g := fun a => encI (argN D a)) fun a ha => ?_]
 rw [argN_more (h e he a ha).1 (h e he a ha).2]
theorem payB_longer {l : List Pm} (h : BOk l) {n : Nat} (h1 : 1 ≤ n) (hn : n < l.length) : (payB (l.take n)).length < (payB (l.take (n + 1))).length := by
 obtain ⟨p, hp⟩ : ∃ p, l[n]? = some p := ⟨_, List.getElem?_eq_getElem hn⟩
 have hT : addT [] (l.take (n + 1)) = addE (addT [] (l.take n)) p.evs := addT_succ hp
 obtain ⟨X, hX⟩ := addE_more p.evs (addT [] (l.take n))
 have hat : ∀ i, i < n → (l.take n)[i]? = l[i]? ∧ (l.take (n + 1))[i]? = l[i]? := fun i hi => ⟨by rw [List.getElem?_take, if_pos hi], by rw [List.getElem?_take, if_pos (by omega)]⟩
 have htm : ∀ i, i < n → tmAt (l.take (n + 1)) i = tmAt (l.take n) i := fun i hi => by unfold tmAt; rw [(hat i hi).1, (hat i hi).2]
 have hev : ∀ i, i < n → evsAt (l.take (n + 1)) i = evsAt (l.take n) i := fun i hi => by unfold evsAt; rw [(hat i hi).1, (hat i hi).2]
 have hl1 : (l.take n).length = n := by rw [List.length_take]; omega
 have hl2 : (l.take (n + 1)).length = n + 1 := by rw [List.length_take]; omega
 have hB := h.take n
 have hpt : ∀ i, i < n → ptB (addT [] (l.take (n + 1))) (l.take (n + 1)) i = ptB (addT [] (l.take n)) (l.take n) i := fun i hi => by
  obtain ⟨q, hq⟩ : ∃ q, (l.take n)[i]? = some q := ⟨_, List.getElem?_eq_getElem (by omega)⟩
  have hm := List.mem_of_getElem? hq
  unfold ptB stepN
  rw [hev i hi, htm i hi, htm (i - 1) (by omega), hT, hX, evsAt_of hq, evsB_more fun e he a ha => ⟨addT_has _ _ q hm e he a ha, (((hB.pts q hm).evs e he).args a ha).kind⟩]
 have hpts : ∀ k, k ≤ n → ptsB (addT [] (l.take (n + 1))) (l.take (n + 1)) k = ptsB (addT [] (l.take n)) (l.take n) k := fun k => by
  induction k with
  | zero => intro _; rfl
  | succ k ih => intro hk; rw [ptsB_succ, ptsB_succ, ih (by omega), hpt k (by omega)]
 have hlast := (ptB_len (D := addT [] (l.take (n + 1))) (by have := ((h.take (n + 1)).dict).1; omega) (h.take (n + 1)).pts (i := n) (by omega)).1
 unfold payB headB
 rw [htm 0 (by omega), hl1, hl2, ptsB_succ, hpts n (Nat.le_refl _)]
 generalize ptB (addT [] (l.take (n + 1))) (l.take (n + 1)) n = P at hlast ⊢
 rw [hT, hX]
 have m1 := encI_mono (n + 2) n (n + 1) (by omega) (by omega)
 have m2 := encI_mono ((addT [] (l.take n) ++ X).length + 1) (addT [] (l.take n)).length (addT [] (l.take n) ++ X).length (by omega) (by simp)
 simp only [dictB, catT, List.flatMap_append, List.length_append] at m2 ⊢
 omega
theorem catT_take_le (L : List (List Int)) (k : Nat) : (catT (L.take k)).length ≤ (catT L).length := by
 have h : catT L = catT (L.take k) ++ catT (L.drop k) := by unfold catT; rw [← List.flatMap_append, List.take_append_drop]
 rw [h, List.length_append]
 omega
theorem flatMap_take_le {α β : Type} (f : α → List β) (l : List α) (k : Nat) : ((l.take k).flatMap f).length ≤ (l.flatMap f).length := by
 have h : l.flatMap f = (l.take k).flatMap f ++ (l.drop k).flatMap f := by rw [← List.flatMap_append, List.take_append_drop]
 rw [h, List.length_append]
 omega
theorem placeD_in {L : List (List Int)} {s : List Int} (h : s ∈ L) : placeD L s = ((placeD L s).toNat : Int) := by
 rcases placeD_ways L s with ⟨_, h1⟩ | ⟨j, _, h1, _⟩
 ·exact absurd h h1
 ·rw [h1]; rfl
theorem whyG_zero {t : Int} {a : Ag} (h : whyG t a = 0) : a.t = t ∧ a.s.length ≤ 200 := by
 unfold whyG at h
 split at h
 ·cases h
 ·rename_i h1
  refine ⟨by simpa using h1, ?_⟩
  split at h
  ·cases h
  ·split at h
   ·cases h
   ·split at h
    ·cases h
    ·omega
theorem eok_of {sig : List Pr} (hs : checkP sig = 0) {e : Em} (h : eventT sig e.e = 0) (hf : ∀ a ∈ e.args, a.Fits) : EOk e := by
 obtain ⟨h1, h2⟩ := checkP_zero.1 hs
 by_cases hp : e.p < 0 ∨ (sig.length : Int) ≤ e.p
 ·rw [eventT_name hp] at h
  cases h
 ·obtain ⟨p, hp'⟩ : ∃ p, sig[e.p.toNat]? = some p := ⟨_, List.getElem?_eq_getElem (by omega)⟩
  obtain ⟨_, _, o1, o2⟩ := h2 _ p hp'
  rw [eventT_has (k := e.p.toNat) (by show e.p = _; omega) hp'] at h
  split at h
  ·cases h
  ·rename_i hl
   have hl : e.args.length = p.args.length := by simpa using hl
   refine ⟨by omega, by omega, by omega, fun a ha => ?_⟩
   obtain ⟨i, hi⟩ := List.mem_iff_getElem?.1 ha
   have hil := (List.getElem?_eq_some_iff.1 hi).1
   have hw := firstWhy_zero _ _ h i (Nat.zero_le _) (by show i < 0 + e.args.length; omega)
   rw [show e.e.args.getD i default = a from getD_of hi] at hw
   obtain ⟨w1, w2⟩ := whyG_zero hw
   have ht := o2 (p.args.getD i 0) (by rw [List.getD, List.getElem?_eq_getElem (by omega)]; exact List.getElem_mem (by omega))
   exact ⟨by omega, w2, hf a ha⟩
theorem bok_of {sig : List Pr} {l : List Pm} (h : (checkT sig (l.map (·.p))).1 = 0) (hlen : l.length ≤ 1024) (hf : ∀ p ∈ l, p.Fits ∧ ∀ e ∈ p.evs, ∀ a ∈ e.args, a.Fits) : BOk l := by
 obtain ⟨hs, hw⟩ := checkT_zero.1 h
 have hat : ∀ (i : Nat) (p : Pm), l[i]? = some p → (l.map (·.p)).getD i default = p.p := fun i p hi => getD_of (at_pn hi)
 have hE : ∀ (i : Nat) (p : Pm), l[i]? = some p → ¬ (0 < i ∧ p.tm < ((l.map (·.p)).getD (i - 1) default).tm) ∧ whyE sig (p.evs.map (·.e)) = 0 := fun i p hi => by
  have hil := (List.getElem?_eq_some_iff.1 hi).1
  have := hw i (by rw [List.length_map]; exact hil)
  unfold whyT at this
  rw [hat i p hi] at this
  split at this
  ·cases this
  ·rename_i h1
   exact ⟨h1, this⟩
 refine ⟨hlen, fun p hp => ?_, fun i p q h1 h2 => ?_⟩
 ·obtain ⟨i, hi⟩ := List.mem_iff_getElem?.1 hp
  have h1 := (hE i p hi).2
  unfold whyE at h1
  split at h1
  ·cases h1
  ·rename_i hl
   rw [List.length_map] at hl h1
   refine ⟨(hf p hp).1, by omega, fun e he => ?_⟩
   obtain ⟨k, hk⟩ := List.mem_iff_getElem?.1 he
   have hkl := (List.getElem?_eq_some_iff.1 hk).1
   have := firstWhy_zero _ _ h1 k (Nat.zero_le _) (by omega)
   rw [getD_of (at_ev hk)] at this
   exact eok_of hs this ((hf p hp).2 e he)
 ·have := (hE (i + 1) q h2).1
  rw [Nat.add_sub_cancel, hat i p h1] at this
  have : ¬ q.tm < p.tm := fun h => this ⟨Nat.succ_pos i, h⟩
  omega
def checkB (sig : List Pr) (l : List Pm) : Int := if l.length = 0 then 1 else if (checkT sig (l.map (·.p))).1 ≠ 0 then (checkT sig (l.map (·.p))).1 else if 1024 < l.length then 6 else 0
def wholeB (sig : List Pr) (l : List Pm) : List Int × Int := if checkB sig l = 0 then (payB l, 0) else ([], checkB sig l)
def putB (sig : List Pr) (l : List Pm) : List Int × Int := if checkB sig l = 0 then (if 4096 < (payB l).length then ([], 6) else (payB l, 0)) else ([], checkB sig l)
theorem checkB_zero {sig : List Pr} {l : List Pm} (h : checkB sig l = 0) : 0 < l.length ∧ (checkT sig (l.map (·.p))).1 = 0 ∧ l.length ≤ 1024 := by
 unfold checkB at h
 split at h
 ·cases h
 ·split at h
  ·rename_i h2
   exact absurd h h2
  ·rename_i h1 h2
   split at h
   ·cases h
   ·exact ⟨by omega, by simpa using h2, by omega⟩
theorem TrRow.fits {w : World} {B : Nat} {v : Value} {l : List Pm} (h : TrRow w B v l) : ∀ p ∈ l, p.Fits ∧ ∀ e ∈ p.evs, ∀ a ∈ e.args, a.Fits := fun p hp => ⟨(h.2 p hp).2, fun e he a ha => ((h.2 p hp).1.2 e he).1.2 a ha⟩
theorem TrRow.bok {w : World} {B : Nat} {v : Value} {l : List Pm} {sig : List Pr} (h : TrRow w B v l) (hc : checkB sig l = 0) : BOk l := by
 obtain ⟨_, h1, h2⟩ := checkB_zero hc
 exact bok_of h1 h2 h.fits
theorem argsB_byte {D : List (List Int)} (hD : D.length ≤ 1000000000) {l : List Ag} (h : ∀ a ∈ l, AOk a) : ∀ x ∈ argsB D l, 0 ≤ x ∧ x < 256 := fun x hx => by
 obtain ⟨a, ha, hx⟩ := List.mem_flatMap.1 hx
 exact encI_bytes (argN_lt (D := D) (h a ha) hD) x hx
theorem evsB_byte {D : List (List Int)} (hD : D.length ≤ 1000000000) {p : Pm} (h : POk p) : ∀ x ∈ evsB D p.evs, 0 ≤ x ∧ x < 256 := fun x hx => by
 rcases List.mem_append.1 hx with hx | hx
 ·exact encI_bytes (by have := h.few; omega) x hx
 ·obtain ⟨e, he, hx⟩ := List.mem_flatMap.1 hx
  rcases List.mem_append.1 hx with hx | hx
  ·exact encI_bytes (by have := (h.evs e he).high; omega) x hx
  ·exact argsB_byte hD (h.evs e he).args x hx
theorem payB_bytes {l : List Pm} (h : BOk l) : ∀ x ∈ payB l, 0 ≤ x ∧ x < 256 := fun x hx => by
 obtain ⟨h1, h2⟩ := h.dict
 have htm : (tmAt l 0).toNat < 18446744073709551616 := by
  unfold tmAt
  cases hj : l[0]? with
  | none => decide
  | some p => have := (h.pts p (List.mem_of_getElem? hj)).fits; unfold Pm.Fits at this; dsimp only; omega
 simp only [payB, headB, dictB, List.mem_append] at hx
 rcases hx with hx | (hx | hx | hx) | hx
 ·exact encI_bytes htm x hx
 ·exact encI_bytes (by have := h.few; omega) x hx
 ·exact encI_bytes (by omega) x hx
 ·obtain ⟨t, ht, hx⟩ := List.mem_flatMap.1 hx
  exact encT_bytes (by have := (h2 t ht).1; omega) (h2 t ht).2 x hx
 ·obtain ⟨i, hi, hx⟩ := List.mem_flatMap.1 hx
  have hi := List.mem_range.1 hi
  rcases List.mem_append.1 hx with hx | hx
  ·split at hx
   ·exact encI_bytes (stepN_lt h.pts i) x hx
   ·simp at hx
  ·rw [evsAt_of (List.getElem?_eq_getElem hi)] at hx
   exact evsB_byte (by omega) (h.pts _ (List.getElem_mem hi)) x hx
theorem putB_ok {sig : List Pr} {l : List Pm} (h : (putB sig l).2 = 0) : checkB sig l = 0 ∧ (payB l).length ≤ 4096 ∧ putB sig l = (payB l, 0) := by
 unfold putB at h
 split at h
 ·rename_i h1
  split at h
  ·cases h
  ·rename_i h2
   exact ⟨h1, by omega, by rw [putB, if_pos h1, if_neg h2]⟩
 ·rename_i h1
  exact absurd h h1
theorem step_append_erow_at {P : Program} {w : World} {ops : Array Oper} {o : Oper} {a : Act} {K : Act → World → Prop} {Q : Exit → Act → World → Prop} {E : Prop} (hgd : o.guard = none) (s x : Operand) (t e : TypeId) (ho : o.op = .call { callee := .builtin .append, args := #[s, x], argTypes := #[t, t] })
  (base : Nat) (i : TypeInfo) (z : Value) (size bytes : Nat) (ht : P.underlying t = some (.slice e)) (hi : P.info? e = some i) (hz : i.zero = some z) (hsize : i.size = size) (hby : i.bytes = bytes) (hzs : z.cells.size = size) (hsz : 0 < size)
  (v : Value) (n : Nat) (xs : List Value) (hs : a.eval s = v) (hown : w.ownsRow base e size v n xs) (B : Nat) (sv : Value) (m : Nat) (us : List Value) (hx : a.eval x = sv) (hr : ERow w B sv m us) (hl : us.length = m * size) (h1 : ∀ u ∈ us, u.oneCell' = true)
  (h63 : n + m ≤ maxLen) (hbytes : (n + m) * bytes ≤ 140737488355328) (hbase : base ≤ w.heap.size) (N : Nat) (hN : n + m = N) (ys : List Value) (hys : xs ++ us = ys)
  (h : ∀ A c w', w'.ownsRow base e size (.slice A N c) N ys → w.grownBy w' v.ownBlock → ((Value.slice A N c).ownBlock = v.ownBlock ∨ (Value.slice A N c).ownBlock = some w.heap.size) → K (a.put o.dst (.slice A N c)) w') : if Region.wanted o (yielded ops a.tmps) = true then Oper.wp P o a w K Q else E := by
 subst hN hys
 have hw : Region.wanted o (yielded ops a.tmps) = true := by simp [Region.wanted, hgd]
 obtain ⟨v', w', hrun, h2, h3, h4⟩ := run_append_erow_at (P := P) w base t o.type e i z size bytes ht hi hz hsize hby hzs hsz v n xs hown B sv m us hr hl h1 h63 hbytes hbase
 obtain ⟨A, c, rfl⟩ := own_form h2
 rw [if_pos hw]
 unfold Oper.wp execOp
 simp only [ho, resolve, invoke, builtin, Sem.run_bind, Sem.run_pure, Result.andThen_ok, List.map_toArray, List.map_cons, List.map_nil, hs, hx, hrun]
 exact h A c w' h2 h3 h4
section
variable {w w' w2 : World} {base g n k : Nat} {v u : Value} {us : List Value} {T : TypeId}
theorem apart_held {j : Nat} {t : TypeId} {cs : Array Value} (hh : Held w g T #[u]) (ho : w.ownsRow base 5 1 v n us) (hb : But w w' v.ownBlock g) (hk : Held w j t cs) (h1 : t ≠ T) (h2 : t ≠ 5) : Held w' j t cs :=
 hb.held hk (fun e => by
  subst e
  rw [Held, hh] at hk
  injection hk with hk
  injection hk with _ e2
  exact h1 e2.symm) (own_not_held ho hk (Ne.symm h2))
theorem apart_own {n2 k2 size : Nat} {e : TypeId} {vx : Value} {ux : List Value} (hh : Held w g T #[u]) (ho : w.ownsRow base 5 1 v n us) (hb : But w w' v.ownBlock g) (hx : w.ownsRow n2 e size vx k2 ux) (h1 : e ≠ T) (h2 : e ≠ 5) : w'.ownsRow n2 e size vx k2 ux :=
 own_but hx hb (.inr (Ne.symm (own_not_held hx hh h1))) (by
  rcases hx.2 with ⟨rfl, _⟩ | ⟨b, cap, cur, rfl, _, hgb, _⟩
  ·exact .inl rfl
  ·exact .inr (own_not_held (g := b) ho (show Held w b e cur from hgb) (Ne.symm h2)))
theorem apart_dict {b2 D r : Nat} {vd : Value} {L : List (List Int)} (hh : Held w g T #[u]) (ho : w.ownsRow base 5 1 v n us) (hb : But w w' v.ownBlock g) (hd : DictAt w b2 D r vd L) (h1 : 287 ≠ T) (h2 : 9 ≠ T) : DictAt w' b2 D r vd L := by
 refine ⟨apart_held hh ho hb hd.held h1 (by decide), apart_own hh ho hb hd.own h2 (by decide), ?_, hd.hD, hd.hr, hd.tx⟩
 obtain ⟨es, cl, he, _⟩ := hd.map
 refine hd.map.keep (hb.block r hd.map.lt (fun e => ?_) (own_not_map ho he))
 subst e
 rw [show w.heap[r]? = _ from hh] at he
 cases he
structure SnkP (w : World) (base g : Nat) (v : Value) (zs : List Int) : Prop where
 held : Held w g 22 #[v]
 hg : base ≤ g
 own : w.ownsRow base 5 1 v zs.length (zs.map (.int .u8))
structure SnkS (w : World) (base g : Nat) (v : Value) (zs : List Int) : Prop where
 held : Held w g 3 #[.int .i64 zs.length]
 hg : base ≤ g
 own : w.ownsRow base 5 1 v 0 []
theorem SnkP.below {zs : List Int} (h : SnkP w base g v zs) (hb : Below w.heap.size w w') : SnkP w' base g v zs := ⟨h.held.below hb h.held.lt, h.hg, own_below h.own hb⟩
def LeftP (w : World) (base g : Nat) (v : Value) (zs : List Int) (w' : World) : Prop := ∃ v', SnkP w' base g v' zs ∧ But w w' v.ownBlock g ∧ ∀ j, v'.ownBlock = some j → v.ownBlock = some j ∨ w.heap.size ≤ j
theorem LeftP.of_below {zs : List Int} (h : SnkP w base g v zs) (hb : Below w.heap.size w w') : LeftP w base g v zs w' := ⟨v, h.below hb, But.of_below hb _ _, fun _ e => .inl e⟩
theorem LeftP.trans {v1 : Value} {zs : List Int} (hb : But w w' v.ownBlock g) (hv : ∀ j, v1.ownBlock = some j → v.ownBlock = some j ∨ w.heap.size ≤ j) (k : LeftP w' base g v1 zs w2) : LeftP w base g v zs w2 := by
 obtain ⟨v2, h1, h2, h3⟩ := k
 refine ⟨v2, h1, hb.trans h2 hv, fun j e => ?_⟩
 rcases h3 j e with h | h
 ·exact hv j h
 ·exact .inr (Nat.le_trans hb.size h)
theorem LeftP.ahead {zs : List Int} (hb : Below w.heap.size w w') (k : LeftP w' base g v zs w2) : LeftP w base g v zs w2 := LeftP.trans (But.of_below hb _ _) (fun _ e => .inl e) k
theorem LeftP.behind {zs : List Int} (k : LeftP w base g v zs w') (hb : Below w'.heap.size w' w2) : LeftP w base g v zs w2 := by
 obtain ⟨v1, h1, h2, h3⟩ := k
 exact LeftP.trans h2 h3 (LeftP.of_below h1 hb)
theorem LeftP.low {zs ys : List Int} (k : LeftP w base g v zs w') (h : SnkP w base g v ys) (hn : base ≤ w.heap.size) : Below base w w' := by
 obtain ⟨v1, h1, h2, h3⟩ := k
 exact h2.low hn h.hg (fun j e => (World.ownsRow.lt h.own j e).1)
theorem LeftP.size {zs : List Int} (k : LeftP w base g v zs w') : w.heap.size ≤ w'.heap.size := by
 obtain ⟨v1, h1, h2, h3⟩ := k
 exact h2.size
theorem LeftP.held {zs ys : List Int} {j : Nat} {t : TypeId} {cs : Array Value} (k : LeftP w base g v zs w') (h : SnkP w base g v ys) (hk : Held w j t cs) (h1 : t ≠ 22) (h2 : t ≠ 5) : Held w' j t cs := by
 obtain ⟨v1, q1, q2, q3⟩ := k
 exact apart_held h.held h.own q2 hk h1 h2
theorem LeftP.keep {zs ys : List Int} {n2 k2 size : Nat} {e : TypeId} {vx : Value} {ux : List Value} (k : LeftP w base g v zs w') (h : SnkP w base g v ys) (hx : w.ownsRow n2 e size vx k2 ux) (h1 : e ≠ 22) (h2 : e ≠ 5) : w'.ownsRow n2 e size vx k2 ux := by
 obtain ⟨v1, q1, q2, q3⟩ := k
 exact apart_own h.held h.own q2 hx h1 h2
theorem LeftP.dict {zs ys : List Int} {b2 D r : Nat} {vd : Value} {L : List (List Int)} (k : LeftP w base g v zs w') (h : SnkP w base g v ys) (hd : DictAt w b2 D r vd L) : DictAt w' b2 D r vd L := by
 obtain ⟨v1, q1, q2, q3⟩ := k
 exact apart_dict h.held h.own q2 hd (by decide) (by decide)
theorem SnkS.below {zs : List Int} (h : SnkS w base g v zs) (hb : Below w.heap.size w w') : SnkS w' base g v zs := ⟨h.held.below hb h.held.lt, h.hg, own_below h.own hb⟩
def LeftS (w : World) (base g : Nat) (v : Value) (zs : List Int) (w' : World) : Prop := ∃ v', SnkS w' base g v' zs ∧ But w w' v.ownBlock g ∧ ∀ j, v'.ownBlock = some j → v.ownBlock = some j ∨ w.heap.size ≤ j
theorem LeftS.of_below {zs : List Int} (h : SnkS w base g v zs) (hb : Below w.heap.size w w') : LeftS w base g v zs w' := ⟨v, h.below hb, But.of_below hb _ _, fun _ e => .inl e⟩
theorem LeftS.trans {v1 : Value} {zs : List Int} (hb : But w w' v.ownBlock g) (hv : ∀ j, v1.ownBlock = some j → v.ownBlock = some j ∨ w.heap.size ≤ j) (k : LeftS w' base g v1 zs w2) : LeftS w base g v zs w2 := by
 obtain ⟨v2, h1, h2, h3⟩ := k
 refine ⟨v2, h1, hb.trans h2 hv, fun j e => ?_⟩
 rcases h3 j e with h | h
 ·exact hv j h
 ·exact .inr (Nat.le_trans hb.size h)
theorem LeftS.ahead {zs : List Int} (hb : Below w.heap.size w w') (k : LeftS w' base g v zs w2) : LeftS w base g v zs w2 := LeftS.trans (But.of_below hb _ _) (fun _ e => .inl e) k
theorem LeftS.behind {zs : List Int} (k : LeftS w base g v zs w') (hb : Below w'.heap.size w' w2) : LeftS w base g v zs w2 := by
 obtain ⟨v1, h1, h2, h3⟩ := k
 exact LeftS.trans h2 h3 (LeftS.of_below h1 hb)
theorem LeftS.low {zs ys : List Int} (k : LeftS w base g v zs w') (h : SnkS w base g v ys) (hn : base ≤ w.heap.size) : Below base w w' := by
 obtain ⟨v1, h1, h2, h3⟩ := k
 exact h2.low hn h.hg (fun j e => (World.ownsRow.lt h.own j e).1)
theorem LeftS.size {zs : List Int} (k : LeftS w base g v zs w') : w.heap.size ≤ w'.heap.size := by
 obtain ⟨v1, h1, h2, h3⟩ := k
 exact h2.size
theorem LeftS.held {zs ys : List Int} {j : Nat} {t : TypeId} {cs : Array Value} (k : LeftS w base g v zs w') (h : SnkS w base g v ys) (hk : Held w j t cs) (h1 : t ≠ 3) (h2 : t ≠ 5) : Held w' j t cs := by
 obtain ⟨v1, q1, q2, q3⟩ := k
 exact apart_held h.held h.own q2 hk h1 h2
theorem LeftS.keep {zs ys : List Int} {n2 k2 size : Nat} {e : TypeId} {vx : Value} {ux : List Value} (k : LeftS w base g v zs w') (h : SnkS w base g v ys) (hx : w.ownsRow n2 e size vx k2 ux) (h1 : e ≠ 3) (h2 : e ≠ 5) : w'.ownsRow n2 e size vx k2 ux := by
 obtain ⟨v1, q1, q2, q3⟩ := k
 exact apart_own h.held h.own q2 hx h1 h2
theorem LeftS.dict {zs ys : List Int} {b2 D r : Nat} {vd : Value} {L : List (List Int)} (k : LeftS w base g v zs w') (h : SnkS w base g v ys) (hd : DictAt w b2 D r vd L) : DictAt w' b2 D r vd L := by
 obtain ⟨v1, q1, q2, q3⟩ := k
 exact apart_dict h.held h.own q2 hd (by decide) (by decide)
end
theorem put_nil_own (n : Nat) (hn : n < 18446744073709551616) (w : World) :
  Calls Tryz.prog 137 #[.slice none 0 0, .int .u64 n] w fun e W' => ∃ A c, e = .returned (.slice A (encI n).length c) ∧ W'.ownsRow w.heap.size 5 1 (.slice A (encI n).length c) (encI n).length ((encI n).map (.int .u8)) ∧ Below w.heap.size w W' := by
 refine (put_nil n hn w).mono ?_
 rintro e w1 ⟨v, rfl, h1, h2⟩
 obtain ⟨A, c, rfl⟩ := own_form h1
 exact ⟨A, c, rfl, h1, h2⟩
theorem bput_nil_own (s : List Int) (hb : ∀ x ∈ s, 0 ≤ x ∧ x < 256) (hs : s.length ≤ 1000000000) (w : World) :
  Calls Tryz.prog 139 #[.slice none 0 0, .string (strOfNums s)] w fun e W' => ∃ A c, e = .returned (.slice A (encT s).length c) ∧ W'.ownsRow w.heap.size 5 1 (.slice A (encT s).length c) (encT s).length ((encT s).map (.int .u8)) ∧ Below w.heap.size w W' := by
 have h := bput_any none 0 [] s hb (by simp) hs w (Row.nil _ _)
 refine h.mono ?_
 rintro e w1 ⟨v, rfl, h1, h2⟩
 simp only [List.nil_append, List.length_nil, Nat.zero_add] at h1
 obtain ⟨A, c, rfl⟩ := own_form h1
 exact ⟨A, c, rfl, h1, h2⟩
theorem left_put {w w1 w2 : World} {base g : Nat} {v : Value} {zs ys : List Int} {A : Option Addr} {c : Nat} (h : SnkP w base g v zs) (hb : Below w.heap.size w w1) (ho : w2.ownsRow base 5 1 (.slice A ys.length c) ys.length (ys.map (.int .u8))) (hg : w1.grownBy w2 v.ownBlock)
  (hat : (Value.slice A ys.length c).ownBlock = v.ownBlock ∨ (Value.slice A ys.length c).ownBlock = some w1.heap.size) (hh : Held w2 g 22 #[v]) : LeftP w base g v ys (w2.setCell ⟨g, 0, none⟩ (.slice A ys.length c)) := by
 have hh2 := hh.put 0 (.slice A ys.length c)
 have hne := own_not_held ho hh (by decide)
 refine ⟨.slice A ys.length c, ⟨by simpa using hh2, h.hg, ownsRow_setCell_other ho (Ne.symm hne) _⟩, ?_, fun j e => ?_⟩
 ·exact (But.of_below hb _ _).trans ((But.of_row hg g).trans (But.of_one (grown_put w2 g 0 _) v.ownBlock) (fun j e => .inl e)) (fun j e => .inl e)
 ·rcases hat with q | q
  ·exact .inl (q ▸ e)
  ·rw [q] at e
   cases e
   exact .inr hb.size
theorem putn_any {w : World} {base g : Nat} {v : Value} {zs : List Int} (h : SnkP w base g v zs) (n : Nat) (hn : n < 18446744073709551616) (hl : zs.length ≤ 10000000000) (hbs : base ≤ w.heap.size) :
  Calls Tryz.prog 136 #[.int .u64 n, .pointer (some ⟨g, 0, none⟩)] w fun e w' => e = .returned (.tuple #[]) ∧ LeftP w base g v (zs ++ encI n) w' := by
 obtain ⟨i0, hi, hz0, hz1, hz2⟩ := info_parts Tryz.infoU8
 have hlen : (encI n).length ≤ 1000000100 := by have := (encI_ten hn).2; omega
 have HC := hid (fun W => put_nil_own n hn W)
 have HH := hid (fun (W : World) (hb : Below w.heap.size w W) => (h.below hb))
 have h0 := h
 have hng := own_not_held h.own h.held (by decide)
 generalize encI n = E at hlen HC ⊢
 clear h
 go_enter Tryz.func136, Tryz.ntmps136
 go_wp2_with fail
 refine wp_region_held_drew (S := fun _ => True) (by kernel_rfl) trivial (fun _ => ?_)
 refine wpAnyH_take (i := 1) (v := .int .u64 n) rfl (by kernel_rfl) (by kernel_rfl) (by kernel_rfl) (fun _ _ _ h => h) (Or.inl ⟨by rfl, fun W _ => by go_simp⟩) trivial ?_
 try simp only [pU]
 refine wpAnyH_ready (rs := [0, 2]) (by kernel_rfl) (by simp) ?_
 refine AllReadyH.cons rfl (fun K hK => ?_) (AllReadyH.cons rfl (fun K hK => ?_) AllReadyH.nil)
 ·skip
  have y0 := (HH.out _ (Below.refl _ _).drew).held.cell 0
  simp at y0
  go_simp
  clear y0
  refine hK.out _ _ trivial (fun _ => ?_)
  clear hK K
  try simp only [pU]
  refine wpAnyH_ready (rs := [2]) (by kernel_rfl) (by simp) ?_
  refine AllReadyH.cons rfl (fun K hK => ?_) AllReadyH.nil
  go_simp
  refine (HC.out _).mono ?_
  rintro e w1 ⟨A1, c1, rfl, hown1, hb1⟩
  have b1 : Below w.heap.size w w1 := (Below.refl _ _).drew.trans hb1
  refine hK.out _ _ trivial (fun _ => ?_)
  clear hK K
  try simp only [pU]
  refine wpAnyH_ready (rs := [3]) (by kernel_rfl) (by simp) ?_
  refine AllReadyH.cons rfl (fun K hK => ?_) AllReadyH.nil
  refine step_append_erow_at (by rfl) (.tmp 3) (.tmp 5) 22 5 (by rfl) base i0 (.int .u8 0) 1 1 Tryz.underlying22 hi hz0 hz1 hz2 rfl (by decide) v zs.length (zs.map (.int .u8)) (by rfl) (HH.out _ b1).own _ (.slice A1 E.length c1) E.length (E.map (.int .u8)) (by rfl) (ERow.of_own hown1) (by simp) (by simp [Value.oneCell']) (by simp only [maxLen]; omega) (by omega) (by have := b1.size; omega) (zs ++ E).length (by simp) ((zs ++ E).map (.int .u8)) (by simp) ?_
  intro A c w2 hown2 hg2 hat2
  refine hK.out _ _ trivial (fun _ => ?_)
  clear hK K
  try simp only [pU]
  refine wpAnyH_ready (rs := [4]) (by kernel_rfl) (by simp) ?_
  refine AllReadyH.cons rfl (fun K hK => ?_) AllReadyH.nil
  have hh2 := (HH.out _ b1).held.grown hg2 hng
  have y0 := hh2.cell 0
  have yf := hh2.frozen 0
  simp at y0
  go_simp
  clear y0 yf
  refine hK.out _ _ trivial (fun _ => ?_)
  clear hK K
  try simp only [pU]
  refine wpAnyH_done (by kernel_rfl) ?_ _
  go_wp2_with fail
  go_end0
  refine ⟨rfl, ?_⟩
  rw [← List.length_append]
  exact left_put h0 b1 hown2 hg2 hat2 hh2
 ·skip
  go_simp
  refine (HC.out _).mono ?_
  rintro e w1 ⟨A1, c1, rfl, hown1, hb1⟩
  have b1 : Below w.heap.size w w1 := (Below.refl _ _).drew.trans hb1
  refine hK.out _ _ trivial (fun _ => ?_)
  clear hK K
  try simp only [pU]
  refine wpAnyH_ready (rs := [0]) (by kernel_rfl) (by simp) ?_
  refine AllReadyH.cons rfl (fun K hK => ?_) AllReadyH.nil
  have y0 := (HH.out _ b1).held.cell 0
  simp at y0
  go_simp
  clear y0
  refine hK.out _ _ trivial (fun _ => ?_)
  clear hK K
  try simp only [pU]
  refine wpAnyH_ready (rs := [3]) (by kernel_rfl) (by simp) ?_
  refine AllReadyH.cons rfl (fun K hK => ?_) AllReadyH.nil
  refine step_append_erow_at (by rfl) (.tmp 3) (.tmp 5) 22 5 (by rfl) base i0 (.int .u8 0) 1 1 Tryz.underlying22 hi hz0 hz1 hz2 rfl (by decide) v zs.length (zs.map (.int .u8)) (by rfl) (HH.out _ b1).own _ (.slice A1 E.length c1) E.length (E.map (.int .u8)) (by rfl) (ERow.of_own hown1) (by simp) (by simp [Value.oneCell']) (by simp only [maxLen]; omega) (by omega) (by have := b1.size; omega) (zs ++ E).length (by simp) ((zs ++ E).map (.int .u8)) (by simp) ?_
  intro A c w2 hown2 hg2 hat2
  refine hK.out _ _ trivial (fun _ => ?_)
  clear hK K
  try simp only [pU]
  refine wpAnyH_ready (rs := [4]) (by kernel_rfl) (by simp) ?_
  refine AllReadyH.cons rfl (fun K hK => ?_) AllReadyH.nil
  have hh2 := (HH.out _ b1).held.grown hg2 hng
  have y0 := hh2.cell 0
  have yf := hh2.frozen 0
  simp at y0
  go_simp
  clear y0 yf
  refine hK.out _ _ trivial (fun _ => ?_)
  clear hK K
  try simp only [pU]
  refine wpAnyH_done (by kernel_rfl) ?_ _
  go_wp2_with fail
  go_end0
  refine ⟨rfl, ?_⟩
  rw [← List.length_append]
  exact left_put h0 b1 hown2 hg2 hat2 hh2
theorem putt_any {w : World} {base g : Nat} {v : Value} {zs : List Int} (h : SnkP w base g v zs) (s : List Int) (hsb : ∀ x ∈ s, 0 ≤ x ∧ x < 256) (hs : s.length ≤ 1000000000) (hl : zs.length ≤ 10000000000) (hbs : base ≤ w.heap.size) :
  Calls Tryz.prog 138 #[.string (strOfNums s), .pointer (some ⟨g, 0, none⟩)] w fun e w' => e = .returned (.tuple #[]) ∧ LeftP w base g v (zs ++ encT s) w' := by
 obtain ⟨i0, hi, hz0, hz1, hz2⟩ := info_parts Tryz.infoU8
 have hlen : (encT s).length ≤ 1000000100 := by rw [encT_length]; have := (encI_ten (n := s.length) (by omega)).2; omega
 have HC := hid (fun W => bput_nil_own s hsb hs W)
 have HH := hid (fun (W : World) (hb : Below w.heap.size w W) => (h.below hb))
 have h0 := h
 have hng := own_not_held h.own h.held (by decide)
 generalize encT s = E at hlen HC ⊢
 clear h
 go_enter Tryz.func138, Tryz.ntmps138
 go_wp2_with fail
 refine wp_region_held_drew (S := fun _ => True) (by kernel_rfl) trivial (fun _ => ?_)
 refine wpAnyH_take (i := 1) (v := .string (strOfNums s)) rfl (by kernel_rfl) (by kernel_rfl) (by kernel_rfl) (fun _ _ _ h => h) (Or.inl ⟨by rfl, fun W _ => by go_simp⟩) trivial ?_
 try simp only [pU]
 refine wpAnyH_ready (rs := [0, 2]) (by kernel_rfl) (by simp) ?_
 refine AllReadyH.cons rfl (fun K hK => ?_) (AllReadyH.cons rfl (fun K hK => ?_) AllReadyH.nil)
 ·skip
  have y0 := (HH.out _ (Below.refl _ _).drew).held.cell 0
  simp at y0
  go_simp
  clear y0
  refine hK.out _ _ trivial (fun _ => ?_)
  clear hK K
  try simp only [pU]
  refine wpAnyH_ready (rs := [2]) (by kernel_rfl) (by simp) ?_
  refine AllReadyH.cons rfl (fun K hK => ?_) AllReadyH.nil
  go_simp
  refine (HC.out _).mono ?_
  rintro e w1 ⟨A1, c1, rfl, hown1, hb1⟩
  have b1 : Below w.heap.size w w1 := (Below.refl _ _).drew.trans hb1
  refine hK.out _ _ trivial (fun _ => ?_)
  clear hK K
  try simp only [pU]
  refine wpAnyH_ready (rs := [3]) (by kernel_rfl) (by simp) ?_
  refine AllReadyH.cons rfl (fun K hK => ?_) AllReadyH.nil
  refine step_append_erow_at (by rfl) (.tmp 3) (.tmp 5) 22 5 (by rfl) base i0 (.int .u8 0) 1 1 Tryz.underlying22 hi hz0 hz1 hz2 rfl (by decide) v zs.length (zs.map (.int .u8)) (by rfl) (HH.out _ b1).own _ (.slice A1 E.length c1) E.length (E.map (.int .u8)) (by rfl) (ERow.of_own hown1) (by simp) (by simp [Value.oneCell']) (by simp only [maxLen]; omega) (by omega) (by have := b1.size; omega) (zs ++ E).length (by simp) ((zs ++ E).map (.int .u8)) (by simp) ?_
  intro A c w2 hown2 hg2 hat2
  refine hK.out _ _ trivial (fun _ => ?_)
  clear hK K
  try simp only [pU]
  refine wpAnyH_ready (rs := [4]) (by kernel_rfl) (by simp) ?_
  refine AllReadyH.cons rfl (fun K hK => ?_) AllReadyH.nil
  have hh2 := (HH.out _ b1).held.grown hg2 hng
  have y0 := hh2.cell 0
  have yf := hh2.frozen 0
  simp at y0
  go_simp
  clear y0 yf
  refine hK.out _ _ trivial (fun _ => ?_)
  clear hK K
  try simp only [pU]
  refine wpAnyH_done (by kernel_rfl) ?_ _
  go_wp2_with fail
  go_end0
  refine ⟨rfl, ?_⟩
  rw [← List.length_append]
  exact left_put h0 b1 hown2 hg2 hat2 hh2
 ·skip
  go_simp
  refine (HC.out _).mono ?_
  rintro e w1 ⟨A1, c1, rfl, hown1, hb1⟩
  have b1 : Below w.heap.size w w1 := (Below.refl _ _).drew.trans hb1
  refine hK.out _ _ trivial (fun _ => ?_)
  clear hK K
  try simp only [pU]
  refine wpAnyH_ready (rs := [0]) (by kernel_rfl) (by simp) ?_
  refine AllReadyH.cons rfl (fun K hK => ?_) AllReadyH.nil
  have y0 := (HH.out _ b1).held.cell 0
  simp at y0
  go_simp
  clear y0
  refine hK.out _ _ trivial (fun _ => ?_)
  clear hK K
  try simp only [pU]
  refine wpAnyH_ready (rs := [3]) (by kernel_rfl) (by simp) ?_
  refine AllReadyH.cons rfl (fun K hK => ?_) AllReadyH.nil
  refine step_append_erow_at (by rfl) (.tmp 3) (.tmp 5) 22 5 (by rfl) base i0 (.int .u8 0) 1 1 Tryz.underlying22 hi hz0 hz1 hz2 rfl (by decide) v zs.length (zs.map (.int .u8)) (by rfl) (HH.out _ b1).own _ (.slice A1 E.length c1) E.length (E.map (.int .u8)) (by rfl) (ERow.of_own hown1) (by simp) (by simp [Value.oneCell']) (by simp only [maxLen]; omega) (by omega) (by have := b1.size; omega) (zs ++ E).length (by simp) ((zs ++ E).map (.int .u8)) (by simp) ?_
  intro A c w2 hown2 hg2 hat2
  refine hK.out _ _ trivial (fun _ => ?_)
  clear hK K
  try simp only [pU]
  refine wpAnyH_ready (rs := [4]) (by kernel_rfl) (by simp) ?_
  refine AllReadyH.cons rfl (fun K hK => ?_) AllReadyH.nil
  have hh2 := (HH.out _ b1).held.grown hg2 hng
  have y0 := hh2.cell 0
  have yf := hh2.frozen 0
  simp at y0
  go_simp
  clear y0 yf
  refine hK.out _ _ trivial (fun _ => ?_)
  clear hK K
  try simp only [pU]
  refine wpAnyH_done (by kernel_rfl) ?_ _
  go_wp2_with fail
  go_end0
  refine ⟨rfl, ?_⟩
  rw [← List.length_append]
  exact left_put h0 b1 hown2 hg2 hat2 hh2
theorem left_sum {w w1 : World} {base g : Nat} {v : Value} {zs ys : List Int} {Z E : Nat} (h : SnkS w base g v zs) (hb : Below w.heap.size w w1) (hE : ys.length = E) (hZ : zs.length = Z) : LeftS w base g v (zs ++ ys) (w1.setCell ⟨g, 0, none⟩ (.int .i64 ((Z : Int) + (E : Int)))) := by
 have h1 := h.below hb
 have hh2 := h1.held.put 0 (.int .i64 ((Z : Int) + (E : Int)))
 have hne := own_not_held h1.own h1.held (by decide)
 refine ⟨v, ⟨by rw [List.length_append, hE, hZ]; simpa using hh2, h.hg, ownsRow_setCell_other h1.own (Ne.symm hne) _⟩, ?_, fun j e => .inl e⟩
 exact (But.of_below hb _ _).trans (But.of_one (grown_put w1 g 0 _) v.ownBlock) (fun j e => .inl e)
theorem sumn_any {w : World} {base g : Nat} {v : Value} {zs : List Int} (h : SnkS w base g v zs) (n : Nat) (hn : n < 18446744073709551616) (hl : zs.length ≤ 10000000000) :
  Calls Tryz.prog 163 #[.int .u64 n, .pointer (some ⟨g, 0, none⟩)] w fun e w' => e = .returned (.tuple #[]) ∧ LeftS w base g v (zs ++ encI n) w' := by
 have hlen : (encI n).length ≤ 1000000100 := by have := (encI_ten hn).2; omega
 have HC := hid (fun W => size_any n hn W)
 have HH := hid (fun (W : World) (hb : Below w.heap.size w W) => (h.below hb))
 have h0 := h
 obtain ⟨E, hE⟩ : ∃ E, (encI n).length = E := ⟨_, rfl⟩
 rw [hE] at hlen HC
 obtain ⟨Z, hZ⟩ : ∃ Z, zs.length = Z := ⟨_, rfl⟩
 have HWR := hid (show IntKind.i64.wrap ((Z : Int) + (E : Int)) = (Z : Int) + (E : Int) from IntWalk.i64_in _ (by omega))
 have HZ := hid hZ
 have HL := hid hE
 clear h hE hZ
 go_enter Tryz.func163, Tryz.ntmps163
 go_wp2_with fail
 refine wp_region_held_drew (S := fun _ => True) (by kernel_rfl) trivial (fun _ => ?_)
 refine wpAnyH_take (i := 1) (v := .int .u64 n) rfl (by kernel_rfl) (by kernel_rfl) (by kernel_rfl) (fun _ _ _ h => h) (Or.inl ⟨by rfl, fun W _ => by go_simp⟩) trivial ?_
 try simp only [pU]
 refine wpAnyH_ready (rs := [0, 2]) (by kernel_rfl) (by simp) ?_
 refine AllReadyH.cons rfl (fun K hK => ?_) (AllReadyH.cons rfl (fun K hK => ?_) AllReadyH.nil)
 ·skip
  have y0 := (HH.out _ (Below.refl _ _).drew).held.cell 0
  simp at y0
  rw [HZ.out] at y0
  go_simp
  clear y0
  refine hK.out _ _ trivial (fun _ => ?_)
  clear hK K
  try simp only [pU]
  refine wpAnyH_ready (rs := [2]) (by kernel_rfl) (by simp) ?_
  refine AllReadyH.cons rfl (fun K hK => ?_) AllReadyH.nil
  go_simp
  refine (HC.out _).mono ?_
  rintro e w1 ⟨rfl, hb1⟩
  have b1 : Below w.heap.size w w1 := (Below.refl _ _).drew.trans hb1
  refine hK.out _ _ trivial (fun _ => ?_)
  clear hK K
  try simp only [pU]
  refine wpAnyH_take (i := 3) (v := .int .i64 ((Z : Int) + (E : Int))) rfl (by kernel_rfl) (by kernel_rfl) (by kernel_rfl) (fun _ _ _ h => h) (Or.inl ⟨by rfl, fun W _ => by have hwr := HWR.out; go_simp⟩) trivial ?_
  try simp only [pU]
  refine wpAnyH_ready (rs := [4]) (by kernel_rfl) (by simp) ?_
  refine AllReadyH.cons rfl (fun K hK => ?_) AllReadyH.nil
  have hh2 := (HH.out _ b1).held
  have y0 := hh2.cell 0
  have yf := hh2.frozen 0
  simp at y0
  rw [HZ.out] at y0
  go_simp
  clear y0 yf
  refine hK.out _ _ trivial (fun _ => ?_)
  clear hK K
  try simp only [pU]
  refine wpAnyH_done (by kernel_rfl) ?_ _
  go_wp2_with fail
  go_end0
  exact ⟨rfl, left_sum h0 b1 HL.out HZ.out⟩
 ·skip
  go_simp
  refine (HC.out _).mono ?_
  rintro e w1 ⟨rfl, hb1⟩
  have b1 : Below w.heap.size w w1 := (Below.refl _ _).drew.trans hb1
  refine hK.out _ _ trivial (fun _ => ?_)
  clear hK K
  try simp only [pU]
  refine wpAnyH_ready (rs := [0]) (by kernel_rfl) (by simp) ?_
  refine AllReadyH.cons rfl (fun K hK => ?_) AllReadyH.nil
  have y0 := (HH.out _ b1).held.cell 0
  simp at y0
  rw [HZ.out] at y0
  go_simp
  clear y0
  refine hK.out _ _ trivial (fun _ => ?_)
  clear hK K
  try simp only [pU]
  refine wpAnyH_take (i := 3) (v := .int .i64 ((Z : Int) + (E : Int))) rfl (by kernel_rfl) (by kernel_rfl) (by kernel_rfl) (fun _ _ _ h => h) (Or.inl ⟨by rfl, fun W _ => by have hwr := HWR.out; go_simp⟩) trivial ?_
  try simp only [pU]
  refine wpAnyH_ready (rs := [4]) (by kernel_rfl) (by simp) ?_
  refine AllReadyH.cons rfl (fun K hK => ?_) AllReadyH.nil
  have hh2 := (HH.out _ b1).held
  have y0 := hh2.cell 0
  have yf := hh2.frozen 0
  simp at y0
  rw [HZ.out] at y0
  go_simp
  clear y0 yf
  refine hK.out _ _ trivial (fun _ => ?_)
  clear hK K
  try simp only [pU]
  refine wpAnyH_done (by kernel_rfl) ?_ _
  go_wp2_with fail
  go_end0
  exact ⟨rfl, left_sum h0 b1 HL.out HZ.out⟩
theorem sumt_any {w : World} {base g : Nat} {v : Value} {zs : List Int} (h : SnkS w base g v zs) (s : List Int) (hsb : ∀ x ∈ s, 0 ≤ x ∧ x < 256) (hs : s.length ≤ 1000000000) (hl : zs.length ≤ 10000000000) :
  Calls Tryz.prog 164 #[.string (strOfNums s), .pointer (some ⟨g, 0, none⟩)] w fun e w' => e = .returned (.tuple #[]) ∧ LeftS w base g v (zs ++ encT s) w' := by
 have hlen : (encT s).length ≤ 1000000100 := by rw [encT_length]; have := (encI_ten (n := s.length) (by omega)).2; omega
 have HC := hid (fun W => bput_nil_own s hsb hs W)
 have HH := hid (fun (W : World) (hb : Below w.heap.size w W) => (h.below hb))
 have h0 := h
 obtain ⟨E, hE⟩ : ∃ E, (encT s).length = E := ⟨_, rfl⟩
 rw [hE] at hlen HC
 obtain ⟨Z, hZ⟩ : ∃ Z, zs.length = Z := ⟨_, rfl⟩
 have HWR := hid (show IntKind.i64.wrap ((Z : Int) + (E : Int)) = (Z : Int) + (E : Int) from IntWalk.i64_in _ (by omega))
 have HZ := hid hZ
 have HL := hid hE
 clear h hE hZ
 go_enter Tryz.func164, Tryz.ntmps164
 go_wp2_with fail
 refine wp_region_held_drew (S := fun _ => True) (by kernel_rfl) trivial (fun _ => ?_)
 refine wpAnyH_take (i := 1) (v := .string (strOfNums s)) rfl (by kernel_rfl) (by kernel_rfl) (by kernel_rfl) (fun _ _ _ h => h) (Or.inl ⟨by rfl, fun W _ => by go_simp⟩) trivial ?_
 try simp only [pU]
 refine wpAnyH_ready (rs := [0, 2]) (by kernel_rfl) (by simp) ?_
 refine AllReadyH.cons rfl (fun K hK => ?_) (AllReadyH.cons rfl (fun K hK => ?_) AllReadyH.nil)
 ·skip
  have y0 := (HH.out _ (Below.refl _ _).drew).held.cell 0
  simp at y0
  rw [HZ.out] at y0
  go_simp
  clear y0
  refine hK.out _ _ trivial (fun _ => ?_)
  clear hK K
  try simp only [pU]
  refine wpAnyH_ready (rs := [2]) (by kernel_rfl) (by simp) ?_
  refine AllReadyH.cons rfl (fun K hK => ?_) AllReadyH.nil
  go_simp
  refine (HC.out _).mono ?_
  rintro e w1 ⟨A1, c1, rfl, hown1, hb1⟩
  have b1 : Below w.heap.size w w1 := (Below.refl _ _).drew.trans hb1
  refine hK.out _ _ trivial (fun _ => ?_)
  clear hK K
  try simp only [pU]
  refine wpAnyH_take (i := 3) (v := .int .i64 (E : Int)) rfl (by kernel_rfl) (by kernel_rfl) (by kernel_rfl) (fun _ _ _ h => h) (Or.inl ⟨by rfl, fun W _ => by go_simp⟩) trivial ?_
  try simp only [pU]
  refine wpAnyH_take (i := 4) (v := .int .i64 ((Z : Int) + (E : Int))) rfl (by kernel_rfl) (by kernel_rfl) (by kernel_rfl) (fun _ _ _ h => h) (Or.inl ⟨by rfl, fun W _ => by have hwr := HWR.out; go_simp⟩) trivial ?_
  try simp only [pU]
  refine wpAnyH_ready (rs := [5]) (by kernel_rfl) (by simp) ?_
  refine AllReadyH.cons rfl (fun K hK => ?_) AllReadyH.nil
  have hh2 := (HH.out _ b1).held
  have y0 := hh2.cell 0
  have yf := hh2.frozen 0
  simp at y0
  rw [HZ.out] at y0
  go_simp
  clear y0 yf
  refine hK.out _ _ trivial (fun _ => ?_)
  clear hK K
  try simp only [pU]
  refine wpAnyH_done (by kernel_rfl) ?_ _
  go_wp2_with fail
  go_end0
  exact ⟨rfl, left_sum h0 b1 HL.out HZ.out⟩
 ·skip
  go_simp
  refine (HC.out _).mono ?_
  rintro e w1 ⟨A1, c1, rfl, hown1, hb1⟩
  have b1 : Below w.heap.size w w1 := (Below.refl _ _).drew.trans hb1
  refine hK.out _ _ trivial (fun _ => ?_)
  clear hK K
  try simp only [pU]
  refine wpAnyH_take (i := 3) (v := .int .i64 (E : Int)) rfl (by kernel_rfl) (by kernel_rfl) (by kernel_rfl) (fun _ _ _ h => h) (Or.inl ⟨by rfl, fun W _ => by go_simp⟩) trivial ?_
  try simp only [pU]
  refine wpAnyH_ready (rs := [0]) (by kernel_rfl) (by simp) ?_
  refine AllReadyH.cons rfl (fun K hK => ?_) AllReadyH.nil
  have y0 := (HH.out _ b1).held.cell 0
  simp at y0
  rw [HZ.out] at y0
  go_simp
  clear y0
  refine hK.out _ _ trivial (fun _ => ?_)
  clear hK K
  try simp only [pU]
  refine wpAnyH_take (i := 4) (v := .int .i64 ((Z : Int) + (E : Int))) rfl (by kernel_rfl) (by kernel_rfl) (by kernel_rfl) (fun _ _ _ h => h) (Or.inl ⟨by rfl, fun W _ => by have hwr := HWR.out; go_simp⟩) trivial ?_
  try simp only [pU]
  refine wpAnyH_ready (rs := [5]) (by kernel_rfl) (by simp) ?_
  refine AllReadyH.cons rfl (fun K hK => ?_) AllReadyH.nil
  have hh2 := (HH.out _ b1).held
  have y0 := hh2.cell 0
  have yf := hh2.frozen 0
  simp at y0
  rw [HZ.out] at y0
  go_simp
  clear y0 yf
  refine hK.out _ _ trivial (fun _ => ?_)
  clear hK K
  try simp only [pU]
  refine wpAnyH_done (by kernel_rfl) ?_ _
  go_wp2_with fail
  go_end0
  exact ⟨rfl, left_sum h0 b1 HL.out HZ.out⟩
abbrev TabV (x : Nat) : Value := .agg #[.nilFunc, .func (.func 193) #[] #[], .func (.func 195) #[] #[.pointer (some ⟨x, 0, none⟩)]]
theorem table_any (D : Nat) (w : World) : Calls Tryz.prog 167 #[.pointer (some ⟨D, 0, none⟩)] w fun e w' => ∃ x, e = .returned (TabV x) ∧ Held w' x 257 #[.pointer (some ⟨D, 0, none⟩)] ∧ w.heap.size ≤ x ∧ Below w.heap.size w w' := by
 obtain ⟨N, hN⟩ : ∃ N, w.heap.size = N := ⟨_, rfl⟩
 obtain ⟨w1, hw1⟩ : ∃ w1, w.alloc (.cells #[.pointer (some ⟨D, 0, none⟩)] 257) = w1 := ⟨_, rfl⟩
 have b1 : Below N w w1 := by rw [← hw1]; exact (Below.refl _ _).alloc (by omega) _
 have s1 : w1.heap.size = N + 1 := by rw [← hw1, World.size_alloc, hN]
 have h1 : Held w1 N 257 #[.pointer (some ⟨D, 0, none⟩)] := by rw [← hw1, ← hN]; exact heap_alloc_new w _
 obtain ⟨w2, hw2⟩ : ∃ w2, w1.alloc (.cells #[.nilFunc, .nilFunc, .nilFunc] 261) = w2 := ⟨_, rfl⟩
 have b2 : Below (N + 1) w1 w2 := by rw [← hw2]; exact (Below.refl _ _).alloc (by omega) _
 have h2 : Held w2 (N + 1) 261 #[.nilFunc, .nilFunc, .nilFunc] := by rw [← hw2, ← s1]; exact heap_alloc_new w1 _
 obtain ⟨⟨f0, f1, f2⟩, c0, c1, c2⟩ := cG3 h2
 simp at c0 c1 c2
 obtain ⟨F1, hF1⟩ : ∃ F, Value.func (.func 193) #[] #[] = F := ⟨_, rfl⟩
 obtain ⟨F2, hF2⟩ : ∃ F, Value.func (.func 195) #[] #[.pointer (some ⟨N, 0, none⟩)] = F := ⟨_, rfl⟩
 have p0 := h2.put 0 .nilFunc
 have p1 := p0.put 1 F1
 have p2 := p1.put 2 F2
 have q0 : (store ⟨N + 1, 0, none⟩ .nilFunc).run Tryz.prog w2 = .ok () (w2.setCell ⟨N + 1, 0, none⟩ .nilFunc) := by rw [run_store _ _ _ _ _ rfl, c0]; simp [f0]
 have q1 : (store ⟨N + 1, 1, none⟩ F1).run Tryz.prog (w2.setCell ⟨N + 1, 0, none⟩ .nilFunc) = .ok () ((w2.setCell ⟨N + 1, 0, none⟩ .nilFunc).setCell ⟨N + 1, 1, none⟩ F1) := by
  rw [run_store _ _ _ _ _ (by rw [← hF1]; rfl), p0.cell 1]; simp [p0.frozen 1]
 have q2 : (store ⟨N + 1, 2, none⟩ F2).run Tryz.prog ((w2.setCell ⟨N + 1, 0, none⟩ .nilFunc).setCell ⟨N + 1, 1, none⟩ F1) = .ok () (((w2.setCell ⟨N + 1, 0, none⟩ .nilFunc).setCell ⟨N + 1, 1, none⟩ F1).setCell ⟨N + 1, 2, none⟩ F2) := by
  rw [run_store _ _ _ _ _ (by rw [← hF2]; rfl), p1.cell 2]; simp [p1.frozen 2]
 obtain ⟨w3, hw3⟩ : ∃ w3, ((w2.setCell ⟨N + 1, 0, none⟩ .nilFunc).setCell ⟨N + 1, 1, none⟩ F1).setCell ⟨N + 1, 2, none⟩ F2 = w3 := ⟨_, rfl⟩
 rw [hw3] at q2 p2
 have HH1 := hid (show Held w3 N 257 #[.pointer (some ⟨D, 0, none⟩)] by rw [← hw3]; exact Held.other_put (Held.other_put (Held.other_put (h1.below b2 (by omega)) (by omega) _) (by omega) _) (by omega) _)
 have HB3 := hid (show Below N w w3 by rw [← hw3]; exact (((b1.trans (b2.mono (by omega))).setCell (Nat.le_succ N) _).setCell (Nat.le_succ N) _).setCell (Nat.le_succ N) _)
 obtain ⟨c0, c1, c2⟩ := cC3 p2
 simp at c0 c1 c2
 rw [← hF1] at q1 c1
 rw [← hF2] at q2 c2
 subst hF1 hF2
 rw [hN]
 clear h1 h2 b1 b2 p0 p1 p2 hw3
 go_enter Tryz.func167, Tryz.ntmps167
 go_wp2_with fail
 exact bodyPost_ret (v := TabV N) (by simp [results, Tryz.results167, go_sem, c0, c1, c2]) rfl ⟨N, rfl, HH1.out, Nat.le_refl _, HB3.out⟩
theorem tab1_any (t n : Int) (s : Value) (h1 : -9223372036854775808 ≤ n) (h2 : n ≤ 9223372036854775807) (w : World) : Calls Tryz.prog 193 #[.agg #[.int .i64 t, .int .i64 n, s]] w fun e w' => e = .returned (.int .u64 (foldI n)) ∧ Below w.heap.size w w' := by
 have HF := hid (fun W => fold_any n h1 h2 W)
 generalize foldI n = y at HF ⊢
 have ba : Below w.heap.size w (w.alloc (.cells #[.int .i64 t, .int .i64 n, s] 135)) := (Below.refl _ _).alloc (Nat.le_refl _) _
 have hh : Held (w.alloc (.cells #[.int .i64 t, .int .i64 n, s] 135)) w.heap.size 135 #[.int .i64 t, .int .i64 n, s] := heap_alloc_new w _
 obtain ⟨w1, hw1⟩ : ∃ w1, w.alloc (.cells #[.int .i64 t, .int .i64 n, s] 135) = w1 := ⟨_, rfl⟩
 rw [hw1] at ba hh
 have x1 := hh.cell 1
 simp at x1
 go_enter Tryz.func193, Tryz.ntmps193
 go_wp2_with fail
 refine (HF.out _).mono ?_
 rintro e w2 ⟨rfl, rfl⟩
 go_wp2_with fail
 go_ret
 exact ⟨rfl, ba⟩
theorem tab2_any {b D r x : Nat} {v : Value} {L : List (List Int)} (t n : Int) (s : List Int) (hs : TxB s) (w : World) (hx : Held w x 257 #[.pointer (some ⟨D, 0, none⟩)]) (hd : DictAt w b D r v L) (j : Nat) (hj : placeD L s = (j : Int)) (hl : j < 9223372036854775808) :
  Calls Tryz.prog 195 #[.agg #[.int .i64 t, .int .i64 n, .string (strOfNums s)], .pointer (some ⟨x, 0, none⟩)] w fun e w' => e = .returned (.int .u64 j) ∧ Below w.heap.size w w' := by
 have ba : Below w.heap.size w (w.alloc (.cells #[.int .i64 t, .int .i64 n, .string (strOfNums s)] 135)) := (Below.refl _ _).alloc (Nat.le_refl _) _
 have hh : Held (w.alloc (.cells #[.int .i64 t, .int .i64 n, .string (strOfNums s)] 135)) w.heap.size 135 #[.int .i64 t, .int .i64 n, .string (strOfNums s)] := heap_alloc_new w _
 have hxl := hx.lt
 obtain ⟨w1, hw1⟩ : ∃ w1, w.alloc (.cells #[.int .i64 t, .int .i64 n, .string (strOfNums s)] 135) = w1 := ⟨_, rfl⟩
 rw [hw1] at ba hh
 have HF := dfind_any (hd.below ba) s hs
 rw [hj, if_neg (by omega), decide_eq_true (by omega)] at HF
 have HF := hid HF
 have x2 := hh.cell 2
 have y0 := (hx.below ba hxl).cell 0
 simp at x2 y0
 clear hd hx hj
 go_enter Tryz.func195, Tryz.ntmps195
 go_wp2_with fail
 refine HF.out.mono ?_
 rintro e w2 ⟨rfl, rfl⟩
 go_wp2_with fail
 go_ret
 exact ⟨rfl, ba⟩
theorem store_func {P : Program} {w : World} {b i : Nat} {t : TypeId} {cs : Array Value} {u f : Value} (h : Held w b t cs) (hi : cs[i]? = some u) (hf : f.oneCell' = true) : (store ⟨b, i, none⟩ f).run P w = .ok () (w.setCell ⟨b, i, none⟩ f) := by
 rw [run_store _ _ _ _ _ hf, h.cell i, hi]
 simp [h.frozen i]
theorem lay_table (w : World) (N x : Nat) (hN : w.heap.size = N) : ∃ w3, (store ⟨N, 0, none⟩ .nilFunc).run Tryz.prog (w.alloc (.cells #[.nilFunc, .nilFunc, .nilFunc] 261)) = .ok () (w.alloc (.cells #[.nilFunc, .nilFunc, .nilFunc] 261))
  ∧ (store ⟨N, 1, none⟩ (.func (.func 193) #[] #[])).run Tryz.prog (w.alloc (.cells #[.nilFunc, .nilFunc, .nilFunc] 261)) = .ok () (w.alloc (.cells #[.nilFunc, .func (.func 193) #[] #[], .nilFunc] 261))
  ∧ (store ⟨N, 2, none⟩ (.func (.func 195) #[] #[.pointer (some ⟨x, 0, none⟩)])).run Tryz.prog (w.alloc (.cells #[.nilFunc, .func (.func 193) #[] #[], .nilFunc] 261)) = .ok () w3
  ∧ Held w3 N 261 #[.nilFunc, .func (.func 193) #[] #[], .func (.func 195) #[] #[.pointer (some ⟨x, 0, none⟩)]] ∧ Below N w w3 ∧ w3.heap.size = N + 1 := by
 subst hN
 have h0 : Held (w.alloc (.cells #[.nilFunc, .nilFunc, .nilFunc] 261)) w.heap.size 261 #[.nilFunc, .nilFunc, .nilFunc] := heap_alloc_new w _
 have h1 : Held (w.alloc (.cells #[.nilFunc, .func (.func 193) #[] #[], .nilFunc] 261)) w.heap.size 261 #[.nilFunc, .func (.func 193) #[] #[], .nilFunc] := heap_alloc_new w _
 have q0 := store_func (P := Tryz.prog) (i := 0) (f := .nilFunc) h0 rfl rfl
 have q1 := store_func (P := Tryz.prog) (i := 1) (f := .func (.func 193) #[] #[]) h0 rfl rfl
 have q2 := store_func (P := Tryz.prog) (i := 2) (f := .func (.func 195) #[] #[.pointer (some ⟨x, 0, none⟩)]) h1 rfl rfl
 rw [World.setCell_alloc_new] at q0 q1 q2
 exact ⟨w.alloc (.cells #[.nilFunc, .func (.func 193) #[] #[], .func (.func 195) #[] #[.pointer (some ⟨x, 0, none⟩)]] 261), by simpa using q0, by simpa using q1, by simpa using q2, heap_alloc_new w _, (Below.refl _ _).alloc (Nat.le_refl _) _, by simp⟩
theorem lay_writer (w : World) (N : Nat) (f1 f2 : Value) (h1 : f1.oneCell' = true) (h2 : f2.oneCell' = true) (hN : w.heap.size = N) : ∃ w3, (store ⟨N, 0, none⟩ f1).run Tryz.prog (w.alloc (.cells #[.nilFunc, .nilFunc] 227)) = .ok () (w.alloc (.cells #[f1, .nilFunc] 227))
  ∧ (store ⟨N, 1, none⟩ f2).run Tryz.prog (w.alloc (.cells #[f1, .nilFunc] 227)) = .ok () w3
  ∧ Held w3 N 227 #[f1, f2] ∧ Below N w w3 ∧ w3.heap.size = N + 1 := by
 subst hN
 have i0 : Held (w.alloc (.cells #[.nilFunc, .nilFunc] 227)) w.heap.size 227 #[.nilFunc, .nilFunc] := heap_alloc_new w _
 have i1 : Held (w.alloc (.cells #[f1, .nilFunc] 227)) w.heap.size 227 #[f1, .nilFunc] := heap_alloc_new w _
 have q0 := store_func (P := Tryz.prog) (i := 0) (f := f1) i0 rfl h1
 have q1 := store_func (P := Tryz.prog) (i := 1) (f := f2) i1 rfl h2
 rw [World.setCell_alloc_new] at q0 q1
 exact ⟨w.alloc (.cells #[f1, f2] 227), by simpa using q0, by simpa using q1, heap_alloc_new w _, (Below.refl _ _).alloc (Nat.le_refl _) _, by simp⟩
abbrev TabVc (x : Nat) : Array Value := #[.nilFunc, .func (.func 193) #[] #[], .func (.func 195) #[] #[.pointer (some ⟨x, 0, none⟩)]]
abbrev argC (a : Ag) : Array Value := #[.int .i64 a.t, .int .i64 a.n, .string (strOfNums a.s)]
end Go.Proofs.YtnlfcmbpocdpjaaGreat
