/-
  The calls of dict on a dictionary: New, Find, All, Put; the dictionary of a trace.
-/
import Derived.Test.YtlmpicfhbpnpbaaDictMaps
import Derived.WalkKit
import Derived.LoopTactic
import Derived.Lib.Strings
import Derived.Deep.LoopGhost
import Derived.Deep.QuietTactic
import Derived.BigQuiet
namespace Go.Proofs.Ytlmpicfhbpnpbaa
open Go.RowKit Go.ChangeShapes Go.WideShapes

theorem Try.infoTxt : (Try.prog.info? 9).map (fun i => (i.zero, i.size, i.bytes)) = some (some (.string ⟨#[]⟩), 1, 16) := by kernel_rfl

set_option maxRecDepth 100000 in
theorem dnew_any (w : World) : Calls Try.prog 81 #[] w fun e w' => ∃ D r v, e = .returned (.pointer (some ⟨D, 0, none⟩)) ∧ DictAt w' w.heap.size D r v [] ∧ v.ownBlock = none ∧ Below w.heap.size w w' := by
  have hmm := @run_makeMap Try.prog
  obtain ⟨r, hr⟩ : ∃ r, w.heap.size = r := ⟨_, rfl⟩
  have hm0 : MapK strV (w.alloc (.map #[] 0)) r ([] : List (List Int)) := by rw [← hr]; exact MapK.new strV w
  have hb0 : Below r w (w.alloc (.map #[] 0)) := (Below.refl _ _).alloc (by omega) _
  have s0 : (w.alloc (.map #[] 0)).heap.size = r + 1 := by rw [World.size_alloc, hr]
  rw [hr]
  go_enter Try.func81, Try.ntmps81
  go_wp2_with fail
  go_ret
  have hb1 := (Below.refl (r + 1) (w.alloc (.map #[] 0))).alloc (by omega) (.cells #[.slice none 0 0, .map (some r)] 140)
  refine ⟨_, r, .slice none 0 0, rfl, ⟨?_, own_nil _ _ _, hm0.below hb1 (by omega), ?_, Nat.le_refl _, fun t h => by simp at h⟩, rfl, ?_⟩
  · rw [← s0]
    exact heap_alloc_new _ _
  · omega
  · exact hb0.trans (hb1.mono (by omega))
#print axioms dnew_any

section
variable {w : World} {base D r : Nat} {v : Value} {L : List (List Int)}
set_option maxRecDepth 100000 in
theorem dfind_any (h : DictAt w base D r v L) (s : List Int) (hs : TxB s) :
    Calls Try.prog 86 #[.pointer (some ⟨D, 0, none⟩), .string (strOfNums s)] w fun e w' => e = .returned (.tuple #[.int .i64 (if placeD L s < 0 then 0 else placeD L s), .bool (decide (0 ≤ placeD L s))]) ∧ w = w' := by
  have x1 := h.held.cell 1
  simp at x1
  have hlk := h.map.look text_way h.tx.b hs (t := 138) Try.underlying138 (zero_int13 w)
  unfold strV at hlk
  obtain ⟨n, hn⟩ : ∃ n, (if placeD L s < 0 then 0 else placeD L s) = n := ⟨_, rfl⟩
  obtain ⟨b, hb⟩ : ∃ b, decide (0 ≤ placeD L s) = b := ⟨_, rfl⟩
  rw [hn, hb] at hlk ⊢
  clear h hn hb
  go_enter Try.func86, Try.ntmps86
  go_wp2_with fail
  exact bodyPost_ret (v := .tuple #[.int .i64 n, .bool b]) (by simp [results, Try.results86, go_sem]) rfl ⟨rfl, rfl⟩
#print axioms dfind_any

set_option maxRecDepth 100000 in
theorem dall_any (h : DictAt w base D r v L) (hn : L.length ≤ 1000000000) :
    Calls Try.prog 58 #[.pointer (some ⟨D, 0, none⟩)] w fun e w' => ∃ A c, e = .returned (.slice A L.length c) ∧ w'.ownsRow w.heap.size 9 1 (.slice A L.length c) L.length (strVs L) ∧ Below w.heap.size w w' := by
  obtain ⟨i0, hi, hz0, hz1, hz2⟩ := info_parts Try.infoTxt
  have x0 := h.held.cell 0
  simp at x0
  have HER := Lib.hid (ERow.of_own h.own)
  have hl : (strVs L).length = L.length * 1 := by rw [strVs_length, Nat.mul_one]
  have HON := Lib.hid (strVs_one L)
  clear h
  obtain ⟨n, hn'⟩ : ∃ n, L.length = n := ⟨_, rfl⟩
  rw [hn'] at HER hl hn ⊢
  clear hn'
  go_enter Try.func58, Try.ntmps58
  go_wp2_with (at_builtin; refine wpList_append_erow _ rfl _ _ 111 9 rfl w.heap.size i0 (.string ⟨#[]⟩) 1 16 Try.underlying111 hi hz0 hz1 hz2 rfl (by decide) (.slice none 0 0) 0 [] rfl (own_nil _ _ _) w.heap.size v n (strVs L) (by rfl) HER.out hl HON.out (by simp only [maxLen]; omega) (by omega) (Nat.le_refl _) n (Nat.zero_add n) (strVs L) rfl ?_; intro A c w2 hown2 hg2 _)
  go_ret
  refine ⟨A, c, rfl, hown2, (Below.refl _ _).grown hg2 (Nat.le_refl _) (fun k hk => ?_)⟩
  simp [Value.ownBlock] at hk
#print axioms dall_any
end
end Go.Proofs.Ytlmpicfhbpnpbaa

namespace Go.Proofs.Ytlmpicfhbpnpbaa
open Go.RowKit Go.ChangeShapes Go.WideShapes

section
variable {w w' : World} {base D r : Nat} {v v' : Value} {L L' : List (List Int)}
/-- What Put leaves: the dictionary, with the text; where its texts lie is where they lay, or new. -/
def PutLeft (w : World) (base D r : Nat) (v : Value) (L' : List (List Int)) (w' : World) : Prop :=
  ∃ v', DictAt w' base D r v' L' ∧ DBut w w' D r v.ownBlock ∧ (v'.ownBlock = v.ownBlock ∨ ∀ j, v'.ownBlock = some j → w.heap.size ≤ j)
set_option maxRecDepth 100000 in
set_option maxHeartbeats 1000000 in
theorem dput_any (h : DictAt w base D r v L) (s : List Int) (hs : TxB s) (hsl : s.length ≤ maxLen) (hn : L.length ≤ 1000000000) (hbs : base ≤ w.heap.size) :
    Calls Try.prog 94 #[.pointer (some ⟨D, 0, none⟩), .string (strOfNums s)] w fun e w' => e = .returned (.int .i64 (putD L s).2) ∧ PutLeft w base D r v (putD L s).1 w' := by
  have HF := Lib.hid (dfind_any h s hs)
  rcases placeD_ways L s with ⟨hp, hno⟩ | ⟨j, hj0, hp, _, _⟩
  · rw [putD_new hp]
    rw [hp] at HF
    simp only [show ((-1 : Int) < 0) from by decide, if_true, show decide ((0 : Int) ≤ -1) = false from rfl] at HF
    obtain ⟨i0, hi, hz0, hz1, hz2⟩ := info_parts Try.infoTxt
    obtain ⟨q1, q2, q3⟩ := h.ne
    obtain ⟨A, c, hv, hc1, hc2⟩ := h.form
    have x0 := h.held.cell 0
    have x1 := h.held.cell 1
    simp at x0 x1
    obtain ⟨o, hup, hmk⟩ := h.map.add text_way h.tx.b hs (t := 138) Try.underlying138 (by rw [hp]; decide)
    unfold strV at hup
    have hrl := h.map.lt
    have htx : TxOk (L ++ [s]) := fun t ht => by
      rcases List.mem_append.1 ht with h1 | h1
      · exact h.tx t h1
      · rw [List.mem_singleton.1 h1]; exact ⟨hsl, hs⟩
    have hg1 : w.grownBy (w.putObj r o) (some r) := grownBy_putObj' w r o
    obtain ⟨w1, hw1⟩ : ∃ w1, w.putObj r o = w1 := ⟨_, rfl⟩
    rw [hw1] at hup hmk hg1
    have hs1 : w.heap.size ≤ w1.heap.size := hg1.size
    have hh1 : Held w1 D 140 #[v, .map (some r)] := h.held.grown hg1 (fun e => q1 (by injection e))
    have hown1 : w1.ownsRow base 9 1 v L.length (strVs L) := h.own.kept hg1 (.inr (fun e => q3 e.symm))
    have y0 := hh1.cell 0
    simp at y0
    obtain ⟨w2, hw2⟩ : ∃ w2, w1.alloc (.cells #[.string (strOfNums s)] 9) = w2 := ⟨_, rfl⟩
    have hb2 : Below w1.heap.size w1 w2 := by rw [← hw2]; exact (Below.refl _ _).alloc (Nat.le_refl _) _
    have hown2 : w2.ownsRow base 9 1 v L.length (strVs L) := own_below hown1 hb2
    have hh2 : Held w2 D 140 #[v, .map (some r)] := hh1.below hb2 hh1.lt
    have hm2 : MapK strV w2 r (L ++ [s]) := hmk.below hb2 hmk.lt
    have hce2 : w2.cell? ⟨w1.heap.size, 0, none⟩ = some (.string (strOfNums s)) := by rw [← hw2]; exact cell_one_new w1 _ _ 0 _ rfl
    have hs2 := hb2.size
    have HP := Lib.hid (show ∀ v2 w3, w3.ownsRow base 9 1 v2 (L.length + 1) (strVs L ++ [.string (strOfNums s)]) → w2.grownBy w3 v.ownBlock → (v2.ownBlock = v.ownBlock ∨ v2.ownBlock = some w2.heap.size) → Held w3 D 140 #[v, .map (some r)] ∧ PutLeft w base D r v (L ++ [s]) (w3.setCell ⟨D, 0, none⟩ v2) from fun v2 w3 hown3 hg3 hat => by
      have hh3 : Held w3 D 140 #[v, .map (some r)] := hh2.grown hg3 q2
      have hm3 : MapK strV w3 r (L ++ [s]) := hm2.keep (hg3.block r hm2.lt q3)
      obtain ⟨es, cl, hme, _⟩ := id hm3
      have hDr : some D ≠ v2.ownBlock := own_not_held hown3 hh3 (by decide)
      have hs3 := hg3.size
      refine ⟨hh3, v2, ⟨?_, ?_, hm3.keep (Below.heap_setCell w3 ⟨D, 0, none⟩ v2 r (fun e => q1 e.symm)), h.hD, h.hr, htx⟩, ⟨?_, ?_, ?_, ?_, fun k h1 h2 h3 h4 => ?_⟩, ?_⟩
      · have := hh3.put 0 v2
        simpa using this
      · have h4 : (w3.setCell ⟨D, 0, none⟩ v2).ownsRow base 9 1 v2 (L.length + 1) (strVs L ++ [.string (strOfNums s)]) := hown3.kept (grown_put w3 D 0 v2) (.inr (fun e => hDr e.symm))
        rw [List.length_append, strVs_snoc]
        exact h4
      · show w3.os = w.os
        rw [hg3.os, hb2.os, hg1.os]
      · show w3.tape = w.tape
        rw [hg3.tape, hb2.tape, hg1.tape]
      · show w3.output = w.output
        rw [hg3.output, hb2.output, hg1.output]
      · have : (w3.setCell ⟨D, 0, none⟩ v2).heap.size = w3.heap.size := by simp [World.setCell]
        omega
      · rw [Below.heap_setCell w3 ⟨D, 0, none⟩ v2 k (fun e => h2 e), hg3.block k (by omega) h4, hb2.block k (by omega), hg1.block k h1 (fun e => h3 (by injection e))]
      · rcases hat with e | e
        · exact .inl e
        · refine .inr fun j hj => ?_
          rw [e] at hj
          injection hj with hj
          omega)
    have HOW := Lib.hid hown2
    have HER := Lib.hid (show ERow w2 (w1.heap.size + 1) (.slice (some ⟨w1.heap.size, 0, none⟩) 1 1) 1 [.string (strOfNums s)] from ⟨_, _, rfl, Nat.le_refl _, by unfold maxLen; omega, by simp, fun _ => ⟨w1.heap.size, 0, rfl, Nat.lt_succ_self _, fun i u hi => by
      match i with
      | 0 => simp at hi; rw [← hi]; exact hce2
      | i + 1 => simp at hi⟩⟩)
    subst hv
    obtain ⟨n, hn'⟩ : ∃ n, L.length = n := ⟨_, rfl⟩
    rw [hn'] at hup HOW x0 y0 HP hc1 hn ⊢
    clear h hmk htx hg1 hw1 hh1 hown1 hb2 hown2 hh2 hm2 hce2 hs hno hp q1 q2 q3
    have hn3 : strVs L = strVs L := rfl
    go_enter Try.func94, Try.ntmps94
    go_wp2_with fail
    refine HF.out.mono ?_
    rintro e wz ⟨rfl, rfl⟩
    go_wp2_with (at_builtin; refine wpList_append_erow _ rfl _ _ 111 9 rfl base i0 (.string ⟨#[]⟩) 1 16 Try.underlying111 hi hz0 hz1 hz2 rfl (by decide) (.slice A n c) n (strVs L) (by rfl) HOW.out (w1.heap.size + 1) _ 1 [.string (strOfNums s)] (by rfl) HER.out rfl (by simp [Value.oneCell']) (by simp only [maxLen]; omega) (by omega) (by omega) (n + 1) rfl _ rfl ?_; intro A3 c3 w3 hown3 hg3 hat3; obtain ⟨hh3, hpl⟩ := HP.out _ _ hown3 hg3 hat3; have z0 := hh3.cell 0; have z1 := hh3.frozen 0; have zl := hh3.lt; simp at z0; have HPL := Lib.hid hpl; clear hpl hown3 hg3 hat3 hh3)
    go_ret
    exact ⟨rfl, HPL.out⟩
  · rw [putD_old hp]
    rw [hp] at HF
    simp only [show ¬ ((j : Int) < 0) from by omega, if_false, show decide ((0 : Int) ≤ (j : Int)) = true from decide_eq_true (by omega)] at HF
    have HL := Lib.hid (show PutLeft w base D r v L w from ⟨v, h, DBut.refl _ _ _ _, .inl rfl⟩)
    clear h hp
    go_enter Try.func94, Try.ntmps94
    go_wp2_with fail
    refine HF.out.mono ?_
    rintro e w1 ⟨rfl, rfl⟩
    go_wp2_with fail
    go_ret
    exact ⟨rfl, HL.out⟩
#print axioms dput_any
end
end Go.Proofs.Ytlmpicfhbpnpbaa

namespace Go.Proofs.Ytlmpicfhbpnpbaa
open Go.RowKit Go.ChangeShapes Go.WideShapes

theorem addA_le {L : List (List Int)} {l : List Ag} (k : Nat) : (addA L (l.take k)).length ≤ L.length + l.length := by
  have := (addA_ok (l.take k) L).high
  have h2 : (l.take k).length ≤ l.length := by rw [List.length_take]; omega
  omega
set_option maxRecDepth 100000 in
set_option maxHeartbeats 1000000 in
theorem pargs_any {w : World} {base D r : Nat} {v : Value} {L : List (List Int)} (h : DictAt w base D r v L) (A : Option Addr) (c : Nat) (l : List Ag) (hg : GRow w base (.slice A l.length c) l) (hn : L.length + l.length ≤ 1000000000) (hbs : base ≤ w.heap.size) :
    Calls Try.prog 82 #[.pointer (some ⟨D, 0, none⟩), .slice A l.length c] w fun e w' => e = .returned (.tuple #[]) ∧ (∃ v', DictAt w' base D r v' (addA L l)) ∧ Below base w w' := by
  obtain ⟨-, hc1, hc2⟩ := hg.1.len
  have HG := Lib.hid hg
  have H0 := Lib.hid h
  clear hg h
  go_enter Try.func82, Try.ntmps82
  go_wp2_with fail
  go_loopg [8] l.length (fun gk i wr => ∃ (k : Nat) (v : Value), k ≤ l.length ∧ i = .int .i64 k ∧ Hid (l.length - k = gk) ∧ Hid (DictAt wr base D r v (addA L (l.take k))) ∧ Hid (Below base w wr))
  case atStart => exact ⟨0, v, Nat.zero_le _, rfl, Lib.hid rfl, H0, Lib.hid (Below.refl _ _)⟩
  case round =>
    obtain ⟨k, v1, hk, rfl, HGK, HD, HB⟩ := hrel
    by_cases hlt : k < l.length
    · obtain ⟨a, ha⟩ : ∃ a, l[k]? = some a := ⟨_, List.getElem?_eq_getElem hlt⟩
      have hz := HB.out.size
      obtain ⟨b, o, rfl, hb, x0, x1, x2, hfit⟩ := (HG.out.below HB.out).at ha
      obtain ⟨w4, hw4⟩ : ∃ w4, wr.alloc (.cells #[.int .i64 a.t, .int .i64 a.n, .string (strOfNums a.s)] 61) = w4 := ⟨_, rfl⟩
      have s4 : w4.heap.size = wr.heap.size + 1 := by rw [← hw4, World.size_alloc]
      have hb4 : Below wr.heap.size wr w4 := by rw [← hw4]; exact (Below.refl _ _).alloc (Nat.le_refl _) _
      have hh4 : Held w4 wr.heap.size 61 #[.int .i64 a.t, .int .i64 a.n, .string (strOfNums a.s)] := by rw [← hw4]; exact heap_alloc_new wr _
      have y0 := hh4.cell 0
      have y2 := hh4.cell 2
      simp at y0 y2
      have hd4 := HD.out.below hb4
      have HB4 := Lib.hid (HB.out.trans (hb4.mono (by omega)))
      have HS := Lib.hid (addA_succ (L := L) ha)
      by_cases ht : a.t = 2
      · have hst : stepA (addA L (l.take k)) a = (putD (addA L (l.take k)) a.s).1 := if_pos ht
        rw [hst] at HS
        have hp := dput_any hd4 a.s hfit.2.1 hfit.1 (by have := addA_le (L := L) (l := l) k; omega) (by omega)
        rw [← HS.out] at hp
        have HP := Lib.hid hp
        have HD4 := Lib.hid hd4
        obtain ⟨at', hat⟩ : ∃ t, a.t = t := ⟨_, rfl⟩
        rw [hat] at x0 hw4 y0 ht
        clear hp hd4 hst ha hfit hb4 hh4 hat
        subst ht
        go_wp2_with fail
        refine HP.out.mono ?_
        rintro e w5 ⟨rfl, v2, hd5, hbt, _⟩
        have HB5 := Lib.hid (HB4.out.trans (hbt.below (by omega) HD4.out))
        have HD5 := Lib.hid hd5
        clear hd5 hbt
        go_wp2_with fail
        go_roundg (l.length - (k + 1))
        case measure => have := HGK.out; omega
        case rel => exact ⟨k + 1, v2, by omega, by go_num, Lib.hid rfl, HD5, HB5⟩
      · have hst : stepA (addA L (l.take k)) a = addA L (l.take k) := if_neg ht
        rw [hst] at HS
        have HD4 := Lib.hid hd4
        rw [← HS.out] at HD4
        have hne : (a.t == 2) = false := beq_eq_false_iff_ne.2 ht
        clear hd4 hst ha hfit hb4 hh4 ht
        go_wp2_with fail
        go_roundg (l.length - (k + 1))
        case measure => have := HGK.out; omega
        case rel => exact ⟨k + 1, v1, by omega, by go_num, Lib.hid rfl, HD4, HB4⟩
    · obtain rfl : k = l.length := by omega
      have HD' := HD
      rw [List.take_length] at HD'
      go_wp2_with fail
      go_end0
      exact ⟨rfl, ⟨v1, HD'.out⟩, HB.out⟩
#print axioms pargs_any

set_option maxRecDepth 100000 in
set_option maxHeartbeats 1000000 in
theorem dof_any (A : Option Addr) (c : Nat) (ps : List Pm) (w : World) (hrow : TrRow w w.heap.size (.slice A ps.length c) ps) (hn : nT ps ≤ 1000000000) :
    Calls Try.prog 54 #[.slice A ps.length c] w fun e w' => ∃ D r v, e = .returned (.pointer (some ⟨D, 0, none⟩)) ∧ DictAt w' w.heap.size D r v (addT [] ps) ∧ Below w.heap.size w w' := by
  obtain ⟨-, hc1, hc2⟩ := hrow.1.len
  obtain ⟨N, hN⟩ : ∃ N, w.heap.size = N := ⟨_, rfl⟩
  have HW := Lib.hid (dnew_any w)
  rw [hN] at HW hrow ⊢
  have HTR := Lib.hid hrow
  clear hrow
  go_enter Try.func54, Try.ntmps54
  go_wp2_with fail
  refine HW.out.mono ?_
  rintro e w1 ⟨D, r, v, rfl, hd, _, hb⟩
  have HD1 := Lib.hid hd
  have HB1 := Lib.hid hb
  clear hd hb HW
  go_wp2_with fail
  go_loopg [11] ps.length (fun gk i wr => ∃ (k : Nat) (v : Value), k ≤ ps.length ∧ i = .int .i64 k ∧ Hid (ps.length - k = gk) ∧ Hid (DictAt wr N D r v (addT [] (ps.take k))) ∧ Hid (Below N w wr))
  case atStart => exact ⟨0, v, Nat.zero_le _, rfl, Lib.hid rfl, HD1, HB1⟩
  case round =>
    obtain ⟨k, v1, hk, rfl, HGK, HD, HB⟩ := hrel
    by_cases hlt : k < ps.length
    · obtain ⟨d, hd⟩ : ∃ d, ps[k]? = some d := ⟨_, List.getElem?_eq_getElem hlt⟩
      have hz := HB.out.size
      obtain ⟨b, o, rfl, hb, x0, x1, hok, hl1, hl2⟩ := (HTR.out.below HB.out).at hd
      obtain ⟨w4, hw4⟩ : ∃ w4, wr.alloc (.cells #[.int .u64 d.tm, .slice d.A d.evs.length d.c] 39) = w4 := ⟨_, rfl⟩
      have s4 : w4.heap.size = wr.heap.size + 1 := by rw [← hw4, World.size_alloc]
      have hb4 : Below wr.heap.size wr w4 := by rw [← hw4]; exact (Below.refl _ _).alloc (Nat.le_refl _) _
      have hh4 : Held w4 wr.heap.size 39 #[.int .u64 d.tm, .slice d.A d.evs.length d.c] := by rw [← hw4]; exact heap_alloc_new wr _
      have y1 := hh4.cell 1
      simp at y1
      have HD4 := Lib.hid (HD.out.below hb4)
      have hbx := HB.out.trans (hb4.mono (by omega))
      have HB4 := Lib.hid hbx
      have HS := Lib.hid (addT_succ (L := []) hd)
      have hnk := nT_at ps k d hd
      have hlen := (addT_ok (ps.take k) []).high
      simp only [List.length_nil, Nat.zero_add] at hlen
      obtain ⟨dA, hdA⟩ : ∃ dA, d.A = dA := ⟨_, rfl⟩
      have hgr := hok.1.below (hb4.mono (by omega))
      rw [hdA] at hgr y1 x1 hw4
      have HGR := Lib.hid hgr
      obtain ⟨M, hM⟩ : ∃ M, addT [] (ps.take k) = M := ⟨_, rfl⟩
      rw [hM] at hlen HS HD4
      have HLE := Lib.hid hlen
      have HNK := Lib.hid hnk
      clear hok hd hh4 hgr hdA hb4 hbx hM hlen hnk
      obtain ⟨wx, hwx⟩ : ∃ wx, wx = wr := ⟨_, rfl⟩
      subst hwx
      go_wp2_with fail
      clear hw4 x0 x1 y1
      go_loopg [18] d.evs.length (fun gm i wr2 => ∃ (m : Nat) (v : Value), m ≤ d.evs.length ∧ i = .int .i64 m ∧ Hid (d.evs.length - m = gm) ∧ Hid (DictAt wr2 N D r v (addE M (d.evs.take m))) ∧ Hid (Below N w4 wr2))
      case atStart => exact ⟨0, v1, Nat.zero_le _, rfl, Lib.hid rfl, HD4, Lib.hid (Below.refl _ _)⟩
      case round =>
        obtain ⟨m, v2, hm, rfl, HGM, HD5, HB5⟩ := hrel
        by_cases hml : m < d.evs.length
        · obtain ⟨x, hx⟩ : ∃ x, d.evs[m]? = some x := ⟨_, List.getElem?_eq_getElem hml⟩
          have hz5 := HB5.out.size
          obtain ⟨b2, o2, rfl, hb2, u0, u1, hokx, hl3, hl4⟩ := (HGR.out.below HB5.out).at hx
          obtain ⟨w6, hw6⟩ : ∃ w6, wr.alloc (.cells #[.int .i64 x.p, .slice x.A x.args.length x.c] 42) = w6 := ⟨_, rfl⟩
          have s6 : w6.heap.size = wr.heap.size + 1 := by rw [← hw6, World.size_alloc]
          have hb6 : Below wr.heap.size wr w6 := by rw [← hw6]; exact (Below.refl _ _).alloc (Nat.le_refl _) _
          have hh6 : Held w6 wr.heap.size 42 #[.int .i64 x.p, .slice x.A x.args.length x.c] := by rw [← hw6]; exact heap_alloc_new wr _
          have z1 := hh6.cell 1
          simp at z1
          have hlm := (addE_ok (d.evs.take m) M).high
          have hna := nA_at d.evs m x hx
          have hp := pargs_any (HD5.out.below hb6) x.A x.c x.args (hokx.1.below (hb6.mono (by omega))) (by have := HLE.out; have := HNK.out; omega) (by omega)
          rw [← addE_succ (L := M) hx] at hp
          obtain ⟨xA, hxA⟩ : ∃ xA, x.A = xA := ⟨_, rfl⟩
          rw [hxA] at hp z1 u1 hw6
          have HP := Lib.hid hp
          have HB6 := Lib.hid (HB5.out.trans (hb6.mono (by omega)))
          clear hp hokx hx hh6 hb6 hxA hlm hna
          obtain ⟨wy, hwy⟩ : ∃ wy, wy = wr := ⟨_, rfl⟩
          subst hwy
          go_wp2_with fail
          refine HP.out.mono ?_
          rintro e w7 ⟨rfl, ⟨v3, hd7⟩, hb7⟩
          have HD7 := Lib.hid hd7
          have HB7 := Lib.hid (HB6.out.trans hb7)
          clear hd7 hb7
          go_wp2_with fail
          go_roundg (d.evs.length - (m + 1))
          case measure => have := HGM.out; omega
          case rel => exact ⟨m + 1, v3, by omega, by go_num, Lib.hid rfl, HD7, HB7⟩
        · obtain rfl : m = d.evs.length := by omega
          have HD6 := HD5
          rw [List.take_length, ← HS.out] at HD6
          go_wp2_with fail
          go_roundg (ps.length - (k + 1))
          case measure => have := HGK.out; omega
          case rel => exact ⟨k + 1, v2, by omega, by go_num, Lib.hid rfl, HD6, Lib.hid (HB4.out.trans HB5.out)⟩
    · obtain rfl : k = ps.length := by omega
      have HD' := HD
      rw [List.take_length] at HD'
      go_wp2_with fail
      go_ret
      exact ⟨D, r, v1, rfl, HD'.out, HB.out⟩
#print axioms dof_any

end Go.Proofs.Ytlmpicfhbpnpbaa
