/-
  Put; the dictionary of a trace; the chapter's example of layer 13.
-/
import Derived.Test.YtlmedebhkkiagaaDictCode
namespace Go.Proofs.Ytlmedebhkkiagaa
open Go.RowKit Go.ChangeShapes Go.WideShapes

section
variable {w w' : World} {base D r : Nat} {v v' : Value} {L L' : List (List Int)}
/-- What Put leaves: the dictionary, with the text; where its texts lie is where they lay, or new. -/
def PutLeft (w : World) (base D r : Nat) (v : Value) (L' : List (List Int)) (w' : World) : Prop :=
  ∃ v', DictAt w' base D r v' L' ∧ DBut w w' D r v.ownBlock ∧ (v'.ownBlock = v.ownBlock ∨ ∀ j, v'.ownBlock = some j → w.heap.size ≤ j)
set_option maxRecDepth 100000 in
set_option maxHeartbeats 1000000 in
theorem dput_any (h : DictAt w base D r v L) (s : List Int) (hs : TxB s) (hsl : s.length ≤ maxLen) (hn : L.length ≤ 1000000000) (hbs : base ≤ w.heap.size) :
    Calls Try.prog 18 #[.pointer (some ⟨D, 0, none⟩), .string (strOfNums s)] w fun e w' => e = .returned (.int .i64 (putD L s).2) ∧ PutLeft w base D r v (putD L s).1 w' := by
  have HF := Lib.hid (dfind_any h s hs)
  rcases placeD_ways L s with ⟨hp, hno⟩ | ⟨j, hj0, hp, _, _⟩
  · rw [putD_new hp]
    rw [hp] at HF
    simp only [show ((-1 : Int) < 0) from by decide, if_true, show decide ((0 : Int) ≤ -1) = false from rfl] at HF
    obtain ⟨i0, hi, hz0, hz1, hz2⟩ := info_parts Try.infoTxt
    obtain ⟨q1, q2, q3⟩ := h.ne
    obtain ⟨A, c, hv, hc1, hc2⟩ := h.form
    have x0 := h.held.cell 0
    have x1 := h.held.cell 1
    simp at x0 x1
    obtain ⟨o, hup, hmk⟩ := h.map.add text_way h.tx.b hs (t := 79) Try.underlying79 (by rw [hp]; decide)
    unfold strV at hup
    have hrl := h.map.lt
    have htx : TxOk (L ++ [s]) := fun t ht => by
      rcases List.mem_append.1 ht with h1 | h1
      · exact h.tx t h1
      · rw [List.mem_singleton.1 h1]; exact ⟨hsl, hs⟩
    have hg1 : w.grownBy (w.putObj r o) (some r) := grownBy_putObj' w r o
    obtain ⟨w1, hw1⟩ : ∃ w1, w.putObj r o = w1 := ⟨_, rfl⟩
    rw [hw1] at hup hmk hg1
    have hs1 : w.heap.size ≤ w1.heap.size := hg1.size
    have hh1 : Held w1 D 81 #[v, .map (some r)] := h.held.grown hg1 (fun e => q1 (by injection e))
    have hown1 : w1.ownsRow base 9 1 v L.length (strVs L) := h.own.kept hg1 (.inr (fun e => q3 e.symm))
    have y0 := hh1.cell 0
    simp at y0
    obtain ⟨w2, hw2⟩ : ∃ w2, w1.alloc (.cells #[.string (strOfNums s)] 9) = w2 := ⟨_, rfl⟩
    have hb2 : Below w1.heap.size w1 w2 := by rw [← hw2]; exact (Below.refl _ _).alloc (Nat.le_refl _) _
    have hown2 : w2.ownsRow base 9 1 v L.length (strVs L) := own_below hown1 hb2
    have hh2 : Held w2 D 81 #[v, .map (some r)] := hh1.below hb2 hh1.lt
    have hm2 : MapK strV w2 r (L ++ [s]) := hmk.below hb2 hmk.lt
    have hce2 : w2.cell? ⟨w1.heap.size, 0, none⟩ = some (.string (strOfNums s)) := by rw [← hw2]; exact cell_one_new w1 _ _ 0 _ rfl
    have hs2 := hb2.size
    have HP := Lib.hid (show ∀ v2 w3, w3.ownsRow base 9 1 v2 (L.length + 1) (strVs L ++ [.string (strOfNums s)]) → w2.grownBy w3 v.ownBlock → (v2.ownBlock = v.ownBlock ∨ v2.ownBlock = some w2.heap.size) → Held w3 D 81 #[v, .map (some r)] ∧ PutLeft w base D r v (L ++ [s]) (w3.setCell ⟨D, 0, none⟩ v2) from fun v2 w3 hown3 hg3 hat => by
      have hh3 : Held w3 D 81 #[v, .map (some r)] := hh2.grown hg3 q2
      have hm3 : MapK strV w3 r (L ++ [s]) := hm2.keep (hg3.block r hm2.lt q3)
      obtain ⟨es, cl, hme, _⟩ := id hm3
      have hDr : some D ≠ v2.ownBlock := own_not_held hown3 hh3 (by decide)
      have hs3 := hg3.size
      refine ⟨hh3, v2, ⟨?_, ?_, hm3.keep (Below.heap_setCell w3 ⟨D, 0, none⟩ v2 r (fun e => q1 e.symm)), h.hD, h.hr, htx⟩, ⟨?_, ?_, ?_, ?_, fun k h1 h2 h3 h4 => ?_⟩, ?_⟩
      · have := hh3.put 0 v2
        simpa using this
      · have h4 : (w3.setCell ⟨D, 0, none⟩ v2).ownsRow base 9 1 v2 (L.length + 1) (strVs L ++ [.string (strOfNums s)]) := hown3.kept (grown_put w3 D 0 v2) (.inr (fun e => hDr e.symm))
        rw [List.length_append, strVs_snoc]
        exact h4
      · show w3.os = w.os
        rw [hg3.os, hb2.os, hg1.os]
      · show w3.tape = w.tape
        rw [hg3.tape, hb2.tape, hg1.tape]
      · show w3.output = w.output
        rw [hg3.output, hb2.output, hg1.output]
      · have : (w3.setCell ⟨D, 0, none⟩ v2).heap.size = w3.heap.size := by simp [World.setCell]
        omega
      · rw [Below.heap_setCell w3 ⟨D, 0, none⟩ v2 k (fun e => h2 e), hg3.block k (by omega) h4, hb2.block k (by omega), hg1.block k h1 (fun e => h3 (by injection e))]
      · rcases hat with e | e
        · exact .inl e
        · refine .inr fun j hj => ?_
          rw [e] at hj
          injection hj with hj
          omega)
    have HOW := Lib.hid hown2
    have HER := Lib.hid (show ERow w2 (w1.heap.size + 1) (.slice (some ⟨w1.heap.size, 0, none⟩) 1 1) 1 [.string (strOfNums s)] from ⟨_, _, rfl, Nat.le_refl _, by unfold maxLen; omega, by simp, fun _ => ⟨w1.heap.size, 0, rfl, Nat.lt_succ_self _, fun i u hi => by
      match i with
      | 0 => simp at hi; rw [← hi]; exact hce2
      | i + 1 => simp at hi⟩⟩)
    subst hv
    obtain ⟨n, hn'⟩ : ∃ n, L.length = n := ⟨_, rfl⟩
    rw [hn'] at hup HOW x0 y0 HP hc1 hn ⊢
    clear h hmk htx hg1 hw1 hh1 hown1 hb2 hown2 hh2 hm2 hce2 hs hno hp q1 q2 q3
    have hn3 : strVs L = strVs L := rfl
    go_enter Try.func18, Try.ntmps18
    go_wp2_with fail
    refine HF.out.mono ?_
    rintro e wz ⟨rfl, rfl⟩
    go_wp2_with (at_builtin; refine wpList_append_erow _ rfl _ _ 46 9 rfl base i0 (.string ⟨#[]⟩) 1 16 Try.underlying46 hi hz0 hz1 hz2 rfl (by decide) (.slice A n c) n (strVs L) (by rfl) HOW.out (w1.heap.size + 1) _ 1 [.string (strOfNums s)] (by rfl) HER.out rfl (by simp [Value.oneCell']) (by simp only [maxLen]; omega) (by omega) (by omega) (n + 1) rfl _ rfl ?_; intro A3 c3 w3 hown3 hg3 hat3; obtain ⟨hh3, hpl⟩ := HP.out _ _ hown3 hg3 hat3; have z0 := hh3.cell 0; have z1 := hh3.frozen 0; have zl := hh3.lt; simp at z0; have HPL := Lib.hid hpl; clear hpl hown3 hg3 hat3 hh3)
    go_ret
    exact ⟨rfl, HPL.out⟩
  · rw [putD_old hp]
    rw [hp] at HF
    simp only [show ¬ ((j : Int) < 0) from by omega, if_false, show decide ((0 : Int) ≤ (j : Int)) = true from decide_eq_true (by omega)] at HF
    have HL := Lib.hid (show PutLeft w base D r v L w from ⟨v, h, DBut.refl _ _ _ _, .inl rfl⟩)
    clear h hp
    go_enter Try.func18, Try.ntmps18
    go_wp2_with fail
    refine HF.out.mono ?_
    rintro e w1 ⟨rfl, rfl⟩
    go_wp2_with fail
    go_ret
    exact ⟨rfl, HL.out⟩
#print axioms dput_any
end
end Go.Proofs.Ytlmedebhkkiagaa
