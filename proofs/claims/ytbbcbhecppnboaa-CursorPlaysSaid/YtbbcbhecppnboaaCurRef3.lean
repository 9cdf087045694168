/-
  The document's own cursor, Signed and Done: what each answers.
-/
import Derived.Test.YtbbcbhecppnboaaCurRef2
import Derived.RegionTactic
namespace Go.Proofs.Ytbbcbhecppnboaa
open Go.RowKit

theorem tk_signed (p : Nat) (e : Int) (ys : List Int) : tk 0 p e (getS ys) = (unfoldI (tk 0 p e (getI ys)).1, (tk 0 p e (getI ys)).2.1, (tk 0 p e (getI ys)).2.2) := by
  by_cases he : e = 0
  · subst he
    by_cases h : (getI ys).2.2 = 0
    · rw [tk_ok (r := getS ys) h, tk_ok (r := getI ys) h]; rfl
    · rw [tk_err (r := getS ys) h, tk_err (r := getI ys) h]; rfl
  · rw [tk_stopped he, tk_stopped he]; rfl
theorem getN_all (ys : List Int) (hb : ∀ x ∈ ys, 0 ≤ x ∧ x < 256) : getN 18446744073709551615 ys = getI ys := by
  have := getI_range ys hb
  unfold getN
  rw [if_neg (fun h => by omega)]
theorem tk_range (p : Nat) (e : Int) (ys : List Int) (hb : ∀ x ∈ ys, 0 ≤ x ∧ x < 256) : 0 ≤ (tk 0 p e (getI ys)).1 ∧ (tk 0 p e (getI ys)).1 ≤ 18446744073709551615 := by
  have := getI_range ys hb
  unfold tk
  split
  · simp
  · split
    · simp
    · exact this

set_option maxRecDepth 100000 in
set_option maxHeartbeats 1000000 in
theorem rsigned_any (ys : List Int) (p : Nat) (e : Int) (hp : p + ys.length ≤ 1000000000) (hb : ∀ x ∈ ys, 0 ≤ x ∧ x < 256) (w : World) :
    Calls Try.prog 36 #[.agg #[.string (strOfNums ys), .int .i64 p, .int .i64 e]] w (RTook i64V w ys p (tk 0 p e (getS ys))) := by
  have hnum := fun W => rnumber_any ys p e 18446744073709551615 hp hb W
  rw [getN_all ys hb] at hnum
  rw [tk_signed]
  obtain ⟨r1, r2⟩ := tk_range p e ys hb
  generalize tk 0 p e (getI ys) = t at *
  obtain ⟨n, p', e'⟩ := t
  simp only at r1 r2
  have HU := Lib.hid (fun W => runfold_any n r1 r2 W)
  have HR : Ends i64V w ys p (unfoldI n, p', e') (.tuple #[.agg #[.string (strOfNums (ys.drop (p' - p))), .int .i64 p', .int .i64 e'], .int .i64 (unfoldI n)]) := ends_of (by simp [i64V])
  have HN : Hid (∀ W, Calls Try.prog 34 #[.agg #[.string (strOfNums ys), .int .i64 p, .int .i64 e], .int .u64 18446744073709551615] W fun r w' => r = .returned (.tuple #[.agg #[.string (strOfNums (ys.drop (p' - p))), .int .i64 p', .int .i64 e'], .int .u64 n]) ∧ Below W.heap.size W w') := hnum
  clear hnum hb r1 r2
  simp only
  generalize strOfNums (ys.drop (p' - p)) = S' at *
  generalize unfoldI n = m at *
  generalize strOfNums ys = S at *
  go_enter Try.func36, Try.ntmps36
  go_wp2_with fail
  refine (HN.out _).mono ?_
  rintro r w1 ⟨rfl, hb1⟩
  obtain ⟨hc, hf⟩ := old_cells hb1
  have hz : w.heap.size + 1 < w1.heap.size := by have := hb1.size; simp at this; omega
  have hB : Below w.heap.size w w1 := by
    refine Below.trans ?_ (hb1.mono (by simp; omega))
    repeat' (first | exact Below.refl _ _ | refine Below.setCell ?_ (by simp) _ | refine Below.alloc ?_ (by simp) _ | refine Below.drew ?_)
  go_wp2_with fail
  have H1 : Held (w1.alloc (.cells #[.string S', .int .i64 p', .int .i64 e'] 59)) w1.heap.size 59 #[.string S', .int .i64 p', .int .i64 e'] := heap_alloc_new _ _
  have H2 : Held (w1.alloc (.cells #[.string S', .int .i64 p', .int .i64 e'] 59)) (w.heap.size + 1) 59 #[.string ⟨#[]⟩, .int .i64 0, .int .i64 0] := by
    have h0 : Held ((w.alloc (.cells #[.string S, .int .i64 p, .int .i64 e] 59)).alloc (.cells #[.string ⟨#[]⟩, .int .i64 0, .int .i64 0] 59)) (w.heap.size + 1) 59 #[.string ⟨#[]⟩, .int .i64 0, .int .i64 0] := by
      have := heap_alloc_new (w.alloc (.cells #[.string S, .int .i64 p, .int .i64 e] 59)) (.cells #[.string ⟨#[]⟩, .int .i64 0, .int .i64 0] 59)
      rwa [World.size_alloc] at this
    exact (h0.below hb1 (by simp)).grown (grown_below ((Below.refl _ _).alloc (Nat.le_refl _) _) none) (by simp)
  have hB2 := hB.alloc hB.size (.cells #[.string S', .int .i64 p', .int .i64 e'] 59)
  clear hc hf hB hb1
  generalize w1.alloc (.cells #[.string S', .int .i64 p', .int .i64 e'] 59) = W2 at *
  generalize w1.heap.size = N1 at *
  have c0 := H1.cell 0
  have c1 := H1.cell 1
  have c2 := H1.cell 2
  have d0 := H2.cell 0
  have d1 := H2.cell 1
  have d2 := H2.cell 2
  have f0 := H2.frozen 0
  have f1 := H2.frozen 1
  have f2 := H2.frozen 2
  simp only [List.getElem?_toArray, List.getElem?_cons_zero, List.getElem?_cons_succ] at c0 c1 c2 d0 d1 d2
  have HH := Lib.hid H2; clear H1 H2
  have hne : w.heap.size + 1 ≠ N1 := by omega
  go_region_held3 (fun w' => w'.cell? ⟨N1, 0, none⟩ = some (.string S') ∧ w'.cell? ⟨N1, 1, none⟩ = some (.int .i64 p') ∧ w'.cell? ⟨N1, 2, none⟩ = some (.int .i64 e')) (first | go_keep)
    (first | ((with_reducible refine (HU.out _).mono ?_); rintro r w2 ⟨rfl, rfl⟩))
  all_goals go_wp2_with fail
  all_goals
    refine bodyPost_ret (v := .tuple #[.agg #[.string S', .int .i64 p', .int .i64 e'], .int .i64 m]) (by simp [results, Try.results36, go_sem, d0, d1, d2]) rfl (HR _ _ rfl ?_)
    repeat' (first | exact hB2 | refine Below.setCell ?_ (by simp) _ | refine Below.alloc ?_ (by simp) _ | refine Below.drew ?_)
#print axioms rsigned_any

set_option maxRecDepth 100000 in
set_option maxHeartbeats 1000000 in
theorem rdone_any (ys : List Int) (p n : Nat) (e : Int) (hn : n = p + ys.length) (w : World) :
    Calls Try.prog 40 #[.agg #[.string (strOfNums ys), .int .i64 p, .int .i64 e]] w (RTook Value.bool w ys p ((doneI n p e).1, p, (doneI n p e).2)) := by
  by_cases he : e = 0
  · subst he
    cases ys with
    | nil =>
      have hd : doneI n p 0 = (true, 0) := by unfold doneI; rw [if_pos rfl, if_neg (by simp at hn; omega)]
      rw [hd]
      have q2 : (strOfNums []).toList = [] := (toList_of []).2 rfl
      have q1 : ((strOfNums []).toList == []) = true := by rw [q2]; rfl
      have q3 : (strOfNums []).toList.isEmpty = true := by rw [q2]; rfl
      have HR : Ends Value.bool w [] p (true, p, 0) (.tuple #[.agg #[.string (strOfNums []), .int .i64 p, .int .i64 0], .bool true]) := ends_of (by simp)
      clear hn hd
      generalize strOfNums [] = S at *
      go_enter Try.func40, Try.ntmps40
      go_wp2_with fail
      go_region
      all_goals go_wp2_with fail
      all_goals
        refine bodyPost_ret (v := .tuple #[.agg #[.string S, .int .i64 p, .int .i64 0], .bool true]) (by simp [results, Try.results40, go_sem]) rfl (HR _ _ rfl ?_)
        repeat' (first | exact hB | exact Below.refl _ _ | refine Below.setCell ?_ (by simp) _ | refine Below.alloc ?_ (by simp) _ | refine Below.drew ?_)
    | cons y r =>
      have hd : doneI n p 0 = (false, 4) := by unfold doneI; rw [if_pos rfl, if_pos (by simp at hn; omega)]
      rw [hd]
      have q2 : ¬ (strOfNums (y :: r)).toList = [] := fun h => by have := (toList_of (y :: r)).1 h; cases this
      have q1 : ((strOfNums (y :: r)).toList == []) = false := beq_eq_false_iff_ne.2 q2
      have q3 : (strOfNums (y :: r)).toList.isEmpty = false := by
        cases h : (strOfNums (y :: r)).toList with
        | nil => exact absurd h q2
        | cons => rfl
      have HR : Ends Value.bool w (y :: r) p (false, p, 4) (.tuple #[.agg #[.string (strOfNums (y :: r)), .int .i64 p, .int .i64 4], .bool false]) := ends_of (by simp)
      clear hn hd
      generalize strOfNums (y :: r) = S at *
      go_enter Try.func40, Try.ntmps40
      go_wp2_with fail
      refine (on_err S p 0 4 0 (by omega) _).mono ?_
      rintro r w1 ⟨rfl, hb1⟩
      obtain ⟨hc, hf⟩ := old_cells hb1
      have hz : w.heap.size + 1 < w1.heap.size := by have := hb1.size; simp at this; omega
      have hB : Below w.heap.size w w1 := by
        refine Below.trans ?_ (hb1.mono (by simp; omega))
        repeat' (first | exact Below.refl _ _ | refine Below.setCell ?_ (by simp) _ | refine Below.alloc ?_ (by simp) _ | refine Below.drew ?_)
      go_wp2_with fail
      refine bodyPost_ret (v := .tuple #[.agg #[.string S, .int .i64 p, .int .i64 4], .bool false]) (by simp [results, Try.results40, go_sem, hc]) rfl (HR _ _ rfl ?_)
      repeat' (first | exact hB | exact Below.refl _ _ | refine Below.setCell ?_ (by simp) _ | refine Below.alloc ?_ (by simp) _ | refine Below.drew ?_)
  · have hd : doneI n p e = (false, e) := by unfold doneI; rw [if_neg he]
    rw [hd]
    have q1 : (e == 0) = false := beq_eq_false_iff_ne.2 he
    have HR : Ends Value.bool w ys p (false, p, e) (.tuple #[.agg #[.string (strOfNums ys), .int .i64 p, .int .i64 e], .bool false]) := ends_of (by simp)
    clear hn hd
    generalize strOfNums ys = S at *
    go_enter Try.func40, Try.ntmps40
    go_wp2_with fail
    go_region
    all_goals go_wp2_with fail
    all_goals
      refine bodyPost_ret (v := .tuple #[.agg #[.string S, .int .i64 p, .int .i64 e], .bool false]) (by simp [results, Try.results40, go_sem]) rfl (HR _ _ rfl ?_)
      repeat' (first | exact hB | exact Below.refl _ _ | refine Below.setCell ?_ (by simp) _ | refine Below.alloc ?_ (by simp) _ | refine Below.drew ?_)
#print axioms rdone_any
end Go.Proofs.Ytbbcbhecppnboaa
