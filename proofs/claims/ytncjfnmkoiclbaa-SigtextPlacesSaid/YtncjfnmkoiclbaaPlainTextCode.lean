/-
  The program's way through a line and a text, in plain numbers: cut at a byte, word by word; it comes to the document's. No program here.
-/
import Derived.Test.YtncjfnmkoiclbaaPlainSigtext
namespace Go.Proofs.Ytncjfnmkoiclbaa

/-- A text, cut at the first byte c. -/
def cutB (c : Int) : List Int → List Int × List Int × Bool
  | [] => ([], [], false)
  | x :: s => if x = c then ([], s, true) else (x :: (cutB c s).1, (cutB c s).2.1, (cutB c s).2.2)
theorem cutB_hit {c : Int} : ∀ (a b : List Int), (∀ x ∈ a, x ≠ c) → cutB c (a ++ c :: b) = (a, b, true)
  | [], b, _ => by rw [List.nil_append, cutB, if_pos rfl]
  | x :: a, b, h => by
    rw [List.cons_append, cutB, if_neg (h x (by simp)), cutB_hit a b (fun y hy => h y (List.mem_cons_of_mem _ hy))]
theorem cutB_miss {c : Int} : ∀ s : List Int, (∀ x ∈ s, x ≠ c) → cutB c s = (s, [], false)
  | [], _ => rfl
  | x :: s, h => by rw [cutB, if_neg (h x (by simp)), cutB_miss s (fun y hy => h y (List.mem_cons_of_mem _ hy))]
theorem cutB_ways (c : Int) : ∀ s : List Int, (cutB c s = (s, [], false) ∧ ∀ x ∈ s, x ≠ c) ∨ ∃ a b, s = a ++ c :: b ∧ (∀ x ∈ a, x ≠ c) ∧ cutB c s = (a, b, true)
  | [] => .inl ⟨rfl, by simp⟩
  | x :: s => by
    by_cases hx : x = c
    · subst hx
      exact .inr ⟨[], s, rfl, by simp, by rw [cutB, if_pos rfl]⟩
    · rcases cutB_ways c s with ⟨e, h⟩ | ⟨a, b, e, h, e2⟩
      · refine .inl ⟨by rw [cutB, if_neg hx, e], fun y hy => ?_⟩
        rcases List.mem_cons.1 hy with rfl | hy
        · exact hx
        · exact h y hy
      · refine .inr ⟨x :: a, b, by rw [e]; rfl, fun y hy => ?_, by rw [cutB, if_neg hx, e2]⟩
        rcases List.mem_cons.1 hy with rfl | hy
        · exact hx
        · exact h y hy
/-- At a line feed. -/
theorem cutB_line (s : List Int) : (cutB 10 s).1 = s.take (endL s) ∧ (cutB 10 s).2.1 = s.drop (endL s + 1) ∧ (cutB 10 s).1.length = endL s ∧ ((cutB 10 s).2.2 = true ↔ endL s ≠ s.length) := by
  rcases cutB_ways 10 s with ⟨e, h⟩ | ⟨a, b, e, h, e2⟩
  · have hend : endL s = s.length := by
      have h1 := endL_le s
      rcases Nat.lt_or_ge (endL s) s.length with h2 | h2
      · have h3 := endL_at s h2
        exact absurd rfl (h 10 (by rw [h3]; simp))
      · omega
    rw [e, hend]
    refine ⟨by simp, by simp, rfl, by simp⟩
  · rw [e2]
    have hend : endL s = a.length := by rw [e, endL_line a b h]
    rw [hend, e]
    refine ⟨by simp, ?_, rfl, by simp⟩
    rw [show a.length + 1 = a.length + 1 from rfl, ← List.drop_drop, List.drop_left]
    rfl

/-- The types that a list of words tells; f: more than it has bytes. -/
def wordsC : Nat → List Int → Option (List Int)
  | 0, _ => none
  | f + 1, s => match typeOf (cutB 44 s).1 with
    | [] => none
    | t :: _ => if (cutB 44 s).2.2 then (wordsC f (cutB 44 s).2.1).map (t :: ·) else some [t]
def argsC (s : List Int) : Option (List Int) := if s = [] then some [] else wordsC (s.length + 1) s
def predC (s : List Int) : Option Pr :=
  if (cutB 40 s).2.2 = false ∨ (cutB 41 (cutB 40 s).2.1).2.2 = false ∨ (cutB 41 (cutB 40 s).2.1).2.1 ≠ [] ∨ okName (cutB 40 s).1 = false then none
  else (argsC (cutB 41 (cutB 40 s).2.1).1).map (fun a => ⟨(cutB 40 s).1, a⟩)

theorem typeOf_cons {s : List Int} {t : Int} {l : List Int} (h : typeOf s = t :: l) : (t = 1 ∨ t = 2) ∧ wordT t = s ∧ l = [] := by
  unfold typeOf at h
  split at h
  · rename_i hs
    simp only [List.cons.injEq] at h
    obtain ⟨rfl, rfl⟩ := h
    exact ⟨.inl rfl, hs.symm, rfl⟩
  · split at h
    · rename_i hs
      simp only [List.cons.injEq] at h
      obtain ⟨rfl, rfl⟩ := h
      exact ⟨.inr rfl, hs.symm, rfl⟩
    · cases h
theorem argsF_false {l : List Int} (h : l ≠ []) : argsF false l = 44 :: argsF true l := by
  cases l with
  | nil => exact absurd rfl h
  | cons t l => simp [argsF]
theorem wordsC_is : ∀ (f : Nat) (s l : List Int), wordsC f s = some l → l ≠ [] ∧ (∀ t ∈ l, t = 1 ∨ t = 2) ∧ argsF true l = s
  | 0, _, _, h => by cases h
  | f + 1, s, l, h => by
    rw [wordsC] at h
    split at h
    · cases h
    · rename_i t r ht
      obtain ⟨h1, h2, _⟩ := typeOf_cons ht
      rcases cutB_ways 44 s with ⟨e, hs⟩ | ⟨a, b, e, hs, e2⟩
      · rw [e] at h h2
        simp only [Bool.false_eq_true, if_false, Option.some.injEq] at h
        subst h
        exact ⟨by simp, fun x hx => by obtain rfl : x = t := by simpa using hx
                                       exact h1, by simp [argsF]; exact h2⟩
      · rw [e2] at h h2
        simp only [if_true, Option.map_eq_some_iff] at h
        obtain ⟨m, hm, rfl⟩ := h
        obtain ⟨q1, q2, q3⟩ := wordsC_is f b m hm
        refine ⟨by simp, fun x hx => ?_, ?_⟩
        · rcases List.mem_cons.1 hx with rfl | hx
          · exact h1
          · exact q2 x hx
        · rw [argsF, argsF_false q1, q3, h2, e]
          simp
theorem wordsC_words : ∀ (l : List Int) (f : Nat), l ≠ [] → (∀ t ∈ l, t = 1 ∨ t = 2) → (argsF true l).length < f → wordsC f (argsF true l) = some l
  | [], _, h, _, _ => absurd rfl h
  | [t], 0, _, _, h => by omega
  | [t], f + 1, _, ht, _ => by
    have e : argsF true [t] = wordT t := by simp [argsF]
    rw [e, wordsC, cutB_miss _ (fun x hx => (wordT_no hx).1), typeOf_word (ht t (by simp))]
    rfl
  | t :: u :: l, 0, _, _, h => by omega
  | t :: u :: l, f + 1, _, ht, hf => by
    have e : argsF true (t :: u :: l) = wordT t ++ 44 :: argsF true (u :: l) := by simp [argsF]
    rw [e] at hf ⊢
    rw [wordsC, cutB_hit _ _ (fun x hx => (wordT_no hx).1), typeOf_word (ht t (by simp))]
    simp only [if_true]
    rw [wordsC_words (u :: l) f (by simp) (fun x hx => ht x (List.mem_cons_of_mem _ hx)) (by simp at hf; omega)]
    rfl
theorem argsF_no41 : ∀ (b : Bool) (l : List Int), ∀ c ∈ argsF b l, c ≠ 41
  | _, [], c, h => by simp [argsF] at h
  | b, t :: l, c, h => by
    rw [argsF] at h
    rcases List.mem_append.1 h with h | h
    · rcases List.mem_append.1 h with h | h
      · cases b <;> simp at h
        omega
      · exact (wordT_no h).2.1
    · exact argsF_no41 false l c h
theorem argsC_is {s l : List Int} (h : argsC s = some l) : (∀ t ∈ l, t = 1 ∨ t = 2) ∧ argsF true l = s := by
  unfold argsC at h
  split at h
  · rename_i h0
    simp only [Option.some.injEq] at h
    subst h h0
    exact ⟨by simp, rfl⟩
  · exact (wordsC_is _ _ _ h).2
theorem argsC_args {l : List Int} (h : ∀ t ∈ l, t = 1 ∨ t = 2) : argsC (argsF true l) = some l := by
  unfold argsC
  by_cases h0 : l = []
  · subst h0
    exact if_pos rfl
  · rw [if_neg (fun e => ?_), wordsC_words l _ h0 h (by omega)]
    cases l with
    | nil => exact h0 rfl
    | cons t l =>
      rw [argsF] at e
      simp at e
      have := e.1
      unfold wordT at this
      split at this <;> simp at this
theorem predC_line {s : List Int} {p : Pr} (h : predC s = some p) : IsLine s p := by
  unfold predC at h
  split at h
  · cases h
  · rename_i hn
    simp only [not_or, Bool.not_eq_false, ne_eq, Classical.not_not] at hn
    obtain ⟨h1, h2, h3, h4⟩ := hn
    rw [Option.map_eq_some_iff] at h
    obtain ⟨l, hl, rfl⟩ := h
    obtain ⟨q1, q2⟩ := argsC_is hl
    refine ⟨h4, q1, ?_⟩
    rcases cutB_ways 40 s with ⟨e, _⟩ | ⟨a, b, e, _, e2⟩
    · rw [e] at h1; cases h1
    · rw [e2] at h2 h3 q2 ⊢
      simp only at h2 h3 q2 ⊢
      rcases cutB_ways 41 b with ⟨e3, _⟩ | ⟨c, d, e3, _, e4⟩
      · rw [e3] at h2; cases h2
      · rw [e4] at h3 q2
        simp only at h3 q2
        subst h3
        rw [e, e3, lineP, q2]
        simp
theorem line_predC {s : List Int} {p : Pr} (h : IsLine s p) : predC s = some p := by
  obtain ⟨h1, h2, rfl⟩ := h
  have hall := okName_all h1
  have e : lineP p = p.name ++ 40 :: (argsF true p.args ++ 41 :: []) := by simp [lineP]
  have c1 : cutB 40 (lineP p) = (p.name, argsF true p.args ++ 41 :: [], true) := by rw [e, cutB_hit _ _ (fun x hx => (nameB_no (hall x hx)).1)]
  have c2 : cutB 41 (argsF true p.args ++ 41 :: []) = (argsF true p.args, [], true) := cutB_hit _ _ (argsF_no41 true p.args)
  unfold predC
  rw [c1, c2]
  simp only [h1]
  rw [if_neg (by simp), argsC_args h2]
  rfl
theorem predC_eq (s : List Int) : predC s = if okLine s then some (predR s) else none := by
  by_cases h : okLine s = true
  · rw [if_pos h]
    exact line_predC (okLine_is h)
  · rw [if_neg h]
    cases hp : predC s with
    | none => rfl
    | some p => exact absurd (okLine_iff.2 ⟨p, predC_line hp⟩) h
/-- Why a line may not stand behind L's. -/
def nextE (L : List Pr) (s : List Int) : Int :=
  if okLine s = false then 4 else if 0 ≤ findP L (predR s).name then 9 else if 8 < (predR s).args.length ∨ 64 ≤ L.length then 6 else 0
/-- A round of Parse. -/
theorem parseF_step {f n : Nat} {L : List Pr} {s : List Int} (hs : s ≠ []) (hn : n = L.length + 1) : parseF (f + 1) n L s =
    if nextE L (cutB 10 s).1 ≠ 0 then ⟨[], nextE L (cutB 10 s).1, n, 1⟩
    else if (cutB 10 s).2.2 = false then ⟨[], 4, n, (cutB 10 s).1.length + 1⟩
    else parseF f (n + 1) (L ++ [predR (cutB 10 s).1]) (cutB 10 s).2.1 := by
  obtain ⟨c1, c2, c3, c4⟩ := cutB_line s
  rw [parseF, if_neg hs, c2, c3]
  rw [c1]
  by_cases h1 : okLine (s.take (endL s)) = false
  · rw [if_pos h1, if_pos (by simp [nextE, h1])]
    simp [nextE, h1]
  · rw [if_neg h1]
    by_cases h2 : 0 ≤ findP L (predR (s.take (endL s))).name
    · rw [if_pos h2, if_pos (by simp [nextE, h1, h2])]
      simp [nextE, h1, h2]
    · rw [if_neg h2]
      by_cases h3 : 8 < (predR (s.take (endL s))).args.length ∨ 64 < n
      · have h3' : 8 < (predR (s.take (endL s))).args.length ∨ 64 ≤ L.length := by omega
        have e6 : nextE L (s.take (endL s)) = 6 := by unfold nextE; rw [if_neg h1, if_neg h2, if_pos h3']
        rw [if_pos h3, e6, if_pos (by decide)]
      · have h3' : ¬ (8 < (predR (s.take (endL s))).args.length ∨ 64 ≤ L.length) := by omega
        have e0 : nextE L (s.take (endL s)) = 0 := by unfold nextE; rw [if_neg h1, if_neg h2, if_neg h3']
        rw [if_neg h3, e0]
        by_cases h4 : endL s = s.length
        · have h5 : (cutB 10 s).2.2 = false := by rw [← Bool.not_eq_true, c4]; omega
          rw [if_pos h4, h5]
          simp
        · have h5 : (cutB 10 s).2.2 = true := c4.2 h4
          rw [if_neg h4, h5]
          simp
#print axioms predC_eq
#print axioms parseF_step
end Go.Proofs.Ytncjfnmkoiclbaa
