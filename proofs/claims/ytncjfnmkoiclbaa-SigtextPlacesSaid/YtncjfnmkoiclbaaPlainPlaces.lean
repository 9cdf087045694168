/-
  Where an error is told: lines and columns of a text, byte by byte. No program here.
-/
import Derived.Test.YtncjfnmkoiclbaaPlainTextCode
namespace Go.Proofs.Ytncjfnmkoiclbaa

/-- The line and the column of the byte at a place. -/
def stL (s : List Int) : Nat → Nat × Nat
  | 0 => (1, 1)
  | i + 1 => if s.getD i 0 = 10 then ((stL s i).1 + 1, 1) else ((stL s i).1, (stL s i).2 + 1)
theorem stL_small (s : List Int) : ∀ i, 1 ≤ (stL s i).1 ∧ (stL s i).1 ≤ i + 1 ∧ 1 ≤ (stL s i).2 ∧ (stL s i).2 ≤ i + 1
  | 0 => by simp [stL]
  | i + 1 => by
    obtain ⟨h1, h2, h3, h4⟩ := stL_small s i
    rw [stL]
    split <;> (simp only; omega)
theorem stL_line (s : List Int) : ∀ i, i ≤ s.length → (stL s i).1 = lf (s.take i) + 1
  | 0, _ => by simp [stL, lf]
  | i + 1, h => by
    have ih := stL_line s i (by omega)
    have hi : s[i]? = some (s.getD i 0) := by rw [List.getD, List.getElem?_eq_getElem (by omega)]; rfl
    rw [List.take_add_one, hi, lf_append, stL]
    generalize s.getD i 0 = x
    by_cases h10 : x = 10
    · subst h10
      rw [if_pos rfl, ih]
      rfl
    · have : lf [x] = 0 := lf_none (fun c hc => by
        obtain rfl : c = x := by simpa using hc
        exact h10)
      rw [if_neg h10, ih, Option.toList_some, this]
/-- At the front of a line. -/
theorem stL_front {s pre rest : List Int} (h : s = pre ++ rest) (hp : pre = [] ∨ ∃ a, pre = a ++ [10]) : (stL s pre.length).2 = 1 := by
  rcases hp with rfl | ⟨a, rfl⟩
  · rfl
  · have hg : s.getD a.length 0 = 10 := by
      rw [h, List.append_assoc, show a.length = a.length + 0 by omega, getD_right]
      rfl
    rw [List.length_append, show a.length + [(10 : Int)].length = a.length + 1 from rfl, stL, if_pos hg]
/-- Within a line. -/
theorem stL_within {s : List Int} {i : Nat} : ∀ n, (∀ j, i ≤ j → j < i + n → s.getD j 0 ≠ 10) → stL s (i + n) = ((stL s i).1, (stL s i).2 + n)
  | 0, _ => rfl
  | n + 1, h => by
    have ih := stL_within n (fun j h1 h2 => h j h1 (by omega))
    rw [show i + (n + 1) = (i + n) + 1 by omega, stL, if_neg (h (i + n) (by omega) (by omega)), ih]
    rfl
/-- Is the place told the one of this byte, or behind its line? -/
def AtP (s : List Int) (pl pc j : Nat) : Prop := (stL s j).1 = pl ∧ ((stL s j).2 = pc ∨ s.getD j 0 = 10 ∧ pc ≤ (stL s j).2)
theorem place_end {s : List Int} (he : (parseP s).e ≠ 0) (h : ∀ j, j < s.length → ¬ AtP s (parseP s).line (parseP s).col j) :
    (stL s s.length).1 = (parseP s).line ∧ (parseP s).col ≤ (stL s s.length).2 := by
  obtain ⟨pre, rest, e1, e2, e3, e4, e5⟩ := parseF_place (s.length + 1) 1 [] s [] (by simp [lf]) he
  change (parseP s).line = _ at e4
  change (parseP s).col = _ ∨ (parseP s).col = _ ∧ _ at e5
  rw [List.nil_append] at e1
  have hpre : pre = [] ∨ ∃ a, pre = a ++ [10] := e3
  have hfr := stL_front e1 hpre
  have hln : (stL s pre.length).1 = (parseP s).line := by
    rw [stL_line s pre.length (by rw [e1]; simp), e4, e1, List.take_left]
  have hlt : pre.length < s.length := by
    rw [e1, List.length_append]
    have : 0 < rest.length := by
      cases rest with
      | nil => exact absurd rfl e2
      | cons x r => rw [List.length_cons]; omega
    omega
  rcases e5 with e5 | ⟨e5, e6⟩
  · exact absurd ⟨hln, .inl (by rw [hfr, e5])⟩ (h pre.length hlt)
  · have hw := stL_within (s := s) (i := pre.length) rest.length (fun j h1 h2 => by
      obtain ⟨k, rfl⟩ : ∃ k, j = pre.length + k := ⟨j - pre.length, by omega⟩
      rw [e1, getD_right]
      exact e6 _ (getD_mem (by omega)))
    have hl : s.length = pre.length + rest.length := by rw [e1, List.length_append]
    rw [hl, hw, hfr, e5]
    exact ⟨hln, by simp only; omega⟩
theorem place_col {s : List Int} (he : (parseP s).e ≠ 0) : 1 ≤ (parseP s).col ∧ (parseP s).col ≤ s.length + 1 ∧ (parseP s).line ≤ s.length + 1 := by
  obtain ⟨pre, rest, e1, e2, e3, e4, e5⟩ := parseF_place (s.length + 1) 1 [] s [] (by simp [lf]) he
  change (parseP s).line = _ at e4
  change (parseP s).col = _ ∨ (parseP s).col = _ ∧ _ at e5
  rw [List.nil_append] at e1
  have hlf : ∀ t : List Int, lf t ≤ t.length := fun t => by unfold lf; exact List.length_filter_le _ _
  have := hlf pre
  have hl : s.length = pre.length + rest.length := by rw [e1, List.length_append]
  rcases e5 with e5 | ⟨e5, _⟩ <;> (rw [e4, e5]; omega)
#print axioms place_end
#print axioms place_col
end Go.Proofs.Ytncjfnmkoiclbaa
