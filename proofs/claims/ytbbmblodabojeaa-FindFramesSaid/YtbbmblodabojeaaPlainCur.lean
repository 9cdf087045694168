/-
  What a cursor answers, in plain numbers: what is found at the front of bytes, and where the cursor is then. No program here.
-/
import Derived.Test.YtbbmblodabojeaaPlainBlob
import Derived.Test.YtbbmblodabojeaaPlainFold
namespace Go.Proofs.Ytbbmblodabojeaa

/-- What a cursor at place p with error e answers, where r was found at the front of what is left: the answer, the place, the error. -/
def tk {α : Type} (z : α) (p : Nat) (e : Int) (r : α × Nat × Int) : α × Nat × Int :=
  if e ≠ 0 then (z, p, e) else if r.2.2 ≠ 0 then (z, p, r.2.2) else (r.1, p + r.2.1, 0)
/-- The next byte. -/
def getB (ys : List Int) : Int × Nat × Int := match ys with | [] => (0, 0, 2) | y :: _ => (y, 1, 0)
/-- The next number, if it isn't above most. -/
def getN (most : Int) (ys : List Int) : Int × Nat × Int := if (getI ys).2.2 = 0 ∧ most < (getI ys).1 then ((getI ys).1, (getI ys).2.1, 6) else getI ys
/-- The next number, unfolded. -/
def getS (ys : List Int) : Int × Nat × Int := (unfoldI (getI ys).1, (getI ys).2.1, (getI ys).2.2)

section
variable {α : Type} {z : α} {p : Nat} {e : Int} {r : α × Nat × Int}
theorem tk_stopped (h : e ≠ 0) : tk z p e r = (z, p, e) := by unfold tk; rw [if_pos h]
theorem tk_err (h : r.2.2 ≠ 0) : tk z p 0 r = (z, p, r.2.2) := by unfold tk; rw [if_neg (by simp), if_pos h]
theorem tk_ok (h : r.2.2 = 0) : tk z p 0 r = (r.1, p + r.2.1, 0) := by unfold tk; rw [if_neg (by simp), if_neg (by rw [h]; simp)]
/-- Never back, never beyond; behind a stop it never moves, and its error stays. -/
theorem tk_never {n : Nat} (hp : p ≤ n) (hr : r.2.2 = 0 → r.2.1 ≤ n - p) : p ≤ (tk z p e r).2.1 ∧ (tk z p e r).2.1 ≤ n ∧ (e ≠ 0 → (tk z p e r).2.1 = p ∧ (tk z p e r).2.2 = e) := by
  by_cases he : e = 0
  · subst he
    by_cases h : r.2.2 = 0
    · rw [tk_ok h]
      have := hr h
      exact ⟨by simp, by simp only; omega, fun h => absurd rfl h⟩
    · rw [tk_err h]
      exact ⟨Nat.le_refl _, hp, fun h => absurd rfl h⟩
  · rw [tk_stopped he]
    exact ⟨Nat.le_refl _, hp, fun _ => ⟨rfl, rfl⟩⟩
end

/-- The size of what is found, and its error, are small. -/
def Fits {α : Type} (ys : List Int) (r : α × Nat × Int) : Prop := (r.2.2 = 0 → r.2.1 ≤ ys.length) ∧ 0 ≤ r.2.2 ∧ r.2.2 ≤ 6
theorem getB_fits (ys : List Int) : Fits ys (getB ys) := by
  cases ys with
  | nil => exact ⟨fun h => by simp [getB] at h, by simp [getB], by simp [getB]⟩
  | cons y r => exact ⟨fun _ => by simp [getB], by simp [getB], by simp [getB]⟩
theorem lastI_small (i : Nat) (x : Int) : 0 ≤ lastI i x ∧ lastI i x ≤ 6 := by
  unfold lastI
  split <;> (try split) <;> omega
theorem lenI_small : ∀ (ys : List Int) (i : Nat), 0 ≤ (lenI i ys).2 ∧ (lenI i ys).2 ≤ 6
  | [], i => by simp only [lenI]; split <;> simp
  | x :: r, i => by
    simp only [lenI]
    split
    · simp
    · split
      · exact lastI_small i x
      · exact lenI_small r (i + 1)
theorem getI_fits (ys : List Int) (hb : ∀ x ∈ ys, 0 ≤ x ∧ x < 256) : Fits ys (getI ys) := by
  refine ⟨fun h => ?_, ?_⟩
  · obtain ⟨n, s, hgi, _, h2, _⟩ := getI_ok ys hb h
    rw [hgi]
    exact h2
  · unfold getI
    split
    · simp
    · exact lenI_small ys 0
theorem getN_fits (most : Int) (ys : List Int) (hb : ∀ x ∈ ys, 0 ≤ x ∧ x < 256) : Fits ys (getN most ys) := by
  unfold getN
  split
  · exact ⟨fun h => by simp at h, by simp, by simp⟩
  · exact getI_fits ys hb
theorem getS_fits (ys : List Int) (hb : ∀ x ∈ ys, 0 ≤ x ∧ x < 256) : Fits ys (getS ys) := getI_fits ys hb
theorem getT_fits (most : Int) (ys : List Int) (hb : ∀ x ∈ ys, 0 ≤ x ∧ x < 256) : Fits ys (getT most ys) := by
  refine ⟨fun h => (getT_size ys hb).1, ?_⟩
  have h := (getI_fits ys hb).2
  unfold getT
  split
  · exact h
  · split
    · simp
    · split <;> simp
/-- The number that is read is one of 64 bits. -/
theorem getI_range (ys : List Int) (hb : ∀ x ∈ ys, 0 ≤ x ∧ x < 256) : 0 ≤ (getI ys).1 ∧ (getI ys).1 ≤ 18446744073709551615 := by
  by_cases h : (getI ys).2.2 = 0
  · obtain ⟨n, s, hgi, _, _, _, _, h6⟩ := getI_ok ys hb h
    rw [hgi]
    simp only
    omega
  · unfold getI at h ⊢
    split
    · rename_i h2
      rw [if_pos h2] at h
      exact absurd rfl h
    · simp
theorem getI_zero (ys : List Int) (h : (getI ys).2.2 ≠ 0) : (getI ys).1 = 0 ∧ (getI ys).2.1 = 0 := by
  unfold getI at h ⊢
  split
  · rename_i h2
    rw [if_pos h2] at h
    exact absurd rfl h
  · simp
theorem getT_zero (most : Int) (ys : List Int) (h : (getT most ys).2.2 ≠ 0) : (getT most ys).1 = [] ∧ (getT most ys).2.1 = 0 := by
  unfold getT at h ⊢
  split
  · simp
  · split
    · simp
    · split
      · simp
      · rename_i h1 h2 h3
        rw [if_neg h1, if_neg h2, if_neg h3] at h
        exact absurd rfl h
theorem drop_bytes {xs : List Int} (hb : ∀ x ∈ xs, 0 ≤ x ∧ x < 256) (p : Nat) : ∀ x ∈ xs.drop p, 0 ≤ x ∧ x < 256 := fun x hx => hb x (List.mem_of_mem_drop hx)
end Go.Proofs.Ytbbmblodabojeaa
