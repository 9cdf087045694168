/-
  The document's own way through a payload, in plain numbers: predicate by predicate, by places. No program here.
-/
import Derived.Test.YtnjhkjlekepjoaaPlainSigbin
namespace Go.Proofs.Ytnjhkjlekepjoaa

theorem getL_none : ∀ (n : Nat) (ys : List Int), (getL n ys).2.2 ≠ 0 → getL n ys = ([], 0, (getL n ys).2.2)
  | 0, _, h => absurd rfl h
  | n + 1, ys, h => by
    by_cases h1 : (getP ys).2.2 = 0
    · rw [getL, if_pos h1] at h ⊢
      unfold glueP at h ⊢
      by_cases h2 : (getL n (ys.drop (getP ys).2.1)).2.2 = 0
      · rw [if_pos h2] at h
        exact absurd rfl h
      · rw [if_neg h2]
    · rw [getL_stop h1]
theorem glueP_nil (n : Nat) (ys : List Int) : glueP [] 0 (getL n ys) = getL n ys := by
  by_cases h : (getL n ys).2.2 = 0
  · generalize getL n ys = r at h ⊢
    obtain ⟨a, b, c⟩ := r
    simp only at h
    subst h
    simp [glueP]
  · rw [getL_none n ys h]
    exact glueP_err _ _ _ _ h
/-- The predicates es are read up to place p; they are the first i of n that begin at s. -/
def RdG (xs : List Int) (n s i p : Nat) (es : List Pr) : Prop := s ≤ p ∧ p ≤ xs.length ∧ i ≤ n ∧ es.length = i ∧ getL n (xs.drop s) = glueP es (p - s) (getL (n - i) (xs.drop p))
section
variable {xs : List Int} {n s i p m : Nat} {es : List Pr} {q : Pr} {e : Int}
theorem RdG.start (hs : s ≤ xs.length) : RdG xs n s 0 s [] := ⟨Nat.le_refl _, hs, Nat.zero_le _, rfl, by rw [Nat.sub_self, Nat.sub_zero, glueP_nil]⟩
theorem RdG.err (h : RdG xs n s i p es) (hi : i < n) (he : (getP (xs.drop p)).2.2 = e) (h0 : e ≠ 0) : (getL n (xs.drop s)).2.2 = e := by
  obtain ⟨_, _, _, _, h5⟩ := h
  obtain ⟨m, hm⟩ : ∃ m, n - i = m + 1 := ⟨n - i - 1, by omega⟩
  rw [h5, hm, getL_stop (by rw [he]; exact h0), he, glueP_err _ _ _ _ h0]
theorem RdG.next (h : RdG xs n s i p es) (hi : i < n) (hp : getP (xs.drop p) = (q, m, 0)) (hm : p + m ≤ xs.length) : RdG xs n s (i + 1) (p + m) (es ++ [q]) := by
  obtain ⟨h1, h2, h3, h4, h5⟩ := h
  obtain ⟨k, hk⟩ : ∃ k, n - i = k + 1 := ⟨n - i - 1, by omega⟩
  refine ⟨by omega, hm, hi, by simp [h4], ?_⟩
  rw [h5, hk, getL_step hp, glueP_glueP, List.drop_drop, show n - (i + 1) = k by omega, show p + m - s = p - s + m by omega]
theorem RdG.done (h : RdG xs n s n p es) : getL n (xs.drop s) = (es, p - s, 0) := by
  obtain ⟨_, _, _, _, h5⟩ := h
  rw [h5, Nat.sub_self]
  exact glueP_ok _ _
variable (hg : getI xs = ((n : Int), s, 0)) (hn : n ≤ 64)
include hg hn
theorem RdG.bad (h : RdG xs n s i p es) (hi : i < n) (he : (getP (xs.drop p)).2.2 = e) (h0 : e ≠ 0) : getSig xs = ([], e) := by
  have := h.err hi he h0
  rw [getSig_pred hg hn (by rw [this]; exact h0), this]
theorem RdG.form (h : RdG xs n s n p es) (hp : p < xs.length) : getSig xs = ([], 4) := by
  have h1 := h.1
  exact getSig_form hg hn h.done (by omega)
theorem RdG.check (h : RdG xs n s n p es) (hp : ¬ p < xs.length) (h5 : checkP es ≠ 0) : getSig xs = ([], checkP es) := by
  have h1 := h.1
  exact getSig_check hg hn h.done (by omega) h5
theorem RdG.ok (h : RdG xs n s n p es) (hp : ¬ p < xs.length) (h5 : checkP es = 0) : getSig xs = (es, 0) := by
  have h1 := h.1
  exact getSig_ok hg hn h.done (by omega) h5
end
#print axioms RdG.ok
end Go.Proofs.Ytnjhkjlekepjoaa
