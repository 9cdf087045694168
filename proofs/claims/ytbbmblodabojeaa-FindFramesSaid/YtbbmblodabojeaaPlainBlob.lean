/-
  Texts as bytes, as plain mathematics: a text's bytes, the text that bytes begin with, the texts of bytes. No program here.
-/
import Derived.Test.YtbbmblodabojeaaPlainGet
namespace Go.Proofs.Ytbbmblodabojeaa

/-- A text's bytes. -/
def encT (s : List Int) : List Int := encI s.length ++ s
/-- The text that bytes begin with, how many bytes it has, the error. -/
def getT (most : Int) (xs : List Int) : List Int × Nat × Int :=
  if (getI xs).2.2 ≠ 0 then ([], 0, (getI xs).2.2)
  else if max most 0 < (getI xs).1 then ([], 0, 6)
  else if ((xs.length - (getI xs).2.1 : Nat) : Int) < (getI xs).1 then ([], 0, 2)
  else ((xs.drop (getI xs).2.1).take (getI xs).1.toNat, (getI xs).2.1 + (getI xs).1.toNat, 0)

theorem encT_length (s : List Int) : (encT s).length = (encI s.length).length + s.length := by simp [encT]

/-- What getI says of bytes whose number is read. -/
theorem getI_ok (xs : List Int) (hb : ∀ x ∈ xs, 0 ≤ x ∧ x < 256) (h : (getI xs).2.2 = 0) :
    ∃ n s : Nat, getI xs = ((n : Int), s, 0) ∧ 1 ≤ s ∧ s ≤ xs.length ∧ s ≤ 10 ∧ encI n = xs.take s ∧ n < 18446744073709551616 := by
  by_cases hok : (lenI 0 xs).2 = 0
  · obtain ⟨k1, k2, k3, k4, k5⟩ := getI_back xs hb hok
    have hv0 := val_nonneg (xs.take (lenI 0 xs).1)
    refine ⟨(val (xs.take (lenI 0 xs).1)).toNat, (lenI 0 xs).1, ?_, k1, k2, k3, k4, by omega⟩
    unfold getI
    rw [if_pos hok, Int.toNat_of_nonneg hv0]
  · exfalso
    unfold getI at h
    rw [if_neg hok] at h
    exact hok h

theorem getT_err {most : Int} {xs : List Int} {er : Int} (h : (getI xs).2.2 = er) (hne : er ≠ 0) : getT most xs = ([], 0, er) := by
  unfold getT
  rw [if_pos (by rw [h]; exact hne), h]
theorem getT_limit {most : Int} {xs : List Int} {n s : Nat} (h : getI xs = ((n : Int), s, 0)) (hl : max most 0 < (n : Int)) : getT most xs = ([], 0, 6) := by
  unfold getT
  rw [h, if_neg (by simp), if_pos hl]
theorem getT_short {most : Int} {xs : List Int} {n s : Nat} (h : getI xs = ((n : Int), s, 0)) (hl : ¬ max most 0 < (n : Int)) (hs : xs.length - s < n) : getT most xs = ([], 0, 2) := by
  unfold getT
  rw [h, if_neg (by simp), if_neg hl, if_pos (by simp only; omega)]
theorem getT_ok {most : Int} {xs : List Int} {n s : Nat} (h : getI xs = ((n : Int), s, 0)) (hl : ¬ max most 0 < (n : Int)) (hs : ¬ xs.length - s < n) : getT most xs = ((xs.drop s).take n, s + n, 0) := by
  unfold getT
  rw [h, if_neg (by simp), if_neg hl, if_neg (by simp only; omega)]
  simp

/-- The text of a text's bytes, with whatever behind. -/
theorem getT_enc {most : Int} {s : List Int} (hs : s.length < 18446744073709551616) (hm : ¬ max most 0 < (s.length : Int)) (rest : List Int) : getT most (encT s ++ rest) = (s, (encT s).length, 0) := by
  have h := getI_enc hs (s ++ rest)
  rw [encT, List.append_assoc, getT_ok h hm (by simp)]
  simp
theorem getT_over {most : Int} {s : List Int} (hs : s.length < 18446744073709551616) (hm : max most 0 < (s.length : Int)) (rest : List Int) : getT most (encT s ++ rest) = ([], 0, 6) := by
  have h := getI_enc hs (s ++ rest)
  rw [encT, List.append_assoc, getT_limit h hm]
/-- Of a text's bytes, cut off, none is read. -/
theorem getT_cut {most : Int} {s : List Int} {c : Nat} (hs : s.length < 18446744073709551616) (hm : ¬ max most 0 < (s.length : Int)) (hc : c < (encT s).length) : getT most ((encT s).take c) = ([], 0, 2) := by
  rw [encT_length] at hc
  by_cases h : c < (encI s.length).length
  · have e : (encT s).take c = (encI s.length).take c := by rw [encT, List.take_append_of_le_length (by omega)]
    rw [e]
    exact getT_err (by rw [getI_cut hs h]) (by omega)
  · have e : (encT s).take c = encI s.length ++ s.take (c - (encI s.length).length) := by
      rw [encT, List.take_append, List.take_of_length_le (by omega)]
    rw [e]
    exact getT_short (getI_enc hs _) hm (by simp; omega)
/-- What is read has just the bytes that it was read from. -/
theorem getT_back {most : Int} (xs : List Int) (hb : ∀ x ∈ xs, 0 ≤ x ∧ x < 256) (h : (getT most xs).2.2 = 0) :
    1 ≤ (getT most xs).2.1 ∧ (getT most xs).2.1 ≤ xs.length ∧ encT (getT most xs).1 = xs.take (getT most xs).2.1 ∧ (getT most xs).1.length ≤ xs.length ∧ (∀ x ∈ (getT most xs).1, 0 ≤ x ∧ x < 256) := by
  by_cases he : (getI xs).2.2 = 0
  · obtain ⟨n, s, hg, h1, h2, h3, h4, h5⟩ := getI_ok xs hb he
    by_cases hl : max most 0 < (n : Int)
    · rw [getT_limit hg hl] at h; simp at h
    · by_cases hs : xs.length - s < n
      · rw [getT_short hg hl hs] at h; simp at h
      · rw [getT_ok hg hl hs]
        have hlen : ((xs.drop s).take n).length = n := by simp; omega
        refine ⟨by simp only; omega, by simp only; omega, ?_, by simp; omega, fun x hx => hb x (List.mem_of_mem_drop (List.mem_of_mem_take hx))⟩
        simp only [encT, hlen, h4]
        rw [List.take_add]
  · rw [getT_err rfl he] at h
    exact absurd h he
theorem getT_size {most : Int} (xs : List Int) (hb : ∀ x ∈ xs, 0 ≤ x ∧ x < 256) : (getT most xs).2.1 ≤ xs.length ∧ (getT most xs).1.length ≤ xs.length ∧ (∀ x ∈ (getT most xs).1, 0 ≤ x ∧ x < 256) := by
  by_cases h : (getT most xs).2.2 = 0
  · obtain ⟨_, h2, _, h4, h5⟩ := getT_back xs hb h
    exact ⟨h2, h4, h5⟩
  · unfold getT at h ⊢
    split
    · simp
    · split
      · simp
      · split
        · simp
        · rename_i a b c
          rw [if_neg a, if_neg b, if_neg c] at h
          exact absurd rfl h

/-- Texts ahead of what is read of the rest. -/
def glue (pre : List (List Int)) (r : List (List Int) × Int) : List (List Int) × Int := if r.2 = 0 then (pre ++ r.1, 0) else ([], r.2)
/-- The texts of bytes, so many at most. -/
def allF (most : Int) : Nat → List Int → List (List Int) × Int
  | 0, _ => ([], 0)
  | k + 1, xs => if xs = [] then ([], 0) else if (getT most xs).2.2 ≠ 0 then ([], (getT most xs).2.2) else glue [(getT most xs).1] (allF most k (xs.drop (getT most xs).2.1))
/-- The texts of bytes, the error. -/
def allT (most : Int) (xs : List Int) : List (List Int) × Int := allF most xs.length xs

theorem glue_nil (r : List (List Int) × Int) (h : r.2 ≠ 0 → r.1 = []) : glue [] r = r := by
  obtain ⟨a, b⟩ := r
  unfold glue
  by_cases hb : b = 0
  · simp [hb]
  · simp only [hb, if_false]
    rw [show a = [] from h hb]
theorem glue_glue (p q : List (List Int)) (r : List (List Int) × Int) : glue p (glue q r) = glue (p ++ q) r := by
  unfold glue
  by_cases h : r.2 = 0
  · simp [h]
  · simp [h]

theorem allF_same {most : Int} (k : Nat) : ∀ (m : Nat) (xs : List Int), (∀ x ∈ xs, 0 ≤ x ∧ x < 256) → xs.length ≤ k → xs.length ≤ m → allF most k xs = allF most m xs := by
  induction k with
  | zero =>
    intro m xs _ hk hm
    obtain rfl : xs = [] := List.eq_nil_of_length_eq_zero (by omega)
    cases m <;> simp [allF]
  | succ k ih =>
    intro m xs hb hk hm
    cases m with
    | zero =>
      obtain rfl : xs = [] := List.eq_nil_of_length_eq_zero (by omega)
      simp [allF]
    | succ m =>
      simp only [allF]
      by_cases h0 : xs = []
      · rw [if_pos h0, if_pos h0]
      · rw [if_neg h0, if_neg h0]
        by_cases he : (getT most xs).2.2 = 0
        · obtain ⟨h1, h2, _⟩ := getT_back xs hb he
          rw [if_neg (by simp [he]), if_neg (by simp [he]), ih m _ (fun x hx => hb x (List.mem_of_mem_drop hx)) (by simp; omega) (by simp; omega)]
        · rw [if_pos he, if_pos he]

theorem allT_nil (most : Int) : allT most [] = ([], 0) := rfl
theorem allT_err {most : Int} {xs : List Int} (h0 : xs ≠ []) (h : (getT most xs).2.2 ≠ 0) : allT most xs = ([], (getT most xs).2.2) := by
  unfold allT
  cases xs with
  | nil => exact absurd rfl h0
  | cons x r => rw [List.length_cons, allF, if_neg h0, if_pos h]
theorem allT_ok {most : Int} {xs : List Int} (hb : ∀ x ∈ xs, 0 ≤ x ∧ x < 256) (h0 : xs ≠ []) (h : (getT most xs).2.2 = 0) : allT most xs = glue [(getT most xs).1] (allT most (xs.drop (getT most xs).2.1)) := by
  obtain ⟨h1, h2, _⟩ := getT_back xs hb h
  unfold allT
  have hp : 0 < xs.length := List.length_pos_iff.2 h0
  obtain ⟨k, hk⟩ : ∃ k, xs.length = k + 1 := ⟨xs.length - 1, by omega⟩
  rw [hk, allF, if_neg h0, if_neg (by simp [h]), allF_same k (xs.drop (getT most xs).2.1).length _ (fun x hx => hb x (List.mem_of_mem_drop hx)) (by simp; omega) (by simp)]
theorem allT_none (most : Int) (xs : List Int) : (allT most xs).2 ≠ 0 → (allT most xs).1 = [] := by
  unfold allT
  cases xs.length with
  | zero => simp [allF]
  | succ k =>
    simp only [allF]
    split
    · simp
    · split
      · simp
      · unfold glue
        split
        · simp
        · simp

/-- Texts' bytes, one behind the other. -/
def catT (l : List (List Int)) : List Int := l.flatMap encT
theorem catT_snoc (l : List (List Int)) (s : List Int) : catT (l ++ [s]) = catT l ++ encT s := by simp [catT]
theorem encT_bytes {s : List Int} (hs : s.length < 18446744073709551616) (hb : ∀ x ∈ s, 0 ≤ x ∧ x < 256) : ∀ x ∈ encT s, 0 ≤ x ∧ x < 256 := fun x hx => by
  rcases List.mem_append.1 hx with h | h
  · exact encI_bytes hs x h
  · exact hb x h
theorem encT_pos {s : List Int} (hs : s.length < 18446744073709551616) : 0 < (encT s).length := by
  have := (encI_ten hs).1
  rw [encT_length]; omega
theorem catT_bytes : ∀ l : List (List Int), (∀ s ∈ l, s.length < 18446744073709551616 ∧ ∀ x ∈ s, 0 ≤ x ∧ x < 256) → ∀ x ∈ catT l, 0 ≤ x ∧ x < 256 := by
  intro l h x hx
  obtain ⟨s, hs, hx⟩ := List.mem_flatMap.1 hx
  exact encT_bytes (h s hs).1 (h s hs).2 x hx
/-- Texts ahead of other bytes are read first. -/
theorem allT_cat {most : Int} (rest : List Int) (hr : ∀ x ∈ rest, 0 ≤ x ∧ x < 256) : ∀ l : List (List Int), (∀ s ∈ l, s.length < 18446744073709551616 ∧ ¬ max most 0 < (s.length : Int) ∧ ∀ x ∈ s, 0 ≤ x ∧ x < 256) → allT most (catT l ++ rest) = glue l (allT most rest) := by
  intro l
  induction l with
  | nil =>
    intro _
    rw [glue_nil _ (allT_none most rest)]
    simp [catT]
  | cons s l ih =>
    intro h
    obtain ⟨h1, h2, h3⟩ := h s (by simp)
    have hl : ∀ t ∈ l, t.length < 18446744073709551616 ∧ ¬ max most 0 < (t.length : Int) ∧ ∀ x ∈ t, 0 ≤ x ∧ x < 256 := fun t ht => h t (by simp [ht])
    have e : catT (s :: l) ++ rest = encT s ++ (catT l ++ rest) := by simp [catT]
    have hg := getT_enc h1 h2 (catT l ++ rest)
    have hb : ∀ x ∈ encT s ++ (catT l ++ rest), 0 ≤ x ∧ x < 256 := fun x hx => by
      rcases List.mem_append.1 hx with h | h
      · exact encT_bytes h1 h3 x h
      · rcases List.mem_append.1 h with h | h
        · exact catT_bytes l (fun t ht => ⟨(hl t ht).1, (hl t ht).2.2⟩) x h
        · exact hr x h
    have hne : encT s ++ (catT l ++ rest) ≠ [] := by
      have := encT_pos h1
      intro h0
      have h0' := congrArg List.length h0
      rw [List.length_append, List.length_nil] at h0'
      omega
    rw [e, allT_ok hb hne (by rw [hg]), hg]
    simp only [List.drop_left]
    rw [ih hl, glue_glue]
    rfl

theorem catT_take_succ (l : List (List Int)) {k : Nat} {t : List Int} (h : l[k]? = some t) : catT (l.take (k + 1)) = catT (l.take k) ++ encT t := by
  obtain ⟨hk, rfl⟩ := List.getElem?_eq_some_iff.1 h
  rw [List.take_succ_eq_append_getElem hk, catT_snoc]
theorem catT_le (B : Nat) (hB : B < 18446744073709551616) : ∀ l : List (List Int), (∀ t ∈ l, t.length ≤ B) → (catT l).length ≤ (B + 10) * l.length
  | [], _ => by simp [catT]
  | s :: l, h => by
    have h1 := catT_le B hB l (fun t ht => h t (by simp [ht]))
    have h2 := h s (by simp)
    have h3 := (encI_ten (n := s.length) (by omega)).2
    have e : catT (s :: l) = encT s ++ catT l := by simp [catT]
    rw [e, List.length_append, encT_length, List.length_cons, Nat.mul_succ]
    omega
end Go.Proofs.Ytbbmblodabojeaa
