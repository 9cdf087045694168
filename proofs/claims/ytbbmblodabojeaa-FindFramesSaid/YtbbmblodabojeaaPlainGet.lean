/-
  How a number is read of bytes, as plain mathematics: it is what was written, it has just those bytes, and of fewer bytes there is none. No program here.
-/
import Derived.Test.YtbbmblodabojeaaPlain
namespace Go.Proofs.Ytbbmblodabojeaa

/-- The number of groups, the lowest first. -/
def val : List Int → Int
  | [] => 0
  | x :: r => x % 128 + 128 * val r

theorem val_nonneg : ∀ l : List Int, 0 ≤ val l
  | [] => by simp [val]
  | x :: r => by have := val_nonneg r; simp only [val]; omega

theorem val_lt : ∀ l : List Int, val l < 128 ^ l.length
  | [] => by simp [val]
  | x :: r => by
    have h := val_lt r
    simp only [val, List.length_cons]
    rw [Int.pow_succ]
    omega

theorem val_snoc (x : Int) : ∀ l : List Int, val (l ++ [x]) = val l + 128 ^ l.length * (x % 128)
  | [] => by simp [val]
  | y :: r => by
    have h := val_snoc x r
    simp only [List.cons_append, val, h, List.length_cons]
    rw [Int.pow_succ, Int.mul_add, Int.mul_comm ((128 : Int) ^ r.length) 128, Int.mul_assoc]
    omega

theorem val_drop_le : ∀ (l : List Int) (j : Nat), val (l.drop j) ≤ val l
  | l, 0 => by simp
  | [], j + 1 => by simp
  | x :: r, j + 1 => by
    have h := val_drop_le r j
    have h0 := val_nonneg r
    simp only [List.drop_succ_cons, val]
    omega

/-- Why a byte may not be a number's last one, at its place. -/
def lastI (i : Nat) (x : Int) : Int := if i = 9 ∧ 1 < x then 3 else if 0 < i ∧ x = 0 then 4 else 0

/-- How many bytes the number has that bytes begin with, from place i on, and the error. -/
def lenI : Nat → List Int → Nat × Int
  | i, [] => if i < 10 then (0, 2) else (0, 3)
  | i, x :: r => if 10 ≤ i then (0, 3) else if x < 128 then (i + 1, lastI i x) else lenI (i + 1) r

/-- The number, how many bytes it has, the error. -/
def getI (xs : List Int) : Int × Nat × Int :=
  if (lenI 0 xs).2 = 0 then (val (xs.take (lenI 0 xs).1), (lenI 0 xs).1, 0) else (0, 0, (lenI 0 xs).2)

theorem lenI_drop (xs : List Int) : ∀ k : Nat, k ≤ 10 → (∀ j, j < k → 128 ≤ xs.getD j 0) → k ≤ xs.length → lenI 0 xs = lenI k (xs.drop k) := by
  intro k
  induction k with
  | zero => intro _ _ _; simp
  | succ k ih =>
    intro h10 hj hl
    rw [ih (by omega) (fun j h => hj j (by omega)) (by omega)]
    have hk : k < xs.length := by omega
    rw [List.drop_eq_getElem_cons hk, lenI, if_neg (by omega), if_neg]
    have := hj k (by omega)
    rw [List.getD, List.getElem?_eq_getElem hk] at this
    simpa using this

/-- The first byte below 128 is found. -/
theorem lenI_found (xs : List Int) (k : Nat) (hk : k < 10) (hj : ∀ j, j < k → 128 ≤ xs.getD j 0) (hl : k < xs.length) (hx : xs.getD k 0 < 128) : lenI 0 xs = (k + 1, lastI k (xs.getD k 0)) := by
  rw [lenI_drop xs k (by omega) hj (by omega), List.drop_eq_getElem_cons hl, lenI, if_neg (by omega)]
  rw [List.getD, List.getElem?_eq_getElem hl] at hx ⊢
  simp only [Option.getD_some] at hx ⊢
  rw [if_pos hx]
theorem lenI_short (xs : List Int) (hl : xs.length < 10) (hj : ∀ j, j < xs.length → 128 ≤ xs.getD j 0) : lenI 0 xs = (0, 2) := by
  rw [lenI_drop xs xs.length (by omega) hj (Nat.le_refl _), List.drop_length, lenI, if_pos hl]
theorem lenI_long (xs : List Int) (hl : 10 ≤ xs.length) (hj : ∀ j, j < 10 → 128 ≤ xs.getD j 0) : lenI 0 xs = (0, 3) := by
  rw [lenI_drop xs 10 (by omega) hj hl]
  cases h : xs.drop 10 with
  | nil => simp [lenI]
  | cons x r => simp [lenI]

/-- What is written is read, with whatever behind. -/
theorem lenI_enc (rest : List Int) (k : Nat) : ∀ (i n : Nat), i + k = 9 → n < 2 * 128 ^ k → (0 < i → 0 < n) → lenI i (encI n ++ rest) = (i + (encI n).length, 0) ∧ val (encI n) = n := by
  induction k with
  | zero =>
    intro i n hi hn h0
    have hs : n < 128 := by omega
    rw [encI_small hs]
    simp only [List.cons_append, List.nil_append, lenI, List.length_cons, List.length_nil, val]
    rw [if_neg (by omega), if_pos (by omega), lastI, if_neg (by omega), if_neg (by omega)]
    exact ⟨rfl, by omega⟩
  | succ k ih =>
    intro i n hi hn h0
    by_cases hs : n < 128
    · rw [encI_small hs]
      simp only [List.cons_append, List.nil_append, lenI, List.length_cons, List.length_nil, val]
      rw [if_neg (by omega), if_pos (by omega), lastI, if_neg (by omega), if_neg (by omega)]
      exact ⟨rfl, by omega⟩
    · rw [encI_great hs]
      obtain ⟨h1, h2⟩ := ih (i + 1) (n / 128) (by omega) (by rw [Nat.pow_succ] at hn; omega) (by omega)
      simp only [List.cons_append, lenI, List.length_cons, val]
      rw [if_neg (by omega), if_neg (by omega), h1, h2]
      exact ⟨by simp; omega, by omega⟩

theorem getI_enc {n : Nat} (hn : n < 18446744073709551616) (rest : List Int) : getI (encI n ++ rest) = ((n : Int), (encI n).length, 0) := by
  obtain ⟨h1, h2⟩ := lenI_enc rest 9 0 n (by omega) (by omega) (by omega)
  unfold getI
  rw [h1]
  simp [h2]

/-- What is read has just the bytes that it was read from. -/
theorem lenI_back : ∀ (xs : List Int) (i : Nat), (∀ x ∈ xs, 0 ≤ x ∧ x < 256) → (lenI i xs).2 = 0 → ∃ s, (lenI i xs).1 = i + s ∧ 1 ≤ s ∧ s ≤ xs.length ∧ s ≤ 10 - i ∧ encI (val (xs.take s)).toNat = xs.take s ∧ (0 < i → 0 < val (xs.take s)) ∧ (i ≤ 9 → val (xs.take s) < 2 * 128 ^ (9 - i))
  | [], i => by intro _ h; simp only [lenI] at h; split at h <;> simp at h
  | x :: r, i => by
    intro hb h
    have hx := hb x (by simp)
    by_cases hi : 10 ≤ i
    · simp [lenI, hi] at h
    · by_cases hl : x < 128
      · simp only [lenI, if_neg hi, if_pos hl, lastI] at h ⊢
        refine ⟨1, rfl, by omega, by simp, by omega, ?_, ?_, ?_⟩
        · simp only [List.take_succ_cons, List.take_zero, val]
          rw [encI_small (by omega)]
          simp; omega
        · intro h0
          simp only [List.take_succ_cons, List.take_zero, val]
          split at h
          · simp at h
          · split at h
            · simp at h
            · omega
        · intro h9
          simp only [List.take_succ_cons, List.take_zero, val]
          split at h
          · simp at h
          · rename_i hn9
            by_cases e9 : i = 9
            · subst e9; simp; omega
            · have : (1 : Int) ≤ 128 ^ (9 - i - 1) := Int.pow_pos (by omega)
              have e : (128 : Int) ^ (9 - i) = 128 ^ (9 - i - 1) * 128 := by rw [← Int.pow_succ]; congr 1; omega
              rw [e]; omega
      · simp only [lenI, if_neg hi, if_neg hl] at h ⊢
        obtain ⟨s, h1, h2, h3, h3', h4, h5, h6⟩ := lenI_back r (i + 1) (fun y hy => hb y (by simp [hy])) h
        have h5 := h5 (by omega)
        refine ⟨s + 1, by omega, by omega, by simp; omega, by omega, ?_, ?_, ?_⟩
        · simp only [List.take_succ_cons, val]
          have hv := val_nonneg (r.take s)
          rw [encI_great (by omega)]
          rw [show (x % 128 + 128 * val (r.take s)).toNat / 128 = (val (r.take s)).toNat by omega, h4]
          congr 1
          omega
        · intro _; simp only [List.take_succ_cons, val]; omega
        · intro h9
          simp only [List.take_succ_cons, val]
          have h9' : i + 1 ≤ 9 := by omega
          have h6 := h6 h9'
          have e : (128 : Int) ^ (9 - i) = 128 ^ (9 - (i + 1)) * 128 := by rw [← Int.pow_succ]; congr 1; omega
          rw [e]; omega

theorem getI_back (xs : List Int) (hb : ∀ x ∈ xs, 0 ≤ x ∧ x < 256) (h : (lenI 0 xs).2 = 0) : 1 ≤ (lenI 0 xs).1 ∧ (lenI 0 xs).1 ≤ xs.length ∧ (lenI 0 xs).1 ≤ 10 ∧ encI (val (xs.take (lenI 0 xs).1)).toNat = xs.take (lenI 0 xs).1 ∧ val (xs.take (lenI 0 xs).1) < 18446744073709551616 := by
  obtain ⟨s, h1, h2, h3, h3', h4, _, h6⟩ := lenI_back xs 0 hb h
  have h6 := h6 (by omega)
  rw [h1, Nat.zero_add]
  exact ⟨h2, h3, h3', h4, by simpa using h6⟩

/-- Of a number's bytes, cut off, none is read. -/
theorem lenI_cut (k : Nat) : ∀ (i n c : Nat), i + k = 9 → n < 2 * 128 ^ k → c < (encI n).length → lenI i ((encI n).take c) = (0, 2) := by
  induction k with
  | zero =>
    intro i n c hi hn hc
    rw [encI_small (by omega)] at hc ⊢
    simp only [List.length_cons, List.length_nil] at hc
    obtain rfl : c = 0 := by omega
    simp only [List.take_zero, lenI]
    rw [if_pos (by omega)]
  | succ k ih =>
    intro i n c hi hn hc
    by_cases hs : n < 128
    · rw [encI_small hs] at hc ⊢
      simp only [List.length_cons, List.length_nil] at hc
      obtain rfl : c = 0 := by omega
      simp only [List.take_zero, lenI]
      rw [if_pos (by omega)]
    · rw [encI_great hs] at hc ⊢
      cases c with
      | zero => simp only [List.take_zero, lenI]; rw [if_pos (by omega)]
      | succ c =>
        simp only [List.take_succ_cons, lenI]
        rw [if_neg (by omega), if_neg (by omega)]
        exact ih (i + 1) (n / 128) c (by omega) (by rw [Nat.pow_succ] at hn; omega) (by simpa using hc)
theorem getI_cut {n c : Nat} (hn : n < 18446744073709551616) (hc : c < (encI n).length) : getI ((encI n).take c) = (0, 0, 2) := by
  have h := lenI_cut 9 0 n c (by omega) (by omega) hc
  unfold getI
  rw [h]
  simp

end Go.Proofs.Ytbbmblodabojeaa
