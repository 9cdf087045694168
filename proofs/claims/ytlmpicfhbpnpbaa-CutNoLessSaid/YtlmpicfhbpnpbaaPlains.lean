/-
  Numbers, texts, what a cursor answers, sums, in plain numbers. No program here.
-/
import Derived.Laws.BytesArg
namespace Go.Proofs.Ytlmpicfhbpnpbaa

/-- A number's bytes, so many of them at most. -/
def encF : Nat → Nat → List Int
  | 0, _ => []
  | k + 1, n => if n < 128 then [(n : Int)] else ((n : Int) % 128 + 128) :: encF k (n / 128)
/-- A number's bytes. -/
def encI (n : Nat) : List Int := encF (n + 1) n

theorem encF_same (k : Nat) : ∀ (m n : Nat), n < k → n < m → encF k n = encF m n := by
  induction k with
  | zero => intro m n h _; omega
  | succ k ih =>
    intro m n hk hm
    cases m with
    | zero => omega
    | succ m =>
      simp only [encF]
      by_cases h : n < 128
      · rw [if_pos h, if_pos h]
      · rw [if_neg h, if_neg h, ih m (n / 128) (by omega) (by omega)]
theorem encI_small {n : Nat} (h : n < 128) : encI n = [(n : Int)] := by rw [encI, encF, if_pos h]
theorem encI_great {n : Nat} (h : ¬ n < 128) : encI n = ((n : Int) % 128 + 128) :: encI (n / 128) := by
  rw [encI, encF, if_neg h, encF_same n (n / 128 + 1) (n / 128) (by omega) (by omega), ← encI]

theorem encI_length (k : Nat) : ∀ n : Nat, n < 128 ^ (k + 1) → 1 ≤ (encI n).length ∧ (encI n).length ≤ k + 1 := by
  induction k with
  | zero => intro n h; rw [encI_small (by omega)]; simp
  | succ k ih =>
    intro n h
    by_cases hn : n < 128
    · rw [encI_small hn]; simp
    · rw [encI_great hn]
      have := ih (n / 128) (by rw [Nat.pow_succ] at h; omega)
      simp only [List.length_cons]; omega

theorem encI_ten {n : Nat} (h : n < 18446744073709551616) : 1 ≤ (encI n).length ∧ (encI n).length ≤ 10 := encI_length 9 n (by omega)

/-- Each is a byte's number. -/
theorem encI_byte (k : Nat) : ∀ n : Nat, n < 128 ^ (k + 1) → ∀ x ∈ encI n, 0 ≤ x ∧ x < 256 := by
  induction k with
  | zero => intro n h x hx; rw [encI_small (by omega)] at hx; simp at hx; omega
  | succ k ih =>
    intro n h x hx
    by_cases hn : n < 128
    · rw [encI_small hn] at hx; simp at hx; omega
    · rw [encI_great hn] at hx
      rcases List.mem_cons.1 hx with rfl | hx
      · omega
      · exact ih (n / 128) (by rw [Nat.pow_succ] at h; omega) x hx
theorem encI_bytes {n : Nat} (h : n < 18446744073709551616) : ∀ x ∈ encI n, 0 ≤ x ∧ x < 256 := encI_byte 9 n (by omega)

end Go.Proofs.Ytlmpicfhbpnpbaa

namespace Go.Proofs.Ytlmpicfhbpnpbaa

/-- The folded number. -/
def foldI (x : Int) : Int := if x < 0 then 2 * (-1 - x) + 1 else 2 * x
/-- The number of a folded one. -/
def unfoldI (n : Int) : Int := if n % 2 = 1 then -1 - n / 2 else n / 2

theorem foldI_range {x : Int} (h1 : -9223372036854775808 ≤ x) (h2 : x ≤ 9223372036854775807) : 0 ≤ foldI x ∧ foldI x ≤ 18446744073709551615 := by
  unfold foldI; split <;> omega
theorem unfoldI_range {n : Int} (h1 : 0 ≤ n) (h2 : n ≤ 18446744073709551615) : -9223372036854775808 ≤ unfoldI n ∧ unfoldI n ≤ 9223372036854775807 := by
  unfold unfoldI; split <;> omega
theorem unfold_fold (x : Int) : unfoldI (foldI x) = x := by
  unfold unfoldI foldI; split <;> split <;> omega
theorem fold_unfold {n : Int} (h : 0 ≤ n) : foldI (unfoldI n) = n := by
  unfold unfoldI foldI; split <;> split <;> omega
theorem fold_near {x y : Int} (h : (0 ≤ x ∧ x < y) ∨ (x < 0 ∧ y < x)) : foldI x < foldI y := by
  unfold foldI; split <;> split <;> omega
theorem fold_inj {x y : Int} : foldI x = foldI y ↔ x = y := by
  constructor
  · intro h; have := unfold_fold x; rw [h, unfold_fold] at this; exact this.symm
  · rintro rfl; rfl

end Go.Proofs.Ytlmpicfhbpnpbaa

namespace Go.Proofs.Ytlmpicfhbpnpbaa

/-- The number of groups, the lowest first. -/
def val : List Int → Int
  | [] => 0
  | x :: r => x % 128 + 128 * val r

theorem val_nonneg : ∀ l : List Int, 0 ≤ val l
  | [] => by simp [val]
  | x :: r => by have := val_nonneg r; simp only [val]; omega

theorem val_lt : ∀ l : List Int, val l < 128 ^ l.length
  | [] => by simp [val]
  | x :: r => by
    have h := val_lt r
    simp only [val, List.length_cons]
    rw [Int.pow_succ]
    omega

theorem val_snoc (x : Int) : ∀ l : List Int, val (l ++ [x]) = val l + 128 ^ l.length * (x % 128)
  | [] => by simp [val]
  | y :: r => by
    have h := val_snoc x r
    simp only [List.cons_append, val, h, List.length_cons]
    rw [Int.pow_succ, Int.mul_add, Int.mul_comm ((128 : Int) ^ r.length) 128, Int.mul_assoc]
    omega

theorem val_drop_le : ∀ (l : List Int) (j : Nat), val (l.drop j) ≤ val l
  | l, 0 => by simp
  | [], j + 1 => by simp
  | x :: r, j + 1 => by
    have h := val_drop_le r j
    have h0 := val_nonneg r
    simp only [List.drop_succ_cons, val]
    omega

/-- Why a byte may not be a number's last one, at its place. -/
def lastI (i : Nat) (x : Int) : Int := if i = 9 ∧ 1 < x then 3 else if 0 < i ∧ x = 0 then 4 else 0

/-- How many bytes the number has that bytes begin with, from place i on, and the error. -/
def lenI : Nat → List Int → Nat × Int
  | i, [] => if i < 10 then (0, 2) else (0, 3)
  | i, x :: r => if 10 ≤ i then (0, 3) else if x < 128 then (i + 1, lastI i x) else lenI (i + 1) r

/-- The number, how many bytes it has, the error. -/
def getI (xs : List Int) : Int × Nat × Int :=
  if (lenI 0 xs).2 = 0 then (val (xs.take (lenI 0 xs).1), (lenI 0 xs).1, 0) else (0, 0, (lenI 0 xs).2)

theorem lenI_drop (xs : List Int) : ∀ k : Nat, k ≤ 10 → (∀ j, j < k → 128 ≤ xs.getD j 0) → k ≤ xs.length → lenI 0 xs = lenI k (xs.drop k) := by
  intro k
  induction k with
  | zero => intro _ _ _; simp
  | succ k ih =>
    intro h10 hj hl
    rw [ih (by omega) (fun j h => hj j (by omega)) (by omega)]
    have hk : k < xs.length := by omega
    rw [List.drop_eq_getElem_cons hk, lenI, if_neg (by omega), if_neg]
    have := hj k (by omega)
    rw [List.getD, List.getElem?_eq_getElem hk] at this
    simpa using this

/-- The first byte below 128 is found. -/
theorem lenI_found (xs : List Int) (k : Nat) (hk : k < 10) (hj : ∀ j, j < k → 128 ≤ xs.getD j 0) (hl : k < xs.length) (hx : xs.getD k 0 < 128) : lenI 0 xs = (k + 1, lastI k (xs.getD k 0)) := by
  rw [lenI_drop xs k (by omega) hj (by omega), List.drop_eq_getElem_cons hl, lenI, if_neg (by omega)]
  rw [List.getD, List.getElem?_eq_getElem hl] at hx ⊢
  simp only [Option.getD_some] at hx ⊢
  rw [if_pos hx]
theorem lenI_short (xs : List Int) (hl : xs.length < 10) (hj : ∀ j, j < xs.length → 128 ≤ xs.getD j 0) : lenI 0 xs = (0, 2) := by
  rw [lenI_drop xs xs.length (by omega) hj (Nat.le_refl _), List.drop_length, lenI, if_pos hl]
theorem lenI_long (xs : List Int) (hl : 10 ≤ xs.length) (hj : ∀ j, j < 10 → 128 ≤ xs.getD j 0) : lenI 0 xs = (0, 3) := by
  rw [lenI_drop xs 10 (by omega) hj hl]
  cases h : xs.drop 10 with
  | nil => simp [lenI]
  | cons x r => simp [lenI]

/-- What is written is read, with whatever behind. -/
theorem lenI_enc (rest : List Int) (k : Nat) : ∀ (i n : Nat), i + k = 9 → n < 2 * 128 ^ k → (0 < i → 0 < n) → lenI i (encI n ++ rest) = (i + (encI n).length, 0) ∧ val (encI n) = n := by
  induction k with
  | zero =>
    intro i n hi hn h0
    have hs : n < 128 := by omega
    rw [encI_small hs]
    simp only [List.cons_append, List.nil_append, lenI, List.length_cons, List.length_nil, val]
    rw [if_neg (by omega), if_pos (by omega), lastI, if_neg (by omega), if_neg (by omega)]
    exact ⟨rfl, by omega⟩
  | succ k ih =>
    intro i n hi hn h0
    by_cases hs : n < 128
    · rw [encI_small hs]
      simp only [List.cons_append, List.nil_append, lenI, List.length_cons, List.length_nil, val]
      rw [if_neg (by omega), if_pos (by omega), lastI, if_neg (by omega), if_neg (by omega)]
      exact ⟨rfl, by omega⟩
    · rw [encI_great hs]
      obtain ⟨h1, h2⟩ := ih (i + 1) (n / 128) (by omega) (by rw [Nat.pow_succ] at hn; omega) (by omega)
      simp only [List.cons_append, lenI, List.length_cons, val]
      rw [if_neg (by omega), if_neg (by omega), h1, h2]
      exact ⟨by simp; omega, by omega⟩

theorem getI_enc {n : Nat} (hn : n < 18446744073709551616) (rest : List Int) : getI (encI n ++ rest) = ((n : Int), (encI n).length, 0) := by
  obtain ⟨h1, h2⟩ := lenI_enc rest 9 0 n (by omega) (by omega) (by omega)
  unfold getI
  rw [h1]
  simp [h2]

/-- What is read has just the bytes that it was read from. -/
theorem lenI_back : ∀ (xs : List Int) (i : Nat), (∀ x ∈ xs, 0 ≤ x ∧ x < 256) → (lenI i xs).2 = 0 → ∃ s, (lenI i xs).1 = i + s ∧ 1 ≤ s ∧ s ≤ xs.length ∧ s ≤ 10 - i ∧ encI (val (xs.take s)).toNat = xs.take s ∧ (0 < i → 0 < val (xs.take s)) ∧ (i ≤ 9 → val (xs.take s) < 2 * 128 ^ (9 - i))
  | [], i => by intro _ h; simp only [lenI] at h; split at h <;> simp at h
  | x :: r, i => by
    intro hb h
    have hx := hb x (by simp)
    by_cases hi : 10 ≤ i
    · simp [lenI, hi] at h
    · by_cases hl : x < 128
      · simp only [lenI, if_neg hi, if_pos hl, lastI] at h ⊢
        refine ⟨1, rfl, by omega, by simp, by omega, ?_, ?_, ?_⟩
        · simp only [List.take_succ_cons, List.take_zero, val]
          rw [encI_small (by omega)]
          simp; omega
        · intro h0
          simp only [List.take_succ_cons, List.take_zero, val]
          split at h
          · simp at h
          · split at h
            · simp at h
            · omega
        · intro h9
          simp only [List.take_succ_cons, List.take_zero, val]
          split at h
          · simp at h
          · rename_i hn9
            by_cases e9 : i = 9
            · subst e9; simp; omega
            · have : (1 : Int) ≤ 128 ^ (9 - i - 1) := Int.pow_pos (by omega)
              have e : (128 : Int) ^ (9 - i) = 128 ^ (9 - i - 1) * 128 := by rw [← Int.pow_succ]; congr 1; omega
              rw [e]; omega
      · simp only [lenI, if_neg hi, if_neg hl] at h ⊢
        obtain ⟨s, h1, h2, h3, h3', h4, h5, h6⟩ := lenI_back r (i + 1) (fun y hy => hb y (by simp [hy])) h
        have h5 := h5 (by omega)
        refine ⟨s + 1, by omega, by omega, by simp; omega, by omega, ?_, ?_, ?_⟩
        · simp only [List.take_succ_cons, val]
          have hv := val_nonneg (r.take s)
          rw [encI_great (by omega)]
          rw [show (x % 128 + 128 * val (r.take s)).toNat / 128 = (val (r.take s)).toNat by omega, h4]
          congr 1
          omega
        · intro _; simp only [List.take_succ_cons, val]; omega
        · intro h9
          simp only [List.take_succ_cons, val]
          have h9' : i + 1 ≤ 9 := by omega
          have h6 := h6 h9'
          have e : (128 : Int) ^ (9 - i) = 128 ^ (9 - (i + 1)) * 128 := by rw [← Int.pow_succ]; congr 1; omega
          rw [e]; omega

theorem getI_back (xs : List Int) (hb : ∀ x ∈ xs, 0 ≤ x ∧ x < 256) (h : (lenI 0 xs).2 = 0) : 1 ≤ (lenI 0 xs).1 ∧ (lenI 0 xs).1 ≤ xs.length ∧ (lenI 0 xs).1 ≤ 10 ∧ encI (val (xs.take (lenI 0 xs).1)).toNat = xs.take (lenI 0 xs).1 ∧ val (xs.take (lenI 0 xs).1) < 18446744073709551616 := by
  obtain ⟨s, h1, h2, h3, h3', h4, _, h6⟩ := lenI_back xs 0 hb h
  have h6 := h6 (by omega)
  rw [h1, Nat.zero_add]
  exact ⟨h2, h3, h3', h4, by simpa using h6⟩

/-- Of a number's bytes, cut off, none is read. -/
theorem lenI_cut (k : Nat) : ∀ (i n c : Nat), i + k = 9 → n < 2 * 128 ^ k → c < (encI n).length → lenI i ((encI n).take c) = (0, 2) := by
  induction k with
  | zero =>
    intro i n c hi hn hc
    rw [encI_small (by omega)] at hc ⊢
    simp only [List.length_cons, List.length_nil] at hc
    obtain rfl : c = 0 := by omega
    simp only [List.take_zero, lenI]
    rw [if_pos (by omega)]
  | succ k ih =>
    intro i n c hi hn hc
    by_cases hs : n < 128
    · rw [encI_small hs] at hc ⊢
      simp only [List.length_cons, List.length_nil] at hc
      obtain rfl : c = 0 := by omega
      simp only [List.take_zero, lenI]
      rw [if_pos (by omega)]
    · rw [encI_great hs] at hc ⊢
      cases c with
      | zero => simp only [List.take_zero, lenI]; rw [if_pos (by omega)]
      | succ c =>
        simp only [List.take_succ_cons, lenI]
        rw [if_neg (by omega), if_neg (by omega)]
        exact ih (i + 1) (n / 128) c (by omega) (by rw [Nat.pow_succ] at hn; omega) (by simpa using hc)
theorem getI_cut {n c : Nat} (hn : n < 18446744073709551616) (hc : c < (encI n).length) : getI ((encI n).take c) = (0, 0, 2) := by
  have h := lenI_cut 9 0 n c (by omega) (by omega) hc
  unfold getI
  rw [h]
  simp

end Go.Proofs.Ytlmpicfhbpnpbaa

namespace Go.Proofs.Ytlmpicfhbpnpbaa

/-- A text's bytes. -/
def encT (s : List Int) : List Int := encI s.length ++ s
/-- The text that bytes begin with, how many bytes it has, the error. -/
def getT (most : Int) (xs : List Int) : List Int × Nat × Int :=
  if (getI xs).2.2 ≠ 0 then ([], 0, (getI xs).2.2)
  else if max most 0 < (getI xs).1 then ([], 0, 6)
  else if ((xs.length - (getI xs).2.1 : Nat) : Int) < (getI xs).1 then ([], 0, 2)
  else ((xs.drop (getI xs).2.1).take (getI xs).1.toNat, (getI xs).2.1 + (getI xs).1.toNat, 0)

theorem encT_length (s : List Int) : (encT s).length = (encI s.length).length + s.length := by simp [encT]

/-- What getI says of bytes whose number is read. -/
theorem getI_ok (xs : List Int) (hb : ∀ x ∈ xs, 0 ≤ x ∧ x < 256) (h : (getI xs).2.2 = 0) :
    ∃ n s : Nat, getI xs = ((n : Int), s, 0) ∧ 1 ≤ s ∧ s ≤ xs.length ∧ s ≤ 10 ∧ encI n = xs.take s ∧ n < 18446744073709551616 := by
  by_cases hok : (lenI 0 xs).2 = 0
  · obtain ⟨k1, k2, k3, k4, k5⟩ := getI_back xs hb hok
    have hv0 := val_nonneg (xs.take (lenI 0 xs).1)
    refine ⟨(val (xs.take (lenI 0 xs).1)).toNat, (lenI 0 xs).1, ?_, k1, k2, k3, k4, by omega⟩
    unfold getI
    rw [if_pos hok, Int.toNat_of_nonneg hv0]
  · exfalso
    unfold getI at h
    rw [if_neg hok] at h
    exact hok h

theorem getT_err {most : Int} {xs : List Int} {er : Int} (h : (getI xs).2.2 = er) (hne : er ≠ 0) : getT most xs = ([], 0, er) := by
  unfold getT
  rw [if_pos (by rw [h]; exact hne), h]
theorem getT_limit {most : Int} {xs : List Int} {n s : Nat} (h : getI xs = ((n : Int), s, 0)) (hl : max most 0 < (n : Int)) : getT most xs = ([], 0, 6) := by
  unfold getT
  rw [h, if_neg (by simp), if_pos hl]
theorem getT_short {most : Int} {xs : List Int} {n s : Nat} (h : getI xs = ((n : Int), s, 0)) (hl : ¬ max most 0 < (n : Int)) (hs : xs.length - s < n) : getT most xs = ([], 0, 2) := by
  unfold getT
  rw [h, if_neg (by simp), if_neg hl, if_pos (by simp only; omega)]
theorem getT_ok {most : Int} {xs : List Int} {n s : Nat} (h : getI xs = ((n : Int), s, 0)) (hl : ¬ max most 0 < (n : Int)) (hs : ¬ xs.length - s < n) : getT most xs = ((xs.drop s).take n, s + n, 0) := by
  unfold getT
  rw [h, if_neg (by simp), if_neg hl, if_neg (by simp only; omega)]
  simp

/-- The text of a text's bytes, with whatever behind. -/
theorem getT_enc {most : Int} {s : List Int} (hs : s.length < 18446744073709551616) (hm : ¬ max most 0 < (s.length : Int)) (rest : List Int) : getT most (encT s ++ rest) = (s, (encT s).length, 0) := by
  have h := getI_enc hs (s ++ rest)
  rw [encT, List.append_assoc, getT_ok h hm (by simp)]
  simp
theorem getT_over {most : Int} {s : List Int} (hs : s.length < 18446744073709551616) (hm : max most 0 < (s.length : Int)) (rest : List Int) : getT most (encT s ++ rest) = ([], 0, 6) := by
  have h := getI_enc hs (s ++ rest)
  rw [encT, List.append_assoc, getT_limit h hm]
/-- Of a text's bytes, cut off, none is read. -/
theorem getT_cut {most : Int} {s : List Int} {c : Nat} (hs : s.length < 18446744073709551616) (hm : ¬ max most 0 < (s.length : Int)) (hc : c < (encT s).length) : getT most ((encT s).take c) = ([], 0, 2) := by
  rw [encT_length] at hc
  by_cases h : c < (encI s.length).length
  · have e : (encT s).take c = (encI s.length).take c := by rw [encT, List.take_append_of_le_length (by omega)]
    rw [e]
    exact getT_err (by rw [getI_cut hs h]) (by omega)
  · have e : (encT s).take c = encI s.length ++ s.take (c - (encI s.length).length) := by
      rw [encT, List.take_append, List.take_of_length_le (by omega)]
    rw [e]
    exact getT_short (getI_enc hs _) hm (by simp; omega)
/-- What is read has just the bytes that it was read from. -/
theorem getT_back {most : Int} (xs : List Int) (hb : ∀ x ∈ xs, 0 ≤ x ∧ x < 256) (h : (getT most xs).2.2 = 0) :
    1 ≤ (getT most xs).2.1 ∧ (getT most xs).2.1 ≤ xs.length ∧ encT (getT most xs).1 = xs.take (getT most xs).2.1 ∧ (getT most xs).1.length ≤ xs.length ∧ (∀ x ∈ (getT most xs).1, 0 ≤ x ∧ x < 256) := by
  by_cases he : (getI xs).2.2 = 0
  · obtain ⟨n, s, hg, h1, h2, h3, h4, h5⟩ := getI_ok xs hb he
    by_cases hl : max most 0 < (n : Int)
    · rw [getT_limit hg hl] at h; simp at h
    · by_cases hs : xs.length - s < n
      · rw [getT_short hg hl hs] at h; simp at h
      · rw [getT_ok hg hl hs]
        have hlen : ((xs.drop s).take n).length = n := by simp; omega
        refine ⟨by simp only; omega, by simp only; omega, ?_, by simp; omega, fun x hx => hb x (List.mem_of_mem_drop (List.mem_of_mem_take hx))⟩
        simp only [encT, hlen, h4]
        rw [List.take_add]
  · rw [getT_err rfl he] at h
    exact absurd h he
theorem getT_size {most : Int} (xs : List Int) (hb : ∀ x ∈ xs, 0 ≤ x ∧ x < 256) : (getT most xs).2.1 ≤ xs.length ∧ (getT most xs).1.length ≤ xs.length ∧ (∀ x ∈ (getT most xs).1, 0 ≤ x ∧ x < 256) := by
  by_cases h : (getT most xs).2.2 = 0
  · obtain ⟨_, h2, _, h4, h5⟩ := getT_back xs hb h
    exact ⟨h2, h4, h5⟩
  · unfold getT at h ⊢
    split
    · simp
    · split
      · simp
      · split
        · simp
        · rename_i a b c
          rw [if_neg a, if_neg b, if_neg c] at h
          exact absurd rfl h

/-- Texts ahead of what is read of the rest. -/
def glue (pre : List (List Int)) (r : List (List Int) × Int) : List (List Int) × Int := if r.2 = 0 then (pre ++ r.1, 0) else ([], r.2)
/-- The texts of bytes, so many at most. -/
def allF (most : Int) : Nat → List Int → List (List Int) × Int
  | 0, _ => ([], 0)
  | k + 1, xs => if xs = [] then ([], 0) else if (getT most xs).2.2 ≠ 0 then ([], (getT most xs).2.2) else glue [(getT most xs).1] (allF most k (xs.drop (getT most xs).2.1))
/-- The texts of bytes, the error. -/
def allT (most : Int) (xs : List Int) : List (List Int) × Int := allF most xs.length xs

theorem glue_nil (r : List (List Int) × Int) (h : r.2 ≠ 0 → r.1 = []) : glue [] r = r := by
  obtain ⟨a, b⟩ := r
  unfold glue
  by_cases hb : b = 0
  · simp [hb]
  · simp only [hb, if_false]
    rw [show a = [] from h hb]
theorem glue_glue (p q : List (List Int)) (r : List (List Int) × Int) : glue p (glue q r) = glue (p ++ q) r := by
  unfold glue
  by_cases h : r.2 = 0
  · simp [h]
  · simp [h]

theorem allF_same {most : Int} (k : Nat) : ∀ (m : Nat) (xs : List Int), (∀ x ∈ xs, 0 ≤ x ∧ x < 256) → xs.length ≤ k → xs.length ≤ m → allF most k xs = allF most m xs := by
  induction k with
  | zero =>
    intro m xs _ hk hm
    obtain rfl : xs = [] := List.eq_nil_of_length_eq_zero (by omega)
    cases m <;> simp [allF]
  | succ k ih =>
    intro m xs hb hk hm
    cases m with
    | zero =>
      obtain rfl : xs = [] := List.eq_nil_of_length_eq_zero (by omega)
      simp [allF]
    | succ m =>
      simp only [allF]
      by_cases h0 : xs = []
      · rw [if_pos h0, if_pos h0]
      · rw [if_neg h0, if_neg h0]
        by_cases he : (getT most xs).2.2 = 0
        · obtain ⟨h1, h2, _⟩ := getT_back xs hb he
          rw [if_neg (by simp [he]), if_neg (by simp [he]), ih m _ (fun x hx => hb x (List.mem_of_mem_drop hx)) (by simp; omega) (by simp; omega)]
        · rw [if_pos he, if_pos he]

theorem allT_nil (most : Int) : allT most [] = ([], 0) := rfl
theorem allT_err {most : Int} {xs : List Int} (h0 : xs ≠ []) (h : (getT most xs).2.2 ≠ 0) : allT most xs = ([], (getT most xs).2.2) := by
  unfold allT
  cases xs with
  | nil => exact absurd rfl h0
  | cons x r => rw [List.length_cons, allF, if_neg h0, if_pos h]
theorem allT_ok {most : Int} {xs : List Int} (hb : ∀ x ∈ xs, 0 ≤ x ∧ x < 256) (h0 : xs ≠ []) (h : (getT most xs).2.2 = 0) : allT most xs = glue [(getT most xs).1] (allT most (xs.drop (getT most xs).2.1)) := by
  obtain ⟨h1, h2, _⟩ := getT_back xs hb h
  unfold allT
  have hp : 0 < xs.length := List.length_pos_iff.2 h0
  obtain ⟨k, hk⟩ : ∃ k, xs.length = k + 1 := ⟨xs.length - 1, by omega⟩
  rw [hk, allF, if_neg h0, if_neg (by simp [h]), allF_same k (xs.drop (getT most xs).2.1).length _ (fun x hx => hb x (List.mem_of_mem_drop hx)) (by simp; omega) (by simp)]
theorem allT_none (most : Int) (xs : List Int) : (allT most xs).2 ≠ 0 → (allT most xs).1 = [] := by
  unfold allT
  cases xs.length with
  | zero => simp [allF]
  | succ k =>
    simp only [allF]
    split
    · simp
    · split
      · simp
      · unfold glue
        split
        · simp
        · simp

/-- Texts' bytes, one behind the other. -/
def catT (l : List (List Int)) : List Int := l.flatMap encT
theorem catT_snoc (l : List (List Int)) (s : List Int) : catT (l ++ [s]) = catT l ++ encT s := by simp [catT]
theorem encT_bytes {s : List Int} (hs : s.length < 18446744073709551616) (hb : ∀ x ∈ s, 0 ≤ x ∧ x < 256) : ∀ x ∈ encT s, 0 ≤ x ∧ x < 256 := fun x hx => by
  rcases List.mem_append.1 hx with h | h
  · exact encI_bytes hs x h
  · exact hb x h
theorem encT_pos {s : List Int} (hs : s.length < 18446744073709551616) : 0 < (encT s).length := by
  have := (encI_ten hs).1
  rw [encT_length]; omega
theorem catT_bytes : ∀ l : List (List Int), (∀ s ∈ l, s.length < 18446744073709551616 ∧ ∀ x ∈ s, 0 ≤ x ∧ x < 256) → ∀ x ∈ catT l, 0 ≤ x ∧ x < 256 := by
  intro l h x hx
  obtain ⟨s, hs, hx⟩ := List.mem_flatMap.1 hx
  exact encT_bytes (h s hs).1 (h s hs).2 x hx
/-- Texts ahead of other bytes are read first. -/
theorem allT_cat {most : Int} (rest : List Int) (hr : ∀ x ∈ rest, 0 ≤ x ∧ x < 256) : ∀ l : List (List Int), (∀ s ∈ l, s.length < 18446744073709551616 ∧ ¬ max most 0 < (s.length : Int) ∧ ∀ x ∈ s, 0 ≤ x ∧ x < 256) → allT most (catT l ++ rest) = glue l (allT most rest) := by
  intro l
  induction l with
  | nil =>
    intro _
    rw [glue_nil _ (allT_none most rest)]
    simp [catT]
  | cons s l ih =>
    intro h
    obtain ⟨h1, h2, h3⟩ := h s (by simp)
    have hl : ∀ t ∈ l, t.length < 18446744073709551616 ∧ ¬ max most 0 < (t.length : Int) ∧ ∀ x ∈ t, 0 ≤ x ∧ x < 256 := fun t ht => h t (by simp [ht])
    have e : catT (s :: l) ++ rest = encT s ++ (catT l ++ rest) := by simp [catT]
    have hg := getT_enc h1 h2 (catT l ++ rest)
    have hb : ∀ x ∈ encT s ++ (catT l ++ rest), 0 ≤ x ∧ x < 256 := fun x hx => by
      rcases List.mem_append.1 hx with h | h
      · exact encT_bytes h1 h3 x h
      · rcases List.mem_append.1 h with h | h
        · exact catT_bytes l (fun t ht => ⟨(hl t ht).1, (hl t ht).2.2⟩) x h
        · exact hr x h
    have hne : encT s ++ (catT l ++ rest) ≠ [] := by
      have := encT_pos h1
      intro h0
      have h0' := congrArg List.length h0
      rw [List.length_append, List.length_nil] at h0'
      omega
    rw [e, allT_ok hb hne (by rw [hg]), hg]
    simp only [List.drop_left]
    rw [ih hl, glue_glue]
    rfl

theorem catT_take_succ (l : List (List Int)) {k : Nat} {t : List Int} (h : l[k]? = some t) : catT (l.take (k + 1)) = catT (l.take k) ++ encT t := by
  obtain ⟨hk, rfl⟩ := List.getElem?_eq_some_iff.1 h
  rw [List.take_succ_eq_append_getElem hk, catT_snoc]
theorem catT_le (B : Nat) (hB : B < 18446744073709551616) : ∀ l : List (List Int), (∀ t ∈ l, t.length ≤ B) → (catT l).length ≤ (B + 10) * l.length
  | [], _ => by simp [catT]
  | s :: l, h => by
    have h1 := catT_le B hB l (fun t ht => h t (by simp [ht]))
    have h2 := h s (by simp)
    have h3 := (encI_ten (n := s.length) (by omega)).2
    have e : catT (s :: l) = encT s ++ catT l := by simp [catT]
    rw [e, List.length_append, encT_length, List.length_cons, Nat.mul_succ]
    omega
end Go.Proofs.Ytlmpicfhbpnpbaa

namespace Go.Proofs.Ytlmpicfhbpnpbaa

/-- What a cursor at place p with error e answers, where r was found at the front of what is left: the answer, the place, the error. -/
def tk {α : Type} (z : α) (p : Nat) (e : Int) (r : α × Nat × Int) : α × Nat × Int :=
  if e ≠ 0 then (z, p, e) else if r.2.2 ≠ 0 then (z, p, r.2.2) else (r.1, p + r.2.1, 0)
/-- The next byte. -/
def getB (ys : List Int) : Int × Nat × Int := match ys with | [] => (0, 0, 2) | y :: _ => (y, 1, 0)
/-- The next number, if it isn't above most. -/
def getN (most : Int) (ys : List Int) : Int × Nat × Int := if (getI ys).2.2 = 0 ∧ most < (getI ys).1 then ((getI ys).1, (getI ys).2.1, 6) else getI ys
/-- The next number, unfolded. -/
def getS (ys : List Int) : Int × Nat × Int := (unfoldI (getI ys).1, (getI ys).2.1, (getI ys).2.2)

section
variable {α : Type} {z : α} {p : Nat} {e : Int} {r : α × Nat × Int}
theorem tk_stopped (h : e ≠ 0) : tk z p e r = (z, p, e) := by unfold tk; rw [if_pos h]
theorem tk_err (h : r.2.2 ≠ 0) : tk z p 0 r = (z, p, r.2.2) := by unfold tk; rw [if_neg (by simp), if_pos h]
theorem tk_ok (h : r.2.2 = 0) : tk z p 0 r = (r.1, p + r.2.1, 0) := by unfold tk; rw [if_neg (by simp), if_neg (by rw [h]; simp)]
/-- Never back, never beyond; behind a stop it never moves, and its error stays. -/
theorem tk_never {n : Nat} (hp : p ≤ n) (hr : r.2.2 = 0 → r.2.1 ≤ n - p) : p ≤ (tk z p e r).2.1 ∧ (tk z p e r).2.1 ≤ n ∧ (e ≠ 0 → (tk z p e r).2.1 = p ∧ (tk z p e r).2.2 = e) := by
  by_cases he : e = 0
  · subst he
    by_cases h : r.2.2 = 0
    · rw [tk_ok h]
      have := hr h
      exact ⟨by simp, by simp only; omega, fun h => absurd rfl h⟩
    · rw [tk_err h]
      exact ⟨Nat.le_refl _, hp, fun h => absurd rfl h⟩
  · rw [tk_stopped he]
    exact ⟨Nat.le_refl _, hp, fun _ => ⟨rfl, rfl⟩⟩
end

/-- The size of what is found, and its error, are small. -/
def Fits {α : Type} (ys : List Int) (r : α × Nat × Int) : Prop := (r.2.2 = 0 → r.2.1 ≤ ys.length) ∧ 0 ≤ r.2.2 ∧ r.2.2 ≤ 6
theorem getB_fits (ys : List Int) : Fits ys (getB ys) := by
  cases ys with
  | nil => exact ⟨fun h => by simp [getB] at h, by simp [getB], by simp [getB]⟩
  | cons y r => exact ⟨fun _ => by simp [getB], by simp [getB], by simp [getB]⟩
theorem lastI_small (i : Nat) (x : Int) : 0 ≤ lastI i x ∧ lastI i x ≤ 6 := by
  unfold lastI
  split <;> (try split) <;> omega
theorem lenI_small : ∀ (ys : List Int) (i : Nat), 0 ≤ (lenI i ys).2 ∧ (lenI i ys).2 ≤ 6
  | [], i => by simp only [lenI]; split <;> simp
  | x :: r, i => by
    simp only [lenI]
    split
    · simp
    · split
      · exact lastI_small i x
      · exact lenI_small r (i + 1)
theorem getI_fits (ys : List Int) (hb : ∀ x ∈ ys, 0 ≤ x ∧ x < 256) : Fits ys (getI ys) := by
  refine ⟨fun h => ?_, ?_⟩
  · obtain ⟨n, s, hgi, _, h2, _⟩ := getI_ok ys hb h
    rw [hgi]
    exact h2
  · unfold getI
    split
    · simp
    · exact lenI_small ys 0
theorem getN_fits (most : Int) (ys : List Int) (hb : ∀ x ∈ ys, 0 ≤ x ∧ x < 256) : Fits ys (getN most ys) := by
  unfold getN
  split
  · exact ⟨fun h => by simp at h, by simp, by simp⟩
  · exact getI_fits ys hb
theorem getS_fits (ys : List Int) (hb : ∀ x ∈ ys, 0 ≤ x ∧ x < 256) : Fits ys (getS ys) := getI_fits ys hb
theorem getT_fits (most : Int) (ys : List Int) (hb : ∀ x ∈ ys, 0 ≤ x ∧ x < 256) : Fits ys (getT most ys) := by
  refine ⟨fun h => (getT_size ys hb).1, ?_⟩
  have h := (getI_fits ys hb).2
  unfold getT
  split
  · exact h
  · split
    · simp
    · split <;> simp
/-- The number that is read is one of 64 bits. -/
theorem getI_range (ys : List Int) (hb : ∀ x ∈ ys, 0 ≤ x ∧ x < 256) : 0 ≤ (getI ys).1 ∧ (getI ys).1 ≤ 18446744073709551615 := by
  by_cases h : (getI ys).2.2 = 0
  · obtain ⟨n, s, hgi, _, _, _, _, h6⟩ := getI_ok ys hb h
    rw [hgi]
    simp only
    omega
  · unfold getI at h ⊢
    split
    · rename_i h2
      rw [if_pos h2] at h
      exact absurd rfl h
    · simp
theorem getI_zero (ys : List Int) (h : (getI ys).2.2 ≠ 0) : (getI ys).1 = 0 ∧ (getI ys).2.1 = 0 := by
  unfold getI at h ⊢
  split
  · rename_i h2
    rw [if_pos h2] at h
    exact absurd rfl h
  · simp
theorem getT_zero (most : Int) (ys : List Int) (h : (getT most ys).2.2 ≠ 0) : (getT most ys).1 = [] ∧ (getT most ys).2.1 = 0 := by
  unfold getT at h ⊢
  split
  · simp
  · split
    · simp
    · split
      · simp
      · rename_i h1 h2 h3
        rw [if_neg h1, if_neg h2, if_neg h3] at h
        exact absurd rfl h
theorem drop_bytes {xs : List Int} (hb : ∀ x ∈ xs, 0 ≤ x ∧ x < 256) (p : Nat) : ∀ x ∈ xs.drop p, 0 ≤ x ∧ x < 256 := fun x hx => hb x (List.mem_of_mem_drop hx)
end Go.Proofs.Ytlmpicfhbpnpbaa

namespace Go.Proofs.Ytlmpicfhbpnpbaa

/-- What is taken by exclusive or where the lowest bit was 1. -/
def polyI : Nat := 3988292384
/-- One shift. -/
def st (m : Nat) : Nat := m / 2 ^^^ (if m % 2 = 1 then polyI else 0)
/-- So many shifts. -/
def it : Nat → Nat → Nat
  | 0, m => m
  | k + 1, m => it k (st m)
/-- The sum's state behind bytes, from state n on. -/
def stateI (n : Nat) (xs : List Nat) : Nat := xs.foldl (fun n x => it 8 (n ^^^ x)) n
/-- The sum of bytes. -/
def sumI (xs : List Nat) : Nat := 4294967295 ^^^ stateI 4294967295 xs
/-- Bytes as one number, the first one lowest. -/
def big : List Nat → Nat
  | [] => 0
  | x :: r => x + 256 * big r

theorem xor_four (a b c d : Nat) : (a ^^^ b) ^^^ (c ^^^ d) = (a ^^^ c) ^^^ (b ^^^ d) := by
  rw [Nat.xor_assoc, Nat.xor_assoc, ← Nat.xor_assoc b c d, Nat.xor_comm b c, Nat.xor_assoc c b d]
theorem odd_xor (a b : Nat) : (a ^^^ b) % 2 = (a % 2 + b % 2) % 2 := by
  have h := Nat.testBit_xor a b 0
  simp only [Nat.testBit_zero] at h
  rcases Nat.mod_two_eq_zero_or_one a with ha | ha <;> rcases Nat.mod_two_eq_zero_or_one b with hb | hb <;> rcases Nat.mod_two_eq_zero_or_one (a ^^^ b) with hc | hc <;> simp_all
theorem st_xor (a b : Nat) : st (a ^^^ b) = st a ^^^ st b := by
  unfold st
  rw [xor_four, Nat.xor_div_two]
  congr 1
  rw [odd_xor]
  rcases Nat.mod_two_eq_zero_or_one a with ha | ha <;> rcases Nat.mod_two_eq_zero_or_one b with hb | hb <;> simp [ha, hb]
theorem st_zero : st 0 = 0 := rfl
theorem st_double (m : Nat) : st (2 * m) = m := by
  unfold st
  rw [if_neg (by omega), Nat.xor_zero]
  omega
theorem poly_lt : polyI < 4294967296 := by decide
theorem st_lt {m : Nat} (h : m < 4294967296) : st m < 4294967296 := by
  unfold st
  have : m / 2 < 2 ^ 32 := by omega
  have hp : (if m % 2 = 1 then polyI else 0) < 2 ^ 32 := by split <;> decide
  exact Nat.xor_lt_two_pow this hp
theorem st_pos {m : Nat} (h : m < 4294967296) (h0 : 0 < m) : 0 < st m := by
  rcases Nat.eq_zero_or_pos (st m) with hz | hz
  · unfold st at hz
    by_cases ho : m % 2 = 1
    · rw [if_pos ho] at hz
      have he : m / 2 = polyI := by
        have := congrArg (· ^^^ polyI) hz
        simpa [Nat.xor_assoc] using this
      unfold polyI at he
      omega
    · rw [if_neg ho, Nat.xor_zero] at hz
      omega
  · exact hz

theorem it_xor (k : Nat) : ∀ a b : Nat, it k (a ^^^ b) = it k a ^^^ it k b := by
  induction k with
  | zero => intro a b; rfl
  | succ k ih => intro a b; simp only [it]; rw [st_xor, ih]
theorem it_zero (k : Nat) : it k 0 = 0 := by
  induction k with
  | zero => rfl
  | succ k ih => simp only [it, st_zero, ih]
theorem it_add (j : Nat) : ∀ (k m : Nat), it (j + k) m = it k (it j m) := by
  induction j with
  | zero => intro k m; simp [it]
  | succ j ih => intro k m; rw [Nat.succ_add]; simp only [it]; rw [ih]
theorem it_double (k : Nat) : ∀ m : Nat, it k (2 ^ k * m) = m := by
  induction k with
  | zero => intro m; simp [it]
  | succ k ih => intro m; simp only [it]; rw [Nat.pow_succ, Nat.mul_comm (2 ^ k) 2, Nat.mul_assoc, st_double, ih]
theorem it_lt (k : Nat) : ∀ {m : Nat}, m < 4294967296 → it k m < 4294967296 := by
  induction k with
  | zero => intro m h; exact h
  | succ k ih => intro m h; simp only [it]; exact ih (st_lt h)
theorem it_pos (k : Nat) : ∀ {m : Nat}, m < 4294967296 → 0 < m → 0 < it k m := by
  induction k with
  | zero => intro m _ h; exact h
  | succ k ih => intro m h h0; simp only [it]; exact ih (st_lt h) (st_pos h h0)

theorem add_xor {x k : Nat} (m : Nat) (h : x < 2 ^ k) : x + 2 ^ k * m = x ^^^ (2 ^ k * m) := by
  apply Nat.eq_of_testBit_eq
  intro i
  rw [Nat.testBit_xor, Nat.add_comm, Nat.testBit_two_pow_mul_add _ h, Nat.testBit_two_pow_mul]
  by_cases hi : i < k
  · simp [hi, Nat.not_le.2 hi]
  · have : x.testBit i = false := Nat.testBit_lt_two_pow (Nat.lt_of_lt_of_le h (Nat.pow_le_pow_right (by omega) (by omega)))
    simp [hi, this, Nat.not_lt.1 hi]

/-- All shifts at once, of all bytes as one number. -/
theorem state_big : ∀ (xs : List Nat) (n : Nat), (∀ x ∈ xs, x < 256) → stateI n xs = it (8 * xs.length) (n ^^^ big xs)
  | [], n, _ => by simp [stateI, big, it]
  | x :: r, n, h => by
    have hx : x < 2 ^ 8 := by have := h x (by simp); omega
    have ih := state_big r (it 8 (n ^^^ x)) (fun y hy => h y (by simp [hy]))
    have e : stateI n (x :: r) = stateI (it 8 (n ^^^ x)) r := rfl
    rw [e, ih]
    have e2 : big (x :: r) = x ^^^ (2 ^ 8 * big r) := add_xor (big r) hx
    rw [e2, ← Nat.xor_assoc, List.length_cons, show 8 * (r.length + 1) = 8 + 8 * r.length by omega, it_add, it_xor 8 (n ^^^ x) (2 ^ 8 * big r), it_double]

/-- Turned bits are told. -/
theorem state_told {xs ys : List Nat} {from_ turn n : Nat} (hl : xs.length = ys.length) (hx : ∀ x ∈ xs, x < 256) (hy : ∀ y ∈ ys, y < 256) (ht : turn < 4294967296) (h0 : 0 < turn) (hf : from_ ≤ 8 * xs.length) (hd : big ys = big xs ^^^ (2 ^ from_ * turn)) : stateI n xs ≠ stateI n ys := by
  intro he
  rw [state_big xs n hx, state_big ys n hy, ← hl, hd, ← Nat.xor_assoc, it_xor _ (n ^^^ big xs)] at he
  have hz : it (8 * xs.length) (2 ^ from_ * turn) = 0 := by
    have := congrArg (it (8 * xs.length) (n ^^^ big xs) ^^^ ·) he
    simp only [Nat.xor_self, ← Nat.xor_assoc, Nat.zero_xor] at this
    exact this.symm
  rw [show 8 * xs.length = from_ + (8 * xs.length - from_) by omega, it_add, it_double] at hz
  have := it_pos (8 * xs.length - from_) ht h0
  omega
theorem xor_inj {a b c : Nat} (h : a ^^^ b = a ^^^ c) : b = c := by
  have := congrArg (a ^^^ ·) h
  simpa [← Nat.xor_assoc] using this
theorem sum_told {xs ys : List Nat} {from_ turn : Nat} (hl : xs.length = ys.length) (hx : ∀ x ∈ xs, x < 256) (hy : ∀ y ∈ ys, y < 256) (ht : turn < 4294967296) (h0 : 0 < turn) (hf : from_ ≤ 8 * xs.length) (hd : big ys = big xs ^^^ (2 ^ from_ * turn)) : sumI xs ≠ sumI ys :=
  fun h => state_told hl hx hy ht h0 hf hd (xor_inj h)

/-- A sum goes on from a sum. -/
theorem state_append (n : Nat) (xs ys : List Nat) : stateI n (xs ++ ys) = stateI (stateI n xs) ys := by simp [stateI, List.foldl_append]
theorem sum_more (xs ys : List Nat) : sumI (xs ++ ys) = 4294967295 ^^^ stateI (4294967295 ^^^ sumI xs) ys := by
  unfold sumI
  rw [state_append, ← Nat.xor_assoc, Nat.xor_self, Nat.zero_xor]
theorem state_lt : ∀ (xs : List Nat) {n : Nat}, n < 4294967296 → (∀ x ∈ xs, x < 256) → stateI n xs < 4294967296
  | [], n, h, _ => h
  | x :: r, n, h, hb => by
    have hx := hb x (by simp)
    exact state_lt r (it_lt 8 (Nat.xor_lt_two_pow (n := 32) (by omega) (by omega))) (fun y hy => hb y (by simp [hy]))
theorem sum_lt {xs : List Nat} (hb : ∀ x ∈ xs, x < 256) : sumI xs < 4294967296 := Nat.xor_lt_two_pow (n := 32) (by omega) (state_lt xs (by omega) hb)

/-- One bit turned. -/
theorem big_flip : ∀ (xs : List Nat) (k j : Nat) (hk : k < xs.length), (∀ x ∈ xs, x < 256) → j < 8 → big (xs.set k (xs[k] ^^^ 2 ^ j)) = big xs ^^^ 2 ^ (8 * k + j)
  | x :: r, 0, j, _, h, hj => by
    have hx : x < 2 ^ 8 := by have := h x (by simp); omega
    have hf : x ^^^ 2 ^ j < 2 ^ 8 := Nat.xor_lt_two_pow hx (Nat.pow_lt_pow_right (by omega) hj)
    have e1 : big (x :: r) = x ^^^ (2 ^ 8 * big r) := add_xor (big r) hx
    have e2 : big ((x ^^^ 2 ^ j) :: r) = (x ^^^ 2 ^ j) ^^^ (2 ^ 8 * big r) := add_xor (big r) hf
    simp only [List.set_cons_zero, List.getElem_cons_zero]
    rw [e1, e2, Nat.mul_zero, Nat.zero_add, Nat.xor_assoc, Nat.xor_comm (2 ^ j), ← Nat.xor_assoc]
  | x :: r, k + 1, j, hk, h, hj => by
    have hx : x < 2 ^ 8 := by have := h x (by simp); omega
    have ih := big_flip r k j (by simpa using hk) (fun y hy => h y (by simp [hy])) hj
    have e1 : big (x :: r) = x ^^^ (2 ^ 8 * big r) := add_xor (big r) hx
    simp only [List.set_cons_succ, List.getElem_cons_succ]
    have e2 : big (x :: r.set k (r[k]'(by simpa using hk) ^^^ 2 ^ j)) = x ^^^ (2 ^ 8 * big (r.set k (r[k]'(by simpa using hk) ^^^ 2 ^ j))) := add_xor _ hx
    rw [e1, e2, ih, Nat.xor_assoc]
    congr 1
    apply Nat.eq_of_testBit_eq
    intro i
    rw [show 2 ^ (8 * (k + 1) + j) = 2 ^ 8 * 2 ^ (8 * k + j) by rw [← Nat.pow_add]; congr 1; omega]
    simp only [Nat.testBit_xor, Nat.testBit_two_pow_mul]
    cases decide (8 ≤ i) <;> simp
/-- The bits that were turned up to here, and one more. -/
theorem turn_more {turn i : Nat} (h : turn / 2 ^ i % 2 = 1) : turn % 2 ^ (i + 1) = turn % 2 ^ i ^^^ 2 ^ i := by
  rw [Nat.pow_succ, Nat.mod_mul, h]
  exact add_xor 1 (Nat.mod_lt _ (Nat.two_pow_pos i)) |>.trans (by rw [Nat.mul_one])
theorem turn_same {turn i : Nat} (h : turn / 2 ^ i % 2 = 0) : turn % 2 ^ (i + 1) = turn % 2 ^ i := by
  rw [Nat.pow_succ, Nat.mod_mul, h, Nat.mul_zero, Nat.add_zero]
theorem pow_xor (k a b : Nat) : 2 ^ k * (a ^^^ b) = (2 ^ k * a) ^^^ (2 ^ k * b) := by
  apply Nat.eq_of_testBit_eq
  intro i
  simp only [Nat.testBit_xor, Nat.testBit_two_pow_mul]
  cases decide (k ≤ i) <;> simp
/-- A step of the turning: the bytes with the bit at place at + i turned, too. -/
theorem turn_step {xs : List Nat} {B at_ turn i : Nat} (hb : ∀ x ∈ xs, x < 256) (hk : (at_ + i) / 8 < xs.length) (hinv : big xs = B ^^^ (2 ^ at_ * (turn % 2 ^ i))) (h : turn / 2 ^ i % 2 = 1) :
    big (xs.set ((at_ + i) / 8) (xs[(at_ + i) / 8] ^^^ 2 ^ ((at_ + i) % 8))) = B ^^^ (2 ^ at_ * (turn % 2 ^ (i + 1))) := by
  rw [big_flip xs _ _ hk hb (Nat.mod_lt _ (by omega)), hinv, turn_more h, pow_xor, ← Nat.pow_add, Nat.xor_assoc, show 8 * ((at_ + i) / 8) + (at_ + i) % 8 = at_ + i by omega]
#print axioms sum_told
#print axioms turn_step
end Go.Proofs.Ytlmpicfhbpnpbaa
