/-
  The program's way through a payload, in plain numbers: a cursor takes one thing at a time, and what is taken behind a stop is of zero values. It comes to what the document says. No program here.
-/
import Derived.Test.YtnjhkjlekepjoaaPlainSigbin
namespace Go.Proofs.Ytnjhkjlekepjoaa

/-- Bytes, taken one at a time from place p on, with error e: the bytes, the place, the error. -/
def stB (xs : List Int) (p : Nat) (e : Int) : Nat → List Int × Nat × Int
  | 0 => ([], p, e)
  | j + 1 => ((stB xs p e j).1 ++ [(tk 0 (stB xs p e j).2.1 (stB xs p e j).2.2 (getB (xs.drop (stB xs p e j).2.1))).1], (tk 0 (stB xs p e j).2.1 (stB xs p e j).2.2 (getB (xs.drop (stB xs p e j).2.1))).2)
/-- As many as the next number says. -/
def argsC (xs : List Int) (p : Nat) (e : Int) : List Int × Nat × Int :=
  stB xs (tk 0 p e (getN 8 (xs.drop p))).2.1 (tk 0 p e (getN 8 (xs.drop p))).2.2 (tk 0 p e (getN 8 (xs.drop p))).1.toNat
def predC (xs : List Int) (p : Nat) (e : Int) : Pr × Nat × Int :=
  (⟨(tk [] p e (getT 32 (xs.drop p))).1, (argsC xs (tk [] p e (getT 32 (xs.drop p))).2.1 (tk [] p e (getT 32 (xs.drop p))).2.2).1⟩, (argsC xs (tk [] p e (getT 32 (xs.drop p))).2.1 (tk [] p e (getT 32 (xs.drop p))).2.2).2)
def stP (xs : List Int) (p : Nat) (e : Int) : Nat → List Pr × Nat × Int
  | 0 => ([], p, e)
  | j + 1 => ((stP xs p e j).1 ++ [(predC xs (stP xs p e j).2.1 (stP xs p e j).2.2).1], (predC xs (stP xs p e j).2.1 (stP xs p e j).2.2).2)
def predsC (xs : List Int) : List Pr × Nat × Int := stP xs (tk 0 0 0 (getN 64 xs)).2.1 (tk 0 0 0 (getN 64 xs)).2.2 (tk 0 0 0 (getN 64 xs)).1.toNat
/-- The error at the end: a stop's, or bytes that are left, or what is wrong with what was read. -/
def endC (n p : Nat) (e c : Int) : Int := if e ≠ 0 then e else if p < n then 4 else c
def getC (xs : List Int) : List Pr × Int :=
  if endC xs.length (predsC xs).2.1 (predsC xs).2.2 (checkP (predsC xs).1) = 0 then ((predsC xs).1, 0) else ([], endC xs.length (predsC xs).2.1 (predsC xs).2.2 (checkP (predsC xs).1))

section
variable {xs : List Int} {p : Nat} {e : Int}
theorem stB_stopped (h : e ≠ 0) : ∀ j, (stB xs p e j).2 = (p, e)
  | 0 => rfl
  | j + 1 => by
    have ih := stB_stopped h j
    rw [stB, ih]
    dsimp only
    rw [tk_stopped h]
theorem getB_at {ys : List Int} (h : 0 < ys.length) : getB ys = (ys.getD 0 0, 1, 0) := by
  cases ys with
  | nil => simp at h
  | cons y r => rfl
theorem stB_ok : ∀ j, p + j ≤ xs.length → stB xs p 0 j = ((xs.drop p).take j, p + j, 0)
  | 0, _ => by simp [stB]
  | j + 1, h => by
    have ih := stB_ok j (by omega)
    have hb : getB (xs.drop (p + j)) = ((xs.drop (p + j)).getD 0 0, 1, 0) := getB_at (by rw [List.length_drop]; omega)
    rw [stB, ih]
    dsimp only
    rw [hb, tk_ok rfl]
    have hg : (xs.drop p)[j]? = some ((xs.drop (p + j)).getD 0 0) := by
      rw [List.getElem?_drop, List.getD, List.getElem?_drop, Nat.add_zero, List.getElem?_eq_getElem (show p + j < xs.length by omega)]
      rfl
    rw [List.take_add_one, hg]
    rfl
theorem stB_short (hp : p ≤ xs.length) : ∀ j, xs.length < p + j → (stB xs p 0 j).2 = (xs.length, 2)
  | 0, h => by omega
  | j + 1, h => by
    by_cases hj : xs.length < p + j
    · have ih := stB_short hp j hj
      rw [stB, ih]
      dsimp only
      rw [tk_stopped (by decide)]
    · rw [stB, stB_ok j (by omega)]
      dsimp only
      rw [List.drop_of_length_le (by omega)]
      show (tk 0 (p + j) 0 (0, 0, 2)).2 = _
      rw [tk_err (by decide)]
      simp only [Prod.mk.injEq, and_true]
      omega
theorem stB_length : ∀ j, (stB xs p e j).1.length = j
  | 0 => rfl
  | j + 1 => by rw [stB, List.length_append, stB_length j]; rfl
theorem stB_le (hp : p ≤ xs.length) : ∀ j, p ≤ (stB xs p e j).2.1 ∧ (stB xs p e j).2.1 ≤ xs.length
  | 0 => ⟨Nat.le_refl _, hp⟩
  | j + 1 => by
    obtain ⟨h1, h2⟩ := stB_le hp j
    have := tk_never (z := (0 : Int)) (e := (stB xs p e j).2.2) (r := getB (xs.drop (stB xs p e j).2.1)) h2 (fun h => by have := (getB_fits (xs.drop (stB xs p e j).2.1)).1 h; rw [List.length_drop] at this; exact this)
    exact ⟨Nat.le_trans h1 this.1, this.2.1⟩
theorem tkB_byte (hb : ∀ x ∈ xs, 0 ≤ x ∧ x < 256) (q : Nat) (e : Int) : 0 ≤ (tk 0 q e (getB (xs.drop q))).1 ∧ (tk 0 q e (getB (xs.drop q))).1 < 256 := by
  unfold tk
  split
  · simp
  · split
    · simp
    · cases hd : xs.drop q with
      | nil => simp [getB]
      | cons y r => exact hb y (List.mem_of_mem_drop (by rw [hd]; simp))
theorem stB_bytes (hb : ∀ x ∈ xs, 0 ≤ x ∧ x < 256) : ∀ j, ∀ x ∈ (stB xs p e j).1, 0 ≤ x ∧ x < 256
  | 0, x, hx => by simp [stB] at hx
  | j + 1, x, hx => by
    rw [stB] at hx
    rcases List.mem_append.1 hx with hx | hx
    · exact stB_bytes hb j x hx
    · rw [List.mem_singleton] at hx
      rw [hx]
      exact tkB_byte hb _ _
theorem tkN_range (hb : ∀ x ∈ xs, 0 ≤ x ∧ x < 256) (most : Nat) (hp : p ≤ xs.length) :
    (∃ n : Nat, (tk 0 p e (getN most (xs.drop p))).1 = (n : Int) ∧ n ≤ most) ∧ p ≤ (tk 0 p e (getN most (xs.drop p))).2.1 ∧ (tk 0 p e (getN most (xs.drop p))).2.1 ≤ xs.length := by
  obtain ⟨h1, h2, _⟩ := tk_never (z := (0 : Int)) (e := e) (r := getN most (xs.drop p)) hp (fun h => by have := (getN_fits most (xs.drop p) (drop_bytes hb p)).1 h; rw [List.length_drop] at this; exact this)
  refine ⟨?_, h1, h2⟩
  unfold tk
  split
  · exact ⟨0, rfl, Nat.zero_le _⟩
  · split
    · exact ⟨0, rfl, Nat.zero_le _⟩
    · rename_i _ h
      have h0 : (getN most (xs.drop p)).2.2 = 0 := by simpa using h
      have hr := getI_range (xs.drop p) (drop_bytes hb p)
      unfold getN at h0 ⊢
      split
      · rename_i q
        rw [if_pos q] at h0
        cases h0
      · rename_i q
        rw [if_neg q] at h0
        have : ¬ (most : Int) < (getI (xs.drop p)).1 := fun h => q ⟨h0, h⟩
        exact ⟨(getI (xs.drop p)).1.toNat, by simp only; omega, by omega⟩
theorem tkT_le (hb : ∀ x ∈ xs, 0 ≤ x ∧ x < 256) (most : Int) (hp : p ≤ xs.length) : p ≤ (tk [] p e (getT most (xs.drop p))).2.1 ∧ (tk [] p e (getT most (xs.drop p))).2.1 ≤ xs.length := by
  obtain ⟨h1, h2, _⟩ := tk_never (z := ([] : List Int)) (e := e) (r := getT most (xs.drop p)) hp (fun h => by have := (getT_fits most (xs.drop p) (drop_bytes hb p)).1 h; rw [List.length_drop] at this; exact this)
  exact ⟨h1, h2⟩
theorem tkT_bytes (hb : ∀ x ∈ xs, 0 ≤ x ∧ x < 256) (most : Int) : (tk [] p e (getT most (xs.drop p))).1.length ≤ xs.length ∧ ∀ x ∈ (tk [] p e (getT most (xs.drop p))).1, 0 ≤ x ∧ x < 256 := by
  have hs := getT_size (most := most) (xs.drop p) (drop_bytes hb p)
  rw [List.length_drop] at hs
  unfold tk
  split
  · simp
  · split
    · simp
    · exact ⟨Nat.le_trans hs.2.1 (Nat.sub_le _ _), hs.2.2⟩
theorem argsC_le (hb : ∀ x ∈ xs, 0 ≤ x ∧ x < 256) (hp : p ≤ xs.length) : p ≤ (argsC xs p e).2.1 ∧ (argsC xs p e).2.1 ≤ xs.length ∧ (argsC xs p e).1.length ≤ 8 ∧ ∀ x ∈ (argsC xs p e).1, 0 ≤ x ∧ x < 256 := by
  obtain ⟨⟨n, e1, e2⟩, h1, h2⟩ := tkN_range (e := e) hb 8 hp
  have e1' : (tk 0 p e (getN 8 (xs.drop p))).1 = (n : Int) := e1
  have h1' : p ≤ (tk 0 p e (getN 8 (xs.drop p))).2.1 := h1
  have h2' : (tk 0 p e (getN 8 (xs.drop p))).2.1 ≤ xs.length := h2
  unfold argsC
  have h3 := stB_le (e := (tk 0 p e (getN 8 (xs.drop p))).2.2) h2' (tk 0 p e (getN 8 (xs.drop p))).1.toNat
  exact ⟨Nat.le_trans h1' h3.1, h3.2, by rw [stB_length, e1']; simpa using e2, stB_bytes hb _⟩
theorem predC_le (hb : ∀ x ∈ xs, 0 ≤ x ∧ x < 256) (hp : p ≤ xs.length) : (predC xs p e).2.1 ≤ xs.length ∧ (predC xs p e).1.name.length ≤ xs.length ∧ (predC xs p e).1.args.length ≤ 8 ∧ (∀ x ∈ (predC xs p e).1.name, 0 ≤ x ∧ x < 256) ∧ ∀ x ∈ (predC xs p e).1.args, 0 ≤ x ∧ x < 256 := by
  have h1 := tkT_le (e := e) hb 32 hp
  have h2 := tkT_bytes (p := p) (e := e) hb 32
  have h3 := argsC_le (e := (tk [] p e (getT 32 (xs.drop p))).2.2) hb h1.2
  exact ⟨h3.2.1, h2.1, h3.2.2.1, h2.2, h3.2.2.2⟩
theorem stP_le (hb : ∀ x ∈ xs, 0 ≤ x ∧ x < 256) (hp : p ≤ xs.length) : ∀ j, (stP xs p e j).2.1 ≤ xs.length ∧ (stP xs p e j).1.length = j
  | 0 => ⟨hp, rfl⟩
  | j + 1 => by
    obtain ⟨h1, h2⟩ := stP_le hb hp j
    exact ⟨(predC_le hb h1).1, by rw [stP, List.length_append, h2]; rfl⟩

theorem predsC_le (hb : ∀ x ∈ xs, 0 ≤ x ∧ x < 256) : (predsC xs).2.1 ≤ xs.length := by
  obtain ⟨_, _, hq⟩ := tkN_range (e := 0) hb 64 (Nat.zero_le xs.length)
  have hq : (tk 0 0 0 (getN 64 (xs.drop 0))).2.1 ≤ xs.length := hq
  rw [List.drop_zero] at hq
  exact (stP_le hb hq _).1

/-! Behind a stop nothing is taken, and its error stays. -/
theorem argsC_stopped (h : e ≠ 0) : (argsC xs p e).2 = (p, e) := by
  unfold argsC
  rw [tk_stopped h]
  exact stB_stopped h _
theorem predC_stopped (h : e ≠ 0) : (predC xs p e).2 = (p, e) := by
  unfold predC
  rw [tk_stopped h]
  exact argsC_stopped h
/-- One predicate is the document's, or the error is. -/
theorem predC_eq (hb : ∀ x ∈ xs, 0 ≤ x ∧ x < 256) (hp : p ≤ xs.length) :
    ((getP (xs.drop p)).2.2 = 0 → predC xs p 0 = ((getP (xs.drop p)).1, p + (getP (xs.drop p)).2.1, 0)) ∧ ((getP (xs.drop p)).2.2 ≠ 0 → (predC xs p 0).2.2 = (getP (xs.drop p)).2.2) := by
  have hd := drop_bytes hb p
  have hl : (xs.drop p).length = xs.length - p := List.length_drop
  rcases getP_ways (xs.drop p) hd with ⟨h1, e⟩ | ⟨nm, s, ht, b1, b2, b3, b4, b5, ⟨h1, e⟩ | ⟨k, m, hi, c1, c2, c3, c4, h⟩⟩
  · refine ⟨fun h => absurd (by rw [e] at h; exact h) h1, fun _ => ?_⟩
    rw [e]
    unfold predC
    rw [tk_err h1, argsC_stopped h1]
  · have hn : tk 0 (p + s) 0 (getN 8 (xs.drop (p + s))) = (0, p + s, (getI ((xs.drop p).drop s)).2.2) := by
      rw [List.drop_drop] at h1 ⊢
      have e2 : getN 8 (xs.drop (p + s)) = getI (xs.drop (p + s)) := by unfold getN; rw [if_neg (fun h => h1 h.1)]
      rw [e2, tk_err h1]
    refine ⟨fun h => absurd (by rw [e] at h; exact h) h1, fun _ => ?_⟩
    rw [e]
    unfold predC
    rw [ht, tk_ok rfl]
    dsimp only
    unfold argsC
    rw [hn]
    rfl
  · have hi' : getI (xs.drop (p + s)) = ((k : Int), m, 0) := by rw [← List.drop_drop]; exact hi
    rcases h with ⟨h1, e⟩ | ⟨h1, h2, e⟩ | ⟨h1, h2, e⟩
    · have hn : tk 0 (p + s) 0 (getN 8 (xs.drop (p + s))) = (0, p + s, 6) := by
        have e2 : getN 8 (xs.drop (p + s)) = ((k : Int), m, 6) := by unfold getN; rw [hi', if_pos ⟨rfl, by simp only; omega⟩]
        rw [e2, tk_err (by simp)]
      refine ⟨fun h => (by rw [e] at h; cases h), fun _ => ?_⟩
      rw [e]
      unfold predC
      rw [ht, tk_ok rfl]
      dsimp only
      unfold argsC
      rw [hn]
      rfl
    · have hn : tk 0 (p + s) 0 (getN 8 (xs.drop (p + s))) = ((k : Int), p + s + m, 0) := by
        have e2 : getN 8 (xs.drop (p + s)) = ((k : Int), m, 0) := by unfold getN; rw [hi', if_neg (fun h => by have := h.2; simp only at this; omega)]
        rw [e2, tk_ok rfl]
      refine ⟨fun h => (by rw [e] at h; cases h), fun _ => ?_⟩
      rw [e]
      unfold predC
      rw [ht, tk_ok rfl]
      dsimp only
      unfold argsC
      rw [hn]
      simp only [Int.toNat_natCast]
      rw [stB_short (by omega) k (by omega)]
    · have hn : tk 0 (p + s) 0 (getN 8 (xs.drop (p + s))) = ((k : Int), p + s + m, 0) := by
        have e2 : getN 8 (xs.drop (p + s)) = ((k : Int), m, 0) := by unfold getN; rw [hi', if_neg (fun h => by have := h.2; simp only at this; omega)]
        rw [e2, tk_ok rfl]
      refine ⟨fun _ => ?_, fun h => by rw [e] at h; exact absurd rfl h⟩
      rw [e]
      unfold predC
      rw [ht, tk_ok rfl]
      dsimp only
      unfold argsC
      rw [hn]
      simp only [Int.toNat_natCast]
      rw [stB_ok k (by omega), List.drop_drop]
      simp only [Nat.add_assoc]
theorem stP_stopped (h : e ≠ 0) : ∀ j, (stP xs p e j).2 = (p, e)
  | 0 => rfl
  | j + 1 => by
    have ih := stP_stopped h j
    rw [stP, ih]
    exact predC_stopped h
theorem stP_front (xs : List Int) (p : Nat) (e : Int) : ∀ j, stP xs p e (j + 1) = ((predC xs p e).1 :: (stP xs (predC xs p e).2.1 (predC xs p e).2.2 j).1, (stP xs (predC xs p e).2.1 (predC xs p e).2.2 j).2)
  | 0 => rfl
  | j + 1 => by
    rw [stP, stP_front xs p e j]
    rfl
/-- So many predicates are the document's, or the error is. -/
theorem stP_eq (hb : ∀ x ∈ xs, 0 ≤ x ∧ x < 256) : ∀ (n p : Nat), p ≤ xs.length → ((getL n (xs.drop p)).2.2 = 0 → stP xs p 0 n = ((getL n (xs.drop p)).1, p + (getL n (xs.drop p)).2.1, 0)) ∧ ((getL n (xs.drop p)).2.2 ≠ 0 → (stP xs p 0 n).2.2 = (getL n (xs.drop p)).2.2)
  | 0, p, _ => ⟨fun _ => rfl, fun h => absurd rfl h⟩
  | n + 1, p, hp => by
    obtain ⟨q1, q2⟩ := predC_eq hb hp
    by_cases h1 : (getP (xs.drop p)).2.2 = 0
    · have hs := (getP_back (xs.drop p) (drop_bytes hb p) h1).2.1
      rw [List.length_drop] at hs
      obtain ⟨⟨a, s, er⟩, ha⟩ : ∃ t, getP (xs.drop p) = t := ⟨_, rfl⟩
      rw [ha] at h1 hs
      simp only at h1 hs
      subst h1
      have q1' := q1 (by rw [ha])
      rw [ha] at q1'
      obtain ⟨i1, i2⟩ := stP_eq hb n (p + s) (by omega)
      have el : getL (n + 1) (xs.drop p) = glueP [a] s (getL n (xs.drop (p + s))) := by rw [getL_step ha, List.drop_drop]
      rw [el, stP_front, q1']
      dsimp only
      by_cases h2 : (getL n (xs.drop (p + s))).2.2 = 0
      · rw [i1 h2]
        unfold glueP
        rw [if_pos h2]
        exact ⟨fun _ => by simp [Nat.add_assoc], fun h => absurd rfl h⟩
      · unfold glueP
        rw [if_neg h2]
        exact ⟨fun h => absurd h h2, fun _ => i2 h2⟩
    · have q2' := q2 h1
      rw [getL_stop h1]
      refine ⟨fun h => absurd h h1, fun _ => ?_⟩
      rw [stP_front]
      dsimp only
      rw [stP_stopped (by rw [q2']; exact h1)]
      exact q2'
end
/-- The program's way comes to what the document says. -/
theorem getC_eq {xs : List Int} (hb : ∀ x ∈ xs, 0 ≤ x ∧ x < 256) : getC xs = getSig xs := by
  have key : ∀ (l : List Pr) (t : Nat × Int) (c : Int), predsC xs = (l, t) → endC xs.length t.1 t.2 (checkP l) = c → getC xs = (if c = 0 then (l, 0) else ([], c)) := by
    intro l t c h1 h2
    unfold getC
    rw [h1]
    dsimp only
    rw [h2]
  by_cases h1 : (getI xs).2.2 = 0
  · obtain ⟨n, s, hi, b1, b2, b3, b4, b5⟩ := getI_ok xs hb h1
    by_cases h2 : 64 < n
    · have e2 : getN 64 xs = ((n : Int), s, 6) := by unfold getN; rw [hi, if_pos ⟨rfl, by simp only; omega⟩]
      have hp : predsC xs = ([], 0, 6) := by unfold predsC; rw [e2, tk_err (by simp)]; rfl
      rw [key _ _ 6 hp (by unfold endC; rw [if_pos (by decide)]), getSig_limit hi h2]
      rfl
    · have e2 : getN 64 xs = ((n : Int), s, 0) := by unfold getN; rw [hi, if_neg (fun h => by have := h.2; simp only at this; omega)]
      have hp : predsC xs = stP xs s 0 n := by
        unfold predsC
        rw [e2, tk_ok rfl]
        simp
      obtain ⟨i1, i2⟩ := stP_eq hb n s b2
      by_cases h3 : (getL n (xs.drop s)).2.2 = 0
      · obtain ⟨⟨l, t, er⟩, hl⟩ : ∃ r, getL n (xs.drop s) = r := ⟨_, rfl⟩
        rw [hl] at h3 i1
        simp only at h3
        subst h3
        have i3 := i1 rfl
        rw [← hp] at i3
        by_cases h4 : s + t < xs.length
        · rw [key _ _ 4 i3 (by unfold endC; rw [if_neg (by simp), if_pos h4]), getSig_form hi (by omega) hl h4]
          rfl
        · have hk := key _ _ (checkP l) i3 (by unfold endC; rw [if_neg (by simp), if_neg h4])
          by_cases h5 : checkP l = 0
          · rw [hk, if_pos h5, getSig_ok hi (by omega) hl h4 h5]
          · rw [hk, if_neg h5, getSig_check hi (by omega) hl h4 h5]
      · have i3 := i2 h3
        rw [← hp] at i3
        have hk := key (predsC xs).1 (predsC xs).2 (getL n (xs.drop s)).2.2 rfl (by unfold endC; rw [i3, if_pos h3])
        rw [hk, if_neg h3, getSig_pred hi (by omega) h3]
  · have e2 : getN 64 xs = getI xs := by unfold getN; rw [if_neg (fun h => h1 h.1)]
    have hp : predsC xs = ([], 0, (getI xs).2.2) := by unfold predsC; rw [e2, tk_err h1]; rfl
    have hk := key _ _ (getI xs).2.2 hp (by unfold endC; rw [if_pos h1])
    rw [hk, if_neg h1, getSig_num h1]
#print axioms getC_eq
end Go.Proofs.Ytnjhkjlekepjoaa
