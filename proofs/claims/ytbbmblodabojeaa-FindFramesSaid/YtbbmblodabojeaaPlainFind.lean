/-
  Where frames begin, in plain numbers: what begins at a place stays with whatever behind, and what is wrong stays wrong; the first place, how many places; frames one behind the other. No program here.
-/
import Derived.Test.YtbbmblodabojeaaPlainFrame
namespace Go.Proofs.Ytbbmblodabojeaa

/-! With whatever behind. -/
theorem lenI_longer (ys : List Int) : ∀ (xs : List Int) (i : Nat), (lenI i xs).2 ≠ 2 → lenI i (xs ++ ys) = lenI i xs
  | [], i => by
    intro h
    by_cases hi : i < 10
    · simp only [lenI, if_pos hi] at h
      exact absurd rfl h
    · cases ys with
      | nil => rfl
      | cons y r => simp only [List.nil_append, lenI, if_neg hi, if_pos (show 10 ≤ i by omega)]
  | x :: r, i => by
    intro h
    simp only [List.cons_append, lenI] at h ⊢
    by_cases hi : 10 ≤ i
    · simp only [if_pos hi]
    · by_cases hx : x < 128
      · simp only [if_neg hi, if_pos hx]
      · simp only [if_neg hi, if_neg hx] at h ⊢
        exact lenI_longer ys r (i + 1) h
theorem getI_longer (xs ys : List Int) (hb : ∀ x ∈ xs, 0 ≤ x ∧ x < 256) (h : (getI xs).2.2 ≠ 2) : getI (xs ++ ys) = getI xs := by
  have h2 : (lenI 0 xs).2 ≠ 2 := by
    intro h2
    apply h
    unfold getI
    rw [if_neg (by rw [h2]; simp)]
    exact h2
  have e := lenI_longer ys xs 0 h2
  unfold getI
  rw [e]
  by_cases h0 : (lenI 0 xs).2 = 0
  · have hl := (getI_back xs hb h0).2.1
    rw [if_pos h0, if_pos h0, List.take_append_of_le_length hl]
  · rw [if_neg h0, if_neg h0]
theorem getBody_longer (k : Int) (xs ys : List Int) (hb : ∀ x ∈ xs, 0 ≤ x ∧ x < 256) (h : (getBody k xs).2.2 ≠ 2) : getBody k (xs ++ ys) = getBody k xs := by
  by_cases he : (getI xs).2.2 = 0
  · obtain ⟨n, s, hg, h1, h2, h3, h4, h5⟩ := getI_ok xs hb he
    have hg2 : getI (xs ++ ys) = ((n : Int), s, 0) := by rw [getI_longer xs ys hb (by rw [he]; simp), hg]
    by_cases hl : 4096 < n
    · rw [getBody_limit hg hl, getBody_limit hg2 hl]
    · by_cases hs : xs.length < s + n + 4
      · rw [getBody_short hg (by omega) hs] at h
        exact absurd rfl h
      · have hs2 : ¬ (xs ++ ys).length < s + n + 4 := by rw [List.length_append]; omega
        have e1 : ((xs ++ ys).drop (s + n)).take 4 = (xs.drop (s + n)).take 4 := by
          rw [List.drop_append_of_le_length (by omega), List.take_append_of_le_length (by rw [List.length_drop]; omega)]
        have e2 : (xs ++ ys).take (s + n) = xs.take (s + n) := List.take_append_of_le_length (by omega)
        have e3 : ((xs ++ ys).drop s).take n = (xs.drop s).take n := by
          rw [List.drop_append_of_le_length (by omega), List.take_append_of_le_length (by rw [List.length_drop]; omega)]
        by_cases hq : (xs.drop (s + n)).take 4 = le4 (sumX (k :: xs.take (s + n)))
        · rw [getBody_ok hg (by omega) hs hq, getBody_ok hg2 (by omega) hs2 (by rw [e1, e2]; exact hq), e3]
        · rw [getBody_sum hg (by omega) hs hq, getBody_sum hg2 (by omega) hs2 (by rw [e1, e2]; exact hq)]
  · have h2 : (getI xs).2.2 ≠ 2 := by
      intro h2
      rw [getBody_err h2 (by simp)] at h
      exact absurd rfl h
    rw [getBody_err rfl he, getBody_err (er := (getI xs).2.2) (by rw [getI_longer xs ys hb h2]) he]
theorem markI_longer (ys : List Int) : ∀ (ms xs : List Int), markI ms xs ≠ 2 → markI ms (xs ++ ys) = markI ms xs
  | [], _ => by intro _; simp only [markI]
  | _ :: _, [] => by intro h; exact absurd rfl h
  | m :: ms, x :: xs => by
    intro h
    simp only [List.cons_append, markI] at h ⊢
    by_cases hx : x = m
    · simp only [if_pos hx] at h ⊢
      exact markI_longer ys ms xs h
    · simp only [if_neg hx]
/-- What begins stays, and what is wrong stays wrong. -/
theorem getFr_longer (xs ys : List Int) (hb : ∀ x ∈ xs, 0 ≤ x ∧ x < 256) (h : (getFr xs).2.2 ≠ 2) : getFr (xs ++ ys) = getFr xs := by
  by_cases hm : markI markL xs = 0
  · have hx := markI_back hm
    have hb2 : ∀ x ∈ xs.drop 4, 0 ≤ x ∧ x < 256 := fun x hx => hb x (List.mem_of_mem_drop hx)
    generalize xs.drop 4 = r at hx hb2
    subst hx
    rw [List.append_assoc, getFr_mark, getFr_mark]
    rw [getFr_mark] at h
    cases r with
    | nil => exact absurd rfl h
    | cons k zs =>
      simp only [List.cons_append] at h ⊢
      by_cases hk : k = 1 ∨ k = 2
      · simp only [if_pos hk] at h ⊢
        exact getBody_longer k zs ys (fun x hx => hb2 x (by simp [hx])) h
      · simp only [if_neg hk]
  · have h2 : markI markL xs ≠ 2 := by
      intro h2
      unfold getFr at h
      rw [if_pos hm] at h
      exact h h2
    have e := markI_longer ys markL xs h2
    unfold getFr
    rw [e, if_pos hm, if_pos hm]
theorem drop_longer {b : List Int} {at_ : Nat} (behind : List Int) (ha : at_ ≤ b.length) (hb : ∀ x ∈ b, 0 ≤ x ∧ x < 256) (h : (getFr (b.drop at_)).2.2 ≠ 2) : getFr ((b ++ behind).drop at_) = getFr (b.drop at_) := by
  rw [List.drop_append_of_le_length ha]
  exact getFr_longer _ _ (fun x hx => hb x (List.mem_of_mem_drop hx)) h

/-! The first place. -/
/-- A frame begins at a place, or, with open, may yet. -/
def begI (opn : Bool) (xs : List Int) (a : Nat) : Bool := (getFr (xs.drop a)).2.2 == 0 || (opn && (getFr (xs.drop a)).2.2 == 2)
/-- The first of n places from a on at which q holds; -1. -/
def firstI (q : Nat → Bool) : Nat → Nat → Int
  | 0, _ => -1
  | n + 1, a => if q a then (a : Int) else firstI q n (a + 1)
/-- Next and Open. -/
def nextI (opn : Bool) (xs : List Int) (frm : Int) : Int := firstI (begI opn xs) (xs.length - frm.toNat) frm.toNat
/-- At how many of the first n places q holds. -/
def countI (q : Nat → Bool) : Nat → Nat
  | 0 => 0
  | n + 1 => countI q n + if q n then 1 else 0

theorem first_found {q : Nat → Bool} : ∀ (n a r : Nat), a ≤ r → r < a + n → (∀ j, a ≤ j → j < r → q j = false) → q r = true → firstI q n a = (r : Int)
  | 0, a, r, h1, h2, _, _ => by omega
  | n + 1, a, r, h1, h2, hn, hr => by
    simp only [firstI]
    by_cases e : a = r
    · subst e
      rw [if_pos hr]
    · rw [if_neg (by rw [hn a (Nat.le_refl _) (by omega)]; simp)]
      exact first_found n (a + 1) r (by omega) (by omega) (fun j hj hj2 => hn j (by omega) hj2) hr
theorem first_none {q : Nat → Bool} : ∀ (n a : Nat), (∀ j, a ≤ j → j < a + n → q j = false) → firstI q n a = -1
  | 0, _, _ => rfl
  | n + 1, a, hn => by
    simp only [firstI]
    rw [if_neg (by rw [hn a (Nat.le_refl _) (by omega)]; simp)]
    exact first_none n (a + 1) (fun j hj hj2 => hn j (by omega) (by omega))
theorem first_cases (q : Nat → Bool) : ∀ (n a : Nat), (firstI q n a = -1 ∧ ∀ j, a ≤ j → j < a + n → q j = false) ∨ ∃ r : Nat, firstI q n a = (r : Int) ∧ a ≤ r ∧ r < a + n ∧ q r = true ∧ ∀ j, a ≤ j → j < r → q j = false
  | 0, a => Or.inl ⟨rfl, fun j h1 h2 => by omega⟩
  | n + 1, a => by
    by_cases h : q a = true
    · exact Or.inr ⟨a, by simp only [firstI, if_pos h], Nat.le_refl _, by omega, h, fun j h1 h2 => by omega⟩
    · have hf : q a = false := by simpa using h
      rcases first_cases q n (a + 1) with ⟨e, hn⟩ | ⟨r, e, h1, h2, h3, h4⟩
      · refine Or.inl ⟨by simp only [firstI, if_neg h]; exact e, fun j h1 h2 => ?_⟩
        by_cases ej : j = a
        · rw [ej]; exact hf
        · exact hn j (by omega) (by omega)
      · refine Or.inr ⟨r, by simp only [firstI, if_neg h]; exact e, by omega, by omega, h3, fun j h5 h6 => ?_⟩
        by_cases ej : j = a
        · rw [ej]; exact hf
        · exact h4 j (by omega) h6

theorem next_found {opn : Bool} {xs : List Int} {frm : Int} {r : Nat} (h1 : frm.toNat ≤ r) (h2 : r < xs.length) (hn : ∀ j : Nat, frm.toNat ≤ j → j < r → begI opn xs j = false) (hr : begI opn xs r = true) : nextI opn xs frm = (r : Int) :=
  first_found _ _ r h1 (by omega) hn hr
theorem next_none {opn : Bool} {xs : List Int} {frm : Int} (hn : ∀ j : Nat, frm.toNat ≤ j → j < xs.length → begI opn xs j = false) : nextI opn xs frm = -1 :=
  first_none _ _ (fun j h1 h2 => hn j h1 (by omega))
/-- None is open: none begins and none may yet. -/
theorem open_none {xs : List Int} (h : nextI true xs 0 = -1) : ∀ j : Nat, j < xs.length → (getFr (xs.drop j)).2.2 ≠ 0 ∧ (getFr (xs.drop j)).2.2 ≠ 2 := by
  intro j hj
  have hq : begI true xs j = false := by
    rcases first_cases (begI true xs) (xs.length - (0 : Int).toNat) (0 : Int).toNat with ⟨_, hn⟩ | ⟨r, e, _⟩
    · exact hn j (by simp) (by simp only [Int.toNat_zero]; omega)
    · unfold nextI at h
      rw [h] at e
      omega
  simp only [begI, Bool.true_and, Bool.or_eq_false_iff, beq_eq_false_iff_ne, ne_eq] at hq
  exact hq

theorem count_mono (q : Nat → Bool) {n m : Nat} (h : n ≤ m) : countI q n ≤ countI q m := by
  induction m with
  | zero =>
    have : n = 0 := by omega
    subst this
    exact Nat.le_refl _
  | succ m ih =>
    by_cases e : n = m + 1
    · subst e
      exact Nat.le_refl _
    · have := ih (by omega)
      simp only [countI]
      omega
theorem count_le (q : Nat → Bool) : ∀ n : Nat, countI q n ≤ n
  | 0 => Nat.le_refl _
  | n + 1 => by
    have := count_le q n
    simp only [countI]
    split <;> omega

/-! Frames, one behind the other. -/
/-- A frame that may be. -/
def Fit (f : Int × List Int) : Prop := (f.1 = 1 ∨ f.1 = 2) ∧ f.2.length ≤ 4096
/-- The bytes of frames, one behind the other. -/
def catFr : List (Int × List Int) → List Int
  | [] => []
  | f :: r => encFr f.1 f.2 ++ catFr r
/-- Where they begin, the first at a. -/
def placesF : Nat → List (Int × List Int) → List Nat
  | _, [] => []
  | a, f :: r => a :: placesF (a + (encFr f.1 f.2).length) r

theorem catFr_append : ∀ (l m : List (Int × List Int)), catFr (l ++ m) = catFr l ++ catFr m
  | [], m => rfl
  | f :: r, m => by simp only [List.cons_append, catFr, catFr_append r m, List.append_assoc]
theorem placesF_append : ∀ (l m : List (Int × List Int)) (a : Nat), placesF a (l ++ m) = placesF a l ++ placesF (a + (catFr l).length) m
  | [], m, a => by simp [placesF, catFr]
  | f :: r, m, a => by
    simp only [List.cons_append, placesF, catFr, placesF_append r m, List.length_append]
    rw [Nat.add_assoc]
theorem placesF_length : ∀ (l : List (Int × List Int)) (a : Nat), (placesF a l).length = l.length
  | [], _ => rfl
  | f :: r, a => by simp only [placesF, List.length_cons, placesF_length r]
theorem encFr_pos (k : Int) (p : List Int) : 9 ≤ (encFr k p).length := by rw [encFr_length]; omega
theorem placesF_get : ∀ (l : List (Int × List Int)) (a i : Nat), i < l.length → (placesF a l).getD i 0 = a + (catFr (l.take i)).length
  | [], _, _, h => by simp at h
  | f :: r, a, 0, _ => by simp [placesF, catFr]
  | f :: r, a, i + 1, h => by
    simp only [List.length_cons] at h
    simp only [placesF, List.getD_cons_succ, List.take_succ_cons, catFr, List.length_append]
    rw [placesF_get r _ i (by omega), Nat.add_assoc]
/-- Behind any bytes each frame is where it stands. -/
theorem getFr_at (ahead : List Int) (l : List (Int × List Int)) (hl : ∀ f ∈ l, Fit f) (i : Nat) (hi : i < l.length) :
    getFr ((ahead ++ catFr l).drop (ahead.length + (catFr (l.take i)).length)) = ((l[i].1, l[i].2), (encFr l[i].1 l[i].2).length, 0) := by
  have e : catFr l = catFr (l.take i) ++ (encFr l[i].1 l[i].2 ++ catFr (l.drop (i + 1))) := by
    have e2 : l = l.take i ++ (l[i] :: l.drop (i + 1)) := by
      rw [← List.drop_eq_getElem_cons hi, List.take_append_drop]
    conv => lhs; rw [e2]
    rw [catFr_append, catFr]
  rw [e, ← List.append_assoc, ← List.length_append, List.drop_left]
  have hf := hl l[i] (List.getElem_mem hi)
  exact getFr_enc hf.1 hf.2 _
theorem place_lt (ahead : List Int) (l : List (Int × List Int)) (i : Nat) (hi : i < l.length) : ahead.length + (catFr (l.take i)).length < (ahead ++ catFr l).length := by
  have e : l = l.take i ++ (l[i] :: l.drop (i + 1)) := by
    rw [← List.drop_eq_getElem_cons hi, List.take_append_drop]
  have e2 : (catFr l).length = (catFr (l.take i)).length + ((encFr l[i].1 l[i].2).length + (catFr (l.drop (i + 1))).length) := by
    conv => lhs; rw [e]
    rw [catFr_append, catFr, List.length_append, List.length_append]
  have := encFr_pos l[i].1 l[i].2
  rw [List.length_append]
  omega
theorem begI_at (opn : Bool) (ahead : List Int) (l : List (Int × List Int)) (hl : ∀ f ∈ l, Fit f) (i : Nat) (hi : i < l.length) : begI opn (ahead ++ catFr l) (ahead.length + (catFr (l.take i)).length) = true := by
  unfold begI
  rw [getFr_at ahead l hl i hi]
  simp
/-- Next from a frame's place is that place. -/
theorem next_at (ahead : List Int) (l : List (Int × List Int)) (hl : ∀ f ∈ l, Fit f) (i : Nat) (hi : i < l.length) : nextI false (ahead ++ catFr l) ((ahead.length + (catFr (l.take i)).length : Nat) : Int) = ((ahead.length + (catFr (l.take i)).length : Nat) : Int) := by
  refine next_found ?_ (place_lt ahead l i hi) ?_ (begI_at false ahead l hl i hi)
  · rw [Int.toNat_natCast]
    exact Nat.le_refl _
  · intro j h1 h2
    rw [Int.toNat_natCast] at h1
    omega
/-- Behind bytes in which none begins or may yet, the first frame is the first place. -/
theorem next_ahead (ahead : List Int) (l : List (Int × List Int)) (hb : ∀ x ∈ ahead, 0 ≤ x ∧ x < 256) (ho : nextI true ahead 0 = -1) (hl : ∀ f ∈ l, Fit f) (h0 : 0 < l.length) : nextI false (ahead ++ catFr l) 0 = (ahead.length : Int) := by
  have hz : ahead.length + (catFr (l.take 0)).length = ahead.length := by simp [catFr]
  refine next_found (by simp) ?_ ?_ ?_
  · have := place_lt ahead l 0 h0
    rw [hz] at this
    exact this
  · intro j _ hj
    obtain ⟨n0, n2⟩ := open_none ho j hj
    unfold begI
    rw [drop_longer (catFr l) (by omega) hb n2]
    simp only [Bool.false_and, Bool.or_false, beq_eq_false_iff_ne, ne_eq]
    exact n0
  · have := begI_at false ahead l hl 0 h0
    rw [hz] at this
    exact this
theorem count_places (q : Nat → Bool) : ∀ (l : List (Int × List Int)) (a hi : Nat), (∀ x ∈ placesF a l, q x = true) → a + (catFr l).length ≤ hi → countI q a + l.length ≤ countI q hi
  | [], a, hi, _, h => by
    simp only [catFr, List.length_nil, Nat.add_zero] at h ⊢
    exact count_mono q h
  | f :: r, a, hi, hq, h => by
    simp only [catFr, List.length_append] at h
    have hp := encFr_pos f.1 f.2
    have h1 : countI q (a + 1) = countI q a + 1 := by
      simp only [countI]
      rw [if_pos (hq a (by simp [placesF]))]
    have h2 := count_mono q (show a + 1 ≤ a + (encFr f.1 f.2).length by omega)
    have h3 := count_places q r (a + (encFr f.1 f.2).length) hi (fun x hx => hq x (by simp [placesF, hx])) (by omega)
    simp only [List.length_cons]
    omega
/-- There are no fewer than the frames that were laid. -/
theorem count_frames (ahead : List Int) (l : List (Int × List Int)) (hl : ∀ f ∈ l, Fit f) : l.length ≤ countI (begI false (ahead ++ catFr l)) (ahead ++ catFr l).length := by
  have h := count_places (begI false (ahead ++ catFr l)) l ahead.length (ahead ++ catFr l).length (by
    intro x hx
    obtain ⟨i, hi, e⟩ := List.getElem_of_mem hx
    rw [placesF_length] at hi
    have hg := placesF_get l ahead.length i hi
    rw [List.getD_eq_getElem?_getD, List.getElem?_eq_getElem (by rw [placesF_length]; exact hi), Option.getD_some, e] at hg
    rw [hg]
    exact begI_at false ahead l hl i hi) (by rw [List.length_append]; exact Nat.le_refl _)
  omega
#print axioms count_frames
#print axioms next_ahead
#print axioms getFr_longer
end Go.Proofs.Ytbbmblodabojeaa
