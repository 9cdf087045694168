/-
  Signatures as payloads, in plain numbers: a payload's bytes, what is read of bytes; there and back, one way, cut off, a byte more. No program here.
-/
import Derived.Test.YtnjhkjlekepjoaaPlainSig
namespace Go.Proofs.Ytnjhkjlekepjoaa

/-- A predicate's bytes. -/
def encP (p : Pr) : List Int := encT p.name ++ (encI p.args.length ++ p.args)
def catP : List Pr → List Int
  | [] => []
  | p :: l => encP p ++ catP l
/-- A signature's payload. -/
def encS (l : List Pr) : List Int := encI l.length ++ catP l
/-- What Put answers. -/
def putS (l : List Pr) : List Int × Int := if checkP l = 0 then (encS l, 0) else ([], checkP l)

theorem catP_snoc (p : Pr) : ∀ l : List Pr, catP (l ++ [p]) = catP l ++ encP p
  | [] => by simp [catP]
  | q :: l => by rw [List.cons_append, catP, catP_snoc p l, catP, List.append_assoc]
theorem catP_take_succ (l : List Pr) {k : Nat} {p : Pr} (h : l[k]? = some p) : catP (l.take (k + 1)) = catP (l.take k) ++ encP p := by
  rw [List.take_add_one, h, Option.toList_some, catP_snoc]
theorem encP_length (p : Pr) : (encP p).length = (encT p.name).length + ((encI p.args.length).length + p.args.length) := by simp [encP]

/-- What has a predicate's bytes. -/
def Small (p : Pr) : Prop := p.name.length ≤ 32 ∧ p.args.length ≤ 8 ∧ (∀ x ∈ p.name, 0 ≤ x ∧ x < 256) ∧ ∀ x ∈ p.args, 0 ≤ x ∧ x < 256
theorem Okay.small {l : List Pr} {i : Nat} {p : Pr} (h : Okay l i p) : Small p := by
  obtain ⟨h1, _, h3, h4⟩ := h
  unfold okName at h1
  simp only [Bool.and_eq_true, decide_eq_true_eq, List.all_eq_true] at h1
  obtain ⟨⟨⟨_, h2⟩, _⟩, h5⟩ := h1
  refine ⟨h2, h3, fun x hx => ?_, fun x hx => by have := h4 x hx; omega⟩
  have := h5 x hx
  simp only [nameB, inB, Bool.or_eq_true, Bool.and_eq_true, decide_eq_true_eq] at this
  omega
theorem check_small {l : List Pr} (h : checkP l = 0) : l.length ≤ 64 ∧ ∀ p ∈ l, Small p := by
  obtain ⟨h1, h2⟩ := checkP_zero.1 h
  refine ⟨h1, fun p hp => ?_⟩
  obtain ⟨i, hi⟩ := List.mem_iff_getElem?.1 hp
  exact (h2 i p hi).small
theorem encI_one {n : Nat} (h : n < 128) : (encI n).length = 1 := by rw [encI_small h]; rfl
theorem Small.length {p : Pr} (h : Small p) : (encP p).length ≤ 42 := by
  obtain ⟨h1, h2, _, _⟩ := h
  rw [encP_length, encT_length, encI_one (by omega), encI_one (by omega)]
  omega
theorem catP_le : ∀ l : List Pr, (∀ p ∈ l, Small p) → (catP l).length ≤ 42 * l.length
  | [], _ => by simp [catP]
  | p :: l, h => by
    have h1 := (h p (by simp)).length
    have h2 := catP_le l (fun q hq => h q (by simp [hq]))
    simp only [catP, List.length_append, List.length_cons]
    omega
theorem encS_le {l : List Pr} (h : checkP l = 0) : 1 ≤ (encS l).length ∧ (encS l).length ≤ 2689 := by
  obtain ⟨h1, h2⟩ := check_small h
  have := catP_le l h2
  rw [encS, List.length_append, encI_one (by omega)]
  omega
theorem Small.bytes {p : Pr} (h : Small p) : ∀ x ∈ encP p, 0 ≤ x ∧ x < 256 := by
  obtain ⟨h1, h2, h3, h4⟩ := h
  intro x hx
  rw [encP] at hx
  rcases List.mem_append.1 hx with hx | hx
  · exact encT_bytes (by omega) h3 x hx
  · rcases List.mem_append.1 hx with hx | hx
    · exact encI_bytes (by omega) x hx
    · exact h4 x hx
theorem catP_bytes : ∀ l : List Pr, (∀ p ∈ l, Small p) → ∀ x ∈ catP l, 0 ≤ x ∧ x < 256
  | [], _, x, hx => by simp [catP] at hx
  | p :: l, h, x, hx => by
    rw [catP] at hx
    rcases List.mem_append.1 hx with hx | hx
    · exact (h p (by simp)).bytes x hx
    · exact catP_bytes l (fun q hq => h q (by simp [hq])) x hx
theorem encS_bytes {l : List Pr} (h : checkP l = 0) : ∀ x ∈ encS l, 0 ≤ x ∧ x < 256 := by
  obtain ⟨h1, h2⟩ := check_small h
  intro x hx
  rw [encS] at hx
  rcases List.mem_append.1 hx with hx | hx
  · exact encI_bytes (by omega) x hx
  · exact catP_bytes l h2 x hx

/-- The predicate that bytes begin with, how many bytes it has, the error. -/
def getP (ys : List Int) : Pr × Nat × Int :=
  if (getT 32 ys).2.2 ≠ 0 then (default, 0, (getT 32 ys).2.2)
  else if (getI (ys.drop (getT 32 ys).2.1)).2.2 ≠ 0 then (default, 0, (getI (ys.drop (getT 32 ys).2.1)).2.2)
  else if 8 < (getI (ys.drop (getT 32 ys).2.1)).1 then (default, 0, 6)
  else if ((ys.length : Nat) : Int) < ((getT 32 ys).2.1 : Int) + (getI (ys.drop (getT 32 ys).2.1)).2.1 + (getI (ys.drop (getT 32 ys).2.1)).1 then (default, 0, 2)
  else (⟨(getT 32 ys).1, (ys.drop ((getT 32 ys).2.1 + (getI (ys.drop (getT 32 ys).2.1)).2.1)).take (getI (ys.drop (getT 32 ys).2.1)).1.toNat⟩, (getT 32 ys).2.1 + (getI (ys.drop (getT 32 ys).2.1)).2.1 + (getI (ys.drop (getT 32 ys).2.1)).1.toNat, 0)
section
variable {ys nm : List Int} {s k m : Nat}
theorem getP_name (h : (getT 32 ys).2.2 ≠ 0) : getP ys = (default, 0, (getT 32 ys).2.2) := by unfold getP; rw [if_pos h]
theorem getP_num (h : getT 32 ys = (nm, s, 0)) (h2 : (getI (ys.drop s)).2.2 ≠ 0) : getP ys = (default, 0, (getI (ys.drop s)).2.2) := by
  unfold getP
  rw [h, if_neg (by simp), if_pos h2]
theorem getP_limit (h : getT 32 ys = (nm, s, 0)) (h2 : getI (ys.drop s) = ((k : Int), m, 0)) (h3 : 8 < k) : getP ys = (default, 0, 6) := by
  unfold getP
  rw [h, if_neg (by simp)]
  dsimp only
  rw [h2, if_neg (by simp), if_pos (by simp only; omega)]
theorem getP_short (h : getT 32 ys = (nm, s, 0)) (h2 : getI (ys.drop s) = ((k : Int), m, 0)) (h3 : k ≤ 8) (h4 : ys.length < s + m + k) : getP ys = (default, 0, 2) := by
  unfold getP
  rw [h, if_neg (by simp)]
  dsimp only
  rw [h2, if_neg (by simp), if_neg (by simp only; omega), if_pos (by simp only; omega)]
theorem getP_ok (h : getT 32 ys = (nm, s, 0)) (h2 : getI (ys.drop s) = ((k : Int), m, 0)) (h3 : k ≤ 8) (h4 : s + m + k ≤ ys.length) : getP ys = (⟨nm, (ys.drop (s + m)).take k⟩, s + m + k, 0) := by
  unfold getP
  rw [h, if_neg (by simp)]
  dsimp only
  rw [h2, if_neg (by simp), if_neg (by simp only; omega), if_neg (by simp only; omega)]
  simp
end
theorem getT_most {most : Int} (xs : List Int) (hb : ∀ x ∈ xs, 0 ≤ x ∧ x < 256) (h : (getT most xs).2.2 = 0) : ((getT most xs).1.length : Int) ≤ max most 0 := by
  by_cases he : (getI xs).2.2 = 0
  · obtain ⟨n, s, hg, h1, h2, h3, h4, h5⟩ := getI_ok xs hb he
    by_cases hl : max most 0 < (n : Int)
    · rw [getT_limit hg hl] at h; simp at h
    · by_cases hs : xs.length - s < n
      · rw [getT_short hg hl hs] at h; simp at h
      · rw [getT_ok hg hl hs]
        simp only [List.length_take, List.length_drop]
        omega
  · rw [getT_err rfl he] at h
    exact absurd h he
/-- How a predicate is read: the ways. -/
theorem getP_ways (ys : List Int) (hb : ∀ x ∈ ys, 0 ≤ x ∧ x < 256) :
    ((getT 32 ys).2.2 ≠ 0 ∧ getP ys = (default, 0, (getT 32 ys).2.2)) ∨
    ∃ (nm : List Int) (s : Nat), getT 32 ys = (nm, s, 0) ∧ 1 ≤ s ∧ s ≤ ys.length ∧ nm.length ≤ 32 ∧ encT nm = ys.take s ∧ (∀ x ∈ nm, 0 ≤ x ∧ x < 256) ∧
      (((getI (ys.drop s)).2.2 ≠ 0 ∧ getP ys = (default, 0, (getI (ys.drop s)).2.2)) ∨
       ∃ k m : Nat, getI (ys.drop s) = ((k : Int), m, 0) ∧ 1 ≤ m ∧ s + m ≤ ys.length ∧ k < 18446744073709551616 ∧ encI k = (ys.drop s).take m ∧
         ((8 < k ∧ getP ys = (default, 0, 6)) ∨ (k ≤ 8 ∧ ys.length < s + m + k ∧ getP ys = (default, 0, 2)) ∨
          (k ≤ 8 ∧ s + m + k ≤ ys.length ∧ getP ys = (⟨nm, (ys.drop (s + m)).take k⟩, s + m + k, 0)))) := by
  by_cases h1 : (getT 32 ys).2.2 = 0
  · right
    obtain ⟨b1, b2, b3, b4, b5⟩ := getT_back ys hb h1
    have b6 := getT_most ys hb h1
    obtain ⟨⟨nm, s, er⟩, ht⟩ : ∃ t, getT 32 ys = t := ⟨_, rfl⟩
    rw [ht] at h1 b1 b2 b3 b4 b5 b6
    simp only at h1 b1 b2 b3 b4 b5 b6
    subst h1
    refine ⟨nm, s, ht, b1, b2, by omega, b3, b5, ?_⟩
    by_cases h2 : (getI (ys.drop s)).2.2 = 0
    · right
      obtain ⟨k, m, hk, c1, c2, c3, c4, c5⟩ := getI_ok (ys.drop s) (drop_bytes hb s) h2
      rw [List.length_drop] at c2
      refine ⟨k, m, hk, c1, by omega, c5, c4, ?_⟩
      by_cases h3 : 8 < k
      · exact .inl ⟨h3, getP_limit ht hk h3⟩
      · by_cases h4 : ys.length < s + m + k
        · exact .inr (.inl ⟨by omega, h4, getP_short ht hk (by omega) h4⟩)
        · exact .inr (.inr ⟨by omega, by omega, getP_ok ht hk (by omega) (by omega)⟩)
    · exact .inl ⟨h2, getP_num ht h2⟩
  · exact .inl ⟨h1, getP_name h1⟩
theorem getP_enc {p : Pr} (h : Small p) (rest : List Int) : getP (encP p ++ rest) = (p, (encP p).length, 0) := by
  obtain ⟨h1, h2, _, _⟩ := h
  have ht : getT 32 (encP p ++ rest) = (p.name, (encT p.name).length, 0) := by
    rw [encP, List.append_assoc]
    exact getT_enc (by omega) (by omega) _
  have hi : getI ((encP p ++ rest).drop (encT p.name).length) = ((p.args.length : Int), (encI p.args.length).length, 0) := by
    rw [encP, List.append_assoc, List.drop_left, List.append_assoc]
    exact getI_enc (by omega) _
  rw [getP_ok ht hi h2 (by rw [List.length_append, encP_length]; omega)]
  have e : (encP p ++ rest).drop ((encT p.name).length + (encI p.args.length).length) = p.args ++ rest := by
    rw [encP, ← List.drop_drop, List.append_assoc, List.drop_left, List.append_assoc, List.drop_left]
  rw [e, List.take_left, encP_length, Nat.add_assoc]
theorem getP_cut {p : Pr} (h : Small p) {c : Nat} (hc : c < (encP p).length) : (getP ((encP p).take c)).2.2 = 2 := by
  obtain ⟨h1, h2, _, _⟩ := h
  by_cases q1 : c < (encT p.name).length
  · have e : (encP p).take c = (encT p.name).take c := by rw [encP, List.take_append_of_le_length (by omega)]
    have ht : getT 32 ((encP p).take c) = ([], 0, 2) := by rw [e]; exact getT_cut (by omega) (by omega) q1
    rw [getP_name (by rw [ht]; decide), ht]
  · have e : (encP p).take c = encT p.name ++ (encI p.args.length ++ p.args).take (c - (encT p.name).length) := by
      rw [encP, List.take_append, List.take_of_length_le (by omega)]
    have ht : getT 32 ((encP p).take c) = (p.name, (encT p.name).length, 0) := by rw [e]; exact getT_enc (by omega) (by omega) _
    have hd : ((encP p).take c).drop (encT p.name).length = (encI p.args.length ++ p.args).take (c - (encT p.name).length) := by rw [e, List.drop_left]
    by_cases q2 : c - (encT p.name).length < (encI p.args.length).length
    · have hi : getI (((encP p).take c).drop (encT p.name).length) = (0, 0, 2) := by
        rw [hd, List.take_append_of_le_length (by omega)]
        exact getI_cut (by omega) q2
      rw [getP_num ht (by rw [hi]; decide), hi]
    · have hi : getI (((encP p).take c).drop (encT p.name).length) = ((p.args.length : Int), (encI p.args.length).length, 0) := by
        rw [hd, List.take_append, List.take_of_length_le (by omega)]
        exact getI_enc (by omega) _
      rw [encP_length] at hc
      rw [getP_short ht hi h2 (by rw [List.length_take, encP_length]; omega)]
theorem getP_back (ys : List Int) (hb : ∀ x ∈ ys, 0 ≤ x ∧ x < 256) (h : (getP ys).2.2 = 0) : 1 ≤ (getP ys).2.1 ∧ (getP ys).2.1 ≤ ys.length ∧ encP (getP ys).1 = ys.take (getP ys).2.1 ∧ Small (getP ys).1 := by
  rcases getP_ways ys hb with ⟨h1, e⟩ | ⟨nm, s, ht, b1, b2, b3, b4, b5, ⟨h1, e⟩ | ⟨k, m, hi, c1, c2, c3, c4, ⟨h1, e⟩ | ⟨h1, h2, e⟩ | ⟨h1, h2, e⟩⟩⟩
  · rw [e] at h; exact absurd h h1
  · rw [e] at h; exact absurd h h1
  · rw [e] at h; cases h
  · rw [e] at h; cases h
  · rw [e]
    have hlen : ((ys.drop (s + m)).take k).length = k := by simp; omega
    refine ⟨by simp only; omega, h2, ?_, b3, by simp only [hlen]; exact h1, b5, fun x hx => hb x (List.mem_of_mem_drop (List.mem_of_mem_take hx))⟩
    simp only [encP, hlen, b4, c4]
    rw [Nat.add_assoc s m k, List.take_add, List.take_add, List.drop_drop]

/-- Predicates ahead of what is read behind them. -/
def glueP (pre : List Pr) (s : Nat) (r : List Pr × Nat × Int) : List Pr × Nat × Int := if r.2.2 = 0 then (pre ++ r.1, s + r.2.1, 0) else ([], 0, r.2.2)
theorem glueP_glueP (p q : List Pr) (s t : Nat) (r : List Pr × Nat × Int) : glueP p s (glueP q t r) = glueP (p ++ q) (s + t) r := by
  unfold glueP
  by_cases h : r.2.2 = 0
  · rw [if_pos h, if_pos rfl, if_pos h]
    simp [Nat.add_assoc]
  · rw [if_neg h, if_neg h, if_neg h]
theorem glueP_ok (p : List Pr) (s : Nat) : glueP p s ([], 0, 0) = (p, s, 0) := by simp [glueP]
theorem glueP_err (p : List Pr) (s : Nat) {e : Int} (l : List Pr) (t : Nat) (h : e ≠ 0) : glueP p s (l, t, e) = ([], 0, e) := by simp [glueP, h]
/-- So many predicates, one behind the other. -/
def getL : Nat → List Int → List Pr × Nat × Int
  | 0, _ => ([], 0, 0)
  | n + 1, ys => if (getP ys).2.2 = 0 then glueP [(getP ys).1] (getP ys).2.1 (getL n (ys.drop (getP ys).2.1)) else ([], 0, (getP ys).2.2)
theorem getL_step {n : Nat} {ys : List Int} {p : Pr} {s : Nat} (h : getP ys = (p, s, 0)) : getL (n + 1) ys = glueP [p] s (getL n (ys.drop s)) := by rw [getL, h]; rfl
theorem getL_stop {n : Nat} {ys : List Int} (h : (getP ys).2.2 ≠ 0) : getL (n + 1) ys = ([], 0, (getP ys).2.2) := by rw [getL, if_neg h]
theorem getL_cat (rest : List Int) : ∀ l : List Pr, (∀ p ∈ l, Small p) → getL l.length (catP l ++ rest) = (l, (catP l).length, 0)
  | [], _ => rfl
  | p :: l, h => by
    have hp := getP_enc (h p (by simp)) (catP l ++ rest)
    rw [List.length_cons, catP, List.append_assoc, getL_step hp, List.drop_left, getL_cat rest l (fun q hq => h q (by simp [hq]))]
    simp [glueP]
theorem getL_cut : ∀ (l : List Pr), (∀ p ∈ l, Small p) → ∀ c, c < (catP l).length → (getL l.length ((catP l).take c)).2.2 = 2
  | [], _, c, hc => by simp [catP] at hc
  | p :: l, h, c, hc => by
    have hsp := h p (by simp)
    rw [catP, List.length_append] at hc
    by_cases q : c < (encP p).length
    · have e : (catP (p :: l)).take c = (encP p).take c := by rw [catP, List.take_append_of_le_length (by omega)]
      have := getP_cut hsp q
      rw [List.length_cons, e, getL_stop (by rw [this]; decide), this]
    · have e : (catP (p :: l)).take c = encP p ++ (catP l).take (c - (encP p).length) := by rw [catP, List.take_append, List.take_of_length_le (by omega)]
      have hi := getL_cut l (fun q hq => h q (by simp [hq])) (c - (encP p).length) (by omega)
      rw [List.length_cons, e, getL_step (getP_enc hsp _), List.drop_left]
      unfold glueP
      rw [if_neg (by rw [hi]; decide), hi]
theorem getL_back : ∀ (n : Nat) (ys : List Int), (∀ x ∈ ys, 0 ≤ x ∧ x < 256) → (getL n ys).2.2 = 0 → (getL n ys).1.length = n ∧ (getL n ys).2.1 ≤ ys.length ∧ catP (getL n ys).1 = ys.take (getL n ys).2.1 ∧ ∀ p ∈ (getL n ys).1, Small p
  | 0, ys, _, _ => by simp [getL, catP]
  | n + 1, ys, hb, h => by
    by_cases h1 : (getP ys).2.2 = 0
    · obtain ⟨b1, b2, b3, b4⟩ := getP_back ys hb h1
      have e : getL (n + 1) ys = glueP [(getP ys).1] (getP ys).2.1 (getL n (ys.drop (getP ys).2.1)) := by rw [getL, if_pos h1]
      rw [e] at h ⊢
      by_cases h2 : (getL n (ys.drop (getP ys).2.1)).2.2 = 0
      · obtain ⟨c1, c2, c3, c4⟩ := getL_back n (ys.drop (getP ys).2.1) (drop_bytes hb _) h2
        unfold glueP
        rw [if_pos h2]
        rw [List.length_drop] at c2
        refine ⟨by simp [c1], by simp only; omega, ?_, fun p hp => ?_⟩
        · simp only [List.singleton_append, catP, b3, c3]
          rw [List.take_add]
        · simp only [List.singleton_append, List.mem_cons] at hp
          rcases hp with rfl | hp
          · exact b4
          · exact c4 p hp
      · exfalso
        unfold glueP at h
        rw [if_neg h2] at h
        exact h2 h
    · rw [getL_stop h1] at h
      exact absurd h h1

/-- What Get answers of a payload. -/
def getSig (xs : List Int) : List Pr × Int :=
  if (getI xs).2.2 ≠ 0 then ([], (getI xs).2.2)
  else if 64 < (getI xs).1 then ([], 6)
  else if (getL (getI xs).1.toNat (xs.drop (getI xs).2.1)).2.2 ≠ 0 then ([], (getL (getI xs).1.toNat (xs.drop (getI xs).2.1)).2.2)
  else if (getI xs).2.1 + (getL (getI xs).1.toNat (xs.drop (getI xs).2.1)).2.1 < xs.length then ([], 4)
  else if checkP (getL (getI xs).1.toNat (xs.drop (getI xs).2.1)).1 ≠ 0 then ([], checkP (getL (getI xs).1.toNat (xs.drop (getI xs).2.1)).1)
  else ((getL (getI xs).1.toNat (xs.drop (getI xs).2.1)).1, 0)
section
variable {xs : List Int} {n s t : Nat} {l : List Pr}
theorem getSig_num (h : (getI xs).2.2 ≠ 0) : getSig xs = ([], (getI xs).2.2) := by unfold getSig; rw [if_pos h]
theorem getSig_limit (h : getI xs = ((n : Int), s, 0)) (h2 : 64 < n) : getSig xs = ([], 6) := by
  unfold getSig
  rw [h, if_neg (by simp), if_pos (by simp only; omega)]
theorem getSig_pred (h : getI xs = ((n : Int), s, 0)) (h2 : n ≤ 64) (h3 : (getL n (xs.drop s)).2.2 ≠ 0) : getSig xs = ([], (getL n (xs.drop s)).2.2) := by
  unfold getSig
  rw [h, if_neg (by simp), if_neg (by simp only; omega)]
  simp only [Int.toNat_natCast]
  rw [if_pos h3]
theorem getSig_form (h : getI xs = ((n : Int), s, 0)) (h2 : n ≤ 64) (h3 : getL n (xs.drop s) = (l, t, 0)) (h4 : s + t < xs.length) : getSig xs = ([], 4) := by
  unfold getSig
  rw [h, if_neg (by simp), if_neg (by simp only; omega)]
  simp only [Int.toNat_natCast, h3]
  rw [if_neg (by simp), if_pos h4]
theorem getSig_check (h : getI xs = ((n : Int), s, 0)) (h2 : n ≤ 64) (h3 : getL n (xs.drop s) = (l, t, 0)) (h4 : ¬ s + t < xs.length) (h5 : checkP l ≠ 0) : getSig xs = ([], checkP l) := by
  unfold getSig
  rw [h, if_neg (by simp), if_neg (by simp only; omega)]
  simp only [Int.toNat_natCast, h3]
  rw [if_neg (by simp), if_neg h4, if_pos h5]
theorem getSig_ok (h : getI xs = ((n : Int), s, 0)) (h2 : n ≤ 64) (h3 : getL n (xs.drop s) = (l, t, 0)) (h4 : ¬ s + t < xs.length) (h5 : checkP l = 0) : getSig xs = (l, 0) := by
  unfold getSig
  rw [h, if_neg (by simp), if_neg (by simp only; omega)]
  simp only [Int.toNat_natCast, h3]
  rw [if_neg (by simp), if_neg h4, if_neg (by rw [h5]; simp)]
end
/-- There and back. -/
theorem getSig_enc {l : List Pr} (h : checkP l = 0) : getSig (encS l) = (l, 0) := by
  obtain ⟨h1, h2⟩ := check_small h
  have hi : getI (encS l) = ((l.length : Int), (encI l.length).length, 0) := getI_enc (by omega) _
  have hl : getL l.length ((encS l).drop (encI l.length).length) = (l, (catP l).length, 0) := by
    rw [encS, List.drop_left]
    have := getL_cat [] l h2
    rwa [List.append_nil] at this
  exact getSig_ok hi h1 hl (by rw [encS, List.length_append]; omega) h
/-- A byte more. -/
theorem getSig_more {l : List Pr} (h : checkP l = 0) (x : Int) : getSig (encS l ++ [x]) = ([], 4) := by
  obtain ⟨h1, h2⟩ := check_small h
  have hi : getI (encS l ++ [x]) = ((l.length : Int), (encI l.length).length, 0) := by rw [encS, List.append_assoc]; exact getI_enc (by omega) _
  have hl : getL l.length ((encS l ++ [x]).drop (encI l.length).length) = (l, (catP l).length, 0) := by
    rw [encS, List.append_assoc, List.drop_left]
    exact getL_cat [x] l h2
  exact getSig_form hi h1 hl (by simp [encS])
/-- Cut off anywhere. -/
theorem getSig_cut {l : List Pr} (h : checkP l = 0) {c : Nat} (hc : c < (encS l).length) : getSig ((encS l).take c) = ([], 2) := by
  obtain ⟨h1, h2⟩ := check_small h
  by_cases q : c < (encI l.length).length
  · have hi : getI ((encS l).take c) = (0, 0, 2) := by
      rw [encS, List.take_append_of_le_length (by omega)]
      exact getI_cut (by omega) q
    rw [getSig_num (by rw [hi]; decide), hi]
  · have e : (encS l).take c = encI l.length ++ (catP l).take (c - (encI l.length).length) := by rw [encS, List.take_append, List.take_of_length_le (by omega)]
    have hi : getI ((encS l).take c) = ((l.length : Int), (encI l.length).length, 0) := by rw [e]; exact getI_enc (by omega) _
    have hl : (getL l.length (((encS l).take c).drop (encI l.length).length)).2.2 = 2 := by
      rw [e, List.drop_left]
      rw [encS, List.length_append] at hc
      exact getL_cut l h2 _ (by omega)
    rw [getSig_pred hi h1 (by rw [hl]; decide), hl]
/-- One way. -/
theorem getSig_back {xs : List Int} (hb : ∀ x ∈ xs, 0 ≤ x ∧ x < 256) (h : (getSig xs).2 = 0) : checkP (getSig xs).1 = 0 ∧ encS (getSig xs).1 = xs := by
  by_cases h1 : (getI xs).2.2 = 0
  · obtain ⟨n, s, hi, b1, b2, b3, b4, b5⟩ := getI_ok xs hb h1
    by_cases h2 : 64 < n
    · rw [getSig_limit hi h2] at h; cases h
    · by_cases h3 : (getL n (xs.drop s)).2.2 = 0
      · obtain ⟨c1, c2, c3, c4⟩ := getL_back n (xs.drop s) (drop_bytes hb s) h3
        obtain ⟨⟨l, t, er⟩, hl⟩ : ∃ r, getL n (xs.drop s) = r := ⟨_, rfl⟩
        rw [hl] at h3 c1 c2 c3 c4
        simp only at h3 c1 c2 c3 c4
        subst h3
        rw [List.length_drop] at c2
        by_cases h4 : s + t < xs.length
        · rw [getSig_form hi (by omega) hl h4] at h; cases h
        · by_cases h5 : checkP l = 0
          · rw [getSig_ok hi (by omega) hl h4 h5]
            refine ⟨h5, ?_⟩
            simp only [encS, c1, b4, c3]
            rw [← List.take_add, List.take_of_length_le (by omega)]
          · rw [getSig_check hi (by omega) hl h4 h5] at h
            exact absurd h h5
      · rw [getSig_pred hi (by omega) h3] at h
        exact absurd h h3
  · rw [getSig_num h1] at h
    exact absurd h h1
theorem getSig_none {xs : List Int} (h : (getSig xs).2 ≠ 0) : (getSig xs).1 = [] := by
  unfold getSig at h ⊢
  split
  · rfl
  · split
    · rfl
    · split
      · rfl
      · split
        · rfl
        · split
          · rfl
          · rename_i a b c d e
            rw [if_neg a, if_neg b, if_neg c, if_neg d, if_neg e] at h
            exact absurd rfl h
#print axioms getSig_back
#print axioms getSig_cut
end Go.Proofs.Ytnjhkjlekepjoaa
