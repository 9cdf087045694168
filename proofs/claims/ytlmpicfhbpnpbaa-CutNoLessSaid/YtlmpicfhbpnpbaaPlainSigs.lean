/-
  Signatures, and their payloads, in plain numbers: why one may not be, which predicate has a name; a payload's bytes, what is read of bytes, there and back; the program's way and the document's way through a payload. No program here.
-/
import Derived.Test.YtlmpicfhbpnpbaaPlains
namespace Go.Proofs.Ytlmpicfhbpnpbaa

/-- The first of n places from a on at which q holds; -1. (As for frames' places; this part is to stand without these.) -/
def firstAt (q : Nat → Bool) : Nat → Nat → Int
  | 0, _ => -1
  | n + 1, a => if q a then (a : Int) else firstAt q n (a + 1)
theorem firstAt_cases (q : Nat → Bool) : ∀ (n a : Nat), (firstAt q n a = -1 ∧ ∀ j, a ≤ j → j < a + n → q j = false) ∨ ∃ r : Nat, firstAt q n a = (r : Int) ∧ a ≤ r ∧ r < a + n ∧ q r = true ∧ ∀ j, a ≤ j → j < r → q j = false
  | 0, a => Or.inl ⟨rfl, fun j h1 h2 => by omega⟩
  | n + 1, a => by
    by_cases h : q a = true
    · exact Or.inr ⟨a, by simp only [firstAt, if_pos h], Nat.le_refl _, by omega, h, fun j h1 h2 => by omega⟩
    · have hf : q a = false := by simpa using h
      rcases firstAt_cases q n (a + 1) with ⟨e, hn⟩ | ⟨r, e, h1, h2, h3, h4⟩
      · refine Or.inl ⟨by rw [firstAt, if_neg h, e], fun j h1 h2 => ?_⟩
        by_cases he : j = a
        · rw [he]; exact hf
        · exact hn j (by omega) (by omega)
      · refine Or.inr ⟨r, by rw [firstAt, if_neg h, e], by omega, by omega, h3, fun j h5 h6 => ?_⟩
        by_cases he : j = a
        · rw [he]; exact hf
        · exact h4 j (by omega) h6
theorem firstAt_found {q : Nat → Bool} (n a r : Nat) (h1 : a ≤ r) (h2 : r < a + n) (h3 : ∀ j, a ≤ j → j < r → q j = false) (h4 : q r = true) : firstAt q n a = (r : Int) := by
  rcases firstAt_cases q n a with ⟨_, hn⟩ | ⟨s, e, q1, q2, q3, q4⟩
  · rw [hn r h1 h2] at h4; cases h4
  · rcases Nat.lt_trichotomy r s with h | h | h
    · rw [q4 r h1 h] at h4; cases h4
    · rw [e, h]
    · rw [h3 s q1 h] at q3; cases q3
theorem firstAt_none {q : Nat → Bool} (n a : Nat) (h : ∀ j, a ≤ j → j < a + n → q j = false) : firstAt q n a = -1 := by
  rcases firstAt_cases q n a with ⟨e, _⟩ | ⟨s, e, q1, q2, q3, q4⟩
  · exact e
  · rw [h s q1 q2] at q3; cases q3

/-- A predicate: its name's bytes, its arguments' types. -/
structure Pr where
  name : List Int
  args : List Int
  deriving DecidableEq
instance : Inhabited Pr := ⟨⟨[], []⟩⟩

def inB (c low high : Int) : Bool := decide (low ≤ c) && decide (c ≤ high)
def nameB (c : Int) : Bool := inB c 65 90 || inB c 97 122 || inB c 48 57 || decide (c = 95)
def okName (s : List Int) : Bool := decide (0 < s.length) && decide (s.length ≤ 32) && !inB (s.getD 0 0) 48 57 && s.all nameB

/-- The first predicate of a name; -1. -/
def findP (l : List Pr) (nm : List Int) : Int := firstAt (fun i => decide ((l.getD i default).name = nm)) l.length 0
/-- What is wrong with the predicate at a place, in the chapter's order; 0. -/
def whyP (l : List Pr) (i : Nat) : Int :=
  if okName (l.getD i default).name = false ∨ findP l (l.getD i default).name < i then 9
  else if 8 < (l.getD i default).args.length then 6
  else if (l.getD i default).args.all (fun t => inB t 1 2) = false then 7 else 0
def firstWhy (f : Nat → Int) : Nat → Nat → Int
  | 0, _ => 0
  | n + 1, a => if f a = 0 then firstWhy f n (a + 1) else f a
def checkP (l : List Pr) : Int := if 64 < l.length then 6 else firstWhy (whyP l) l.length 0

theorem firstWhy_none {f : Nat → Int} : ∀ (n a : Nat), (∀ j, a ≤ j → j < a + n → f j = 0) → firstWhy f n a = 0
  | 0, _, _ => rfl
  | n + 1, a, h => by
    rw [firstWhy, if_pos (h a (Nat.le_refl _) (by omega))]
    exact firstWhy_none n (a + 1) fun j h1 h2 => h j (by omega) (by omega)
theorem firstWhy_found {f : Nat → Int} : ∀ (n a r : Nat), a ≤ r → r < a + n → (∀ j, a ≤ j → j < r → f j = 0) → f r ≠ 0 → firstWhy f n a = f r
  | 0, a, r, h1, h2, _, _ => by omega
  | n + 1, a, r, h1, h2, h3, h4 => by
    rw [firstWhy]
    by_cases h : a = r
    · subst h
      rw [if_neg h4]
    · rw [if_pos (h3 a (Nat.le_refl _) (by omega))]
      exact firstWhy_found n (a + 1) r (by omega) (by omega) (fun j q1 q2 => h3 j (by omega) q2) h4
theorem firstWhy_zero {f : Nat → Int} : ∀ (n a : Nat), firstWhy f n a = 0 → ∀ j, a ≤ j → j < a + n → f j = 0
  | 0, a, _, j, h1, h2 => by omega
  | n + 1, a, h, j, h1, h2 => by
    rw [firstWhy] at h
    split at h
    · rename_i h0
      by_cases e : j = a
      · rw [e]; exact h0
      · exact firstWhy_zero n (a + 1) h j (by omega) (by omega)
    · rename_i h0
      exact absurd h h0
theorem checkP_many {l : List Pr} (h : 64 < l.length) : checkP l = 6 := if_pos h
theorem checkP_found {l : List Pr} (h : l.length ≤ 64) {r : Nat} (hr : r < l.length) (h3 : ∀ j, j < r → whyP l j = 0) (h4 : whyP l r ≠ 0) : checkP l = whyP l r := by
  rw [checkP, if_neg (by omega)]
  exact firstWhy_found _ _ r (Nat.zero_le _) (by omega) (fun j _ h => h3 j h) h4
theorem checkP_none {l : List Pr} (h : l.length ≤ 64) (h3 : ∀ j, j < l.length → whyP l j = 0) : checkP l = 0 := by
  rw [checkP, if_neg (by omega)]
  exact firstWhy_none _ _ fun j _ h => h3 j (by omega)

/-! The first of a name. -/
theorem findP_found {l : List Pr} {nm : List Int} {r : Nat} {p : Pr} (hp : l[r]? = some p) (hn : ∀ (j : Nat) (q : Pr), j < r → l[j]? = some q → q.name ≠ nm) (he : p.name = nm) : findP l nm = (r : Int) := by
  have hr := (List.getElem?_eq_some_iff.1 hp).1
  refine firstAt_found _ 0 r (Nat.zero_le _) (by omega) (fun j _ hj => ?_) ?_
  · have hj2 : l[j]? = some (l[j]'(by omega)) := List.getElem?_eq_getElem (by omega)
    simp only [decide_eq_false_iff_not, List.getD, hj2, Option.getD_some]
    exact hn j _ hj hj2
  · simp only [decide_eq_true_eq, List.getD, hp, Option.getD_some]
    exact he
theorem findP_none {l : List Pr} {nm : List Int} (hn : ∀ (j : Nat) (q : Pr), l[j]? = some q → q.name ≠ nm) : findP l nm = -1 := by
  refine firstAt_none _ 0 fun j _ hj => ?_
  have hj2 : l[j]? = some (l[j]'(by omega)) := List.getElem?_eq_getElem (by omega)
  simp only [decide_eq_false_iff_not, List.getD, hj2, Option.getD_some]
  exact hn j _ hj2
theorem findP_ways (l : List Pr) (nm : List Int) : (findP l nm = -1 ∧ ∀ (j : Nat) (q : Pr), l[j]? = some q → q.name ≠ nm) ∨ ∃ (r : Nat) (p : Pr), findP l nm = (r : Int) ∧ l[r]? = some p ∧ p.name = nm ∧ ∀ (j : Nat) (q : Pr), j < r → l[j]? = some q → q.name ≠ nm := by
  have key : ∀ (j : Nat) (q : Pr), l[j]? = some q → ((decide ((l.getD j default).name = nm)) = false → q.name ≠ nm) := by
    intro j q hj h
    simpa [List.getD, hj] using h
  rcases firstAt_cases (fun i => decide ((l.getD i default).name = nm)) l.length 0 with ⟨e, hn⟩ | ⟨r, e, h1, h2, h3, h4⟩
  · exact .inl ⟨e, fun j q hj => key j q hj (hn j (Nat.zero_le _) (by have := (List.getElem?_eq_some_iff.1 hj).1; omega))⟩
  · have hr : l[r]? = some (l[r]'(by omega)) := List.getElem?_eq_getElem (by omega)
    refine .inr ⟨r, _, e, hr, ?_, fun j q hj hq => key j q hq (h4 j (Nat.zero_le _) hj)⟩
    simpa [List.getD, hr] using h3

/-! A signature that may be. -/
/-- What may be. -/
def Okay (l : List Pr) (i : Nat) (p : Pr) : Prop := okName p.name = true ∧ (∀ (j : Nat) (q : Pr), j < i → l[j]? = some q → q.name ≠ p.name) ∧ p.args.length ≤ 8 ∧ ∀ t ∈ p.args, 1 ≤ t ∧ t ≤ 2
theorem find_self {l : List Pr} {i : Nat} {p : Pr} (hp : l[i]? = some p) : (¬ findP l p.name < i) ↔ ∀ (j : Nat) (q : Pr), j < i → l[j]? = some q → q.name ≠ p.name := by
  rcases findP_ways l p.name with ⟨_, hn⟩ | ⟨r, q, e, h1, h2, h3⟩
  · exact absurd rfl (hn i p hp)
  · rw [e]
    constructor
    · intro h j q hj hq
      exact h3 j q (by omega) hq
    · intro h h5
      exact h r q (by omega) h1 h2
theorem whyP_zero {l : List Pr} {i : Nat} {p : Pr} (hp : l[i]? = some p) : whyP l i = 0 ↔ Okay l i p := by
  have e : l.getD i default = p := by simp [List.getD, hp]
  unfold whyP Okay
  rw [e, ← find_self hp]
  have h4 : (p.args.all (fun t => inB t 1 2) = false) ↔ ¬ ∀ t ∈ p.args, 1 ≤ t ∧ t ≤ 2 := by
    rw [← Bool.not_eq_true, List.all_eq_true]
    simp [inB]
  by_cases h1 : okName p.name = false ∨ findP l p.name < i
  · rw [if_pos h1]
    constructor
    · intro h; cases h
    · rintro ⟨h2, h3, _⟩
      rcases h1 with h1 | h1
      · rw [h1] at h2; cases h2
      · exact absurd h1 h3
  · rw [if_neg h1]
    rw [not_or] at h1
    by_cases h2 : 8 < p.args.length
    · rw [if_pos h2]
      constructor
      · intro h; cases h
      · rintro ⟨_, _, h3, _⟩; omega
    · rw [if_neg h2]
      by_cases h3 : p.args.all (fun t => inB t 1 2) = false
      · rw [if_pos h3]
        constructor
        · intro h; cases h
        · rintro ⟨_, _, _, h5⟩; exact absurd h5 (h4.1 h3)
      · rw [if_neg h3]
        refine ⟨fun _ => ⟨by simpa using h1.1, h1.2, by omega, ?_⟩, fun _ => rfl⟩
        exact Classical.byContradiction fun h => h3 (h4.2 h)
theorem checkP_zero {l : List Pr} : checkP l = 0 ↔ l.length ≤ 64 ∧ ∀ (i : Nat) (p : Pr), l[i]? = some p → Okay l i p := by
  constructor
  · intro h
    by_cases hl : 64 < l.length
    · rw [checkP_many hl] at h; cases h
    · rw [checkP, if_neg hl] at h
      exact ⟨by omega, fun i p hp => (whyP_zero hp).1 (firstWhy_zero _ _ h i (Nat.zero_le _) (by have := (List.getElem?_eq_some_iff.1 hp).1; omega))⟩
  · rintro ⟨hl, h⟩
    refine checkP_none hl fun j hj => ?_
    have hp : l[j]? = some (l[j]'hj) := List.getElem?_eq_getElem hj
    exact (whyP_zero hp).2 (h j _ hp)
/-- Of a signature that may be each first part may be; each predicate is found by its name. -/
theorem checkP_take {l : List Pr} (h : checkP l = 0) (k : Nat) : checkP (l.take k) = 0 := by
  obtain ⟨h1, h2⟩ := checkP_zero.1 h
  have hg : ∀ (j : Nat) (q : Pr), (l.take k)[j]? = some q → l[j]? = some q := by
    intro j q hj
    have hlt := (List.getElem?_eq_some_iff.1 hj).1
    rw [List.length_take] at hlt
    rwa [List.getElem?_take, if_pos (by omega)] at hj
  refine checkP_zero.2 ⟨by rw [List.length_take]; omega, fun i p hp => ?_⟩
  obtain ⟨q1, q2, q3, q4⟩ := h2 i p (hg i p hp)
  exact ⟨q1, fun j q hj hq => q2 j q hj (hg j q hq), q3, q4⟩
theorem checkP_found_self {l : List Pr} (h : checkP l = 0) {i : Nat} {p : Pr} (hp : l[i]? = some p) : findP l p.name = (i : Int) ∧ okName p.name = true := by
  obtain ⟨_, h2⟩ := checkP_zero.1 h
  obtain ⟨q1, q2, _⟩ := h2 i p hp
  exact ⟨findP_found hp q2 rfl, q1⟩
#print axioms checkP_zero
#print axioms checkP_take
#print axioms checkP_found_self
end Go.Proofs.Ytlmpicfhbpnpbaa

namespace Go.Proofs.Ytlmpicfhbpnpbaa

/-- A predicate's bytes. -/
def encP (p : Pr) : List Int := encT p.name ++ (encI p.args.length ++ p.args)
def catP : List Pr → List Int
  | [] => []
  | p :: l => encP p ++ catP l
/-- A signature's payload. -/
def encS (l : List Pr) : List Int := encI l.length ++ catP l
/-- What Put answers. -/
def putS (l : List Pr) : List Int × Int := if checkP l = 0 then (encS l, 0) else ([], checkP l)

theorem catP_snoc (p : Pr) : ∀ l : List Pr, catP (l ++ [p]) = catP l ++ encP p
  | [] => by simp [catP]
  | q :: l => by rw [List.cons_append, catP, catP_snoc p l, catP, List.append_assoc]
theorem catP_take_succ (l : List Pr) {k : Nat} {p : Pr} (h : l[k]? = some p) : catP (l.take (k + 1)) = catP (l.take k) ++ encP p := by
  rw [List.take_add_one, h, Option.toList_some, catP_snoc]
theorem encP_length (p : Pr) : (encP p).length = (encT p.name).length + ((encI p.args.length).length + p.args.length) := by simp [encP]

/-- What has a predicate's bytes. -/
def Small (p : Pr) : Prop := p.name.length ≤ 32 ∧ p.args.length ≤ 8 ∧ (∀ x ∈ p.name, 0 ≤ x ∧ x < 256) ∧ ∀ x ∈ p.args, 0 ≤ x ∧ x < 256
theorem Okay.small {l : List Pr} {i : Nat} {p : Pr} (h : Okay l i p) : Small p := by
  obtain ⟨h1, _, h3, h4⟩ := h
  unfold okName at h1
  simp only [Bool.and_eq_true, decide_eq_true_eq, List.all_eq_true] at h1
  obtain ⟨⟨⟨_, h2⟩, _⟩, h5⟩ := h1
  refine ⟨h2, h3, fun x hx => ?_, fun x hx => by have := h4 x hx; omega⟩
  have := h5 x hx
  simp only [nameB, inB, Bool.or_eq_true, Bool.and_eq_true, decide_eq_true_eq] at this
  omega
theorem check_small {l : List Pr} (h : checkP l = 0) : l.length ≤ 64 ∧ ∀ p ∈ l, Small p := by
  obtain ⟨h1, h2⟩ := checkP_zero.1 h
  refine ⟨h1, fun p hp => ?_⟩
  obtain ⟨i, hi⟩ := List.mem_iff_getElem?.1 hp
  exact (h2 i p hi).small
theorem encI_one {n : Nat} (h : n < 128) : (encI n).length = 1 := by rw [encI_small h]; rfl
theorem Small.length {p : Pr} (h : Small p) : (encP p).length ≤ 42 := by
  obtain ⟨h1, h2, _, _⟩ := h
  rw [encP_length, encT_length, encI_one (by omega), encI_one (by omega)]
  omega
theorem catP_le : ∀ l : List Pr, (∀ p ∈ l, Small p) → (catP l).length ≤ 42 * l.length
  | [], _ => by simp [catP]
  | p :: l, h => by
    have h1 := (h p (by simp)).length
    have h2 := catP_le l (fun q hq => h q (by simp [hq]))
    simp only [catP, List.length_append, List.length_cons]
    omega
theorem encS_le {l : List Pr} (h : checkP l = 0) : 1 ≤ (encS l).length ∧ (encS l).length ≤ 2689 := by
  obtain ⟨h1, h2⟩ := check_small h
  have := catP_le l h2
  rw [encS, List.length_append, encI_one (by omega)]
  omega
theorem Small.bytes {p : Pr} (h : Small p) : ∀ x ∈ encP p, 0 ≤ x ∧ x < 256 := by
  obtain ⟨h1, h2, h3, h4⟩ := h
  intro x hx
  rw [encP] at hx
  rcases List.mem_append.1 hx with hx | hx
  · exact encT_bytes (by omega) h3 x hx
  · rcases List.mem_append.1 hx with hx | hx
    · exact encI_bytes (by omega) x hx
    · exact h4 x hx
theorem catP_bytes : ∀ l : List Pr, (∀ p ∈ l, Small p) → ∀ x ∈ catP l, 0 ≤ x ∧ x < 256
  | [], _, x, hx => by simp [catP] at hx
  | p :: l, h, x, hx => by
    rw [catP] at hx
    rcases List.mem_append.1 hx with hx | hx
    · exact (h p (by simp)).bytes x hx
    · exact catP_bytes l (fun q hq => h q (by simp [hq])) x hx
theorem encS_bytes {l : List Pr} (h : checkP l = 0) : ∀ x ∈ encS l, 0 ≤ x ∧ x < 256 := by
  obtain ⟨h1, h2⟩ := check_small h
  intro x hx
  rw [encS] at hx
  rcases List.mem_append.1 hx with hx | hx
  · exact encI_bytes (by omega) x hx
  · exact catP_bytes l h2 x hx

/-- The predicate that bytes begin with, how many bytes it has, the error. -/
def getP (ys : List Int) : Pr × Nat × Int :=
  if (getT 32 ys).2.2 ≠ 0 then (default, 0, (getT 32 ys).2.2)
  else if (getI (ys.drop (getT 32 ys).2.1)).2.2 ≠ 0 then (default, 0, (getI (ys.drop (getT 32 ys).2.1)).2.2)
  else if 8 < (getI (ys.drop (getT 32 ys).2.1)).1 then (default, 0, 6)
  else if ((ys.length : Nat) : Int) < ((getT 32 ys).2.1 : Int) + (getI (ys.drop (getT 32 ys).2.1)).2.1 + (getI (ys.drop (getT 32 ys).2.1)).1 then (default, 0, 2)
  else (⟨(getT 32 ys).1, (ys.drop ((getT 32 ys).2.1 + (getI (ys.drop (getT 32 ys).2.1)).2.1)).take (getI (ys.drop (getT 32 ys).2.1)).1.toNat⟩, (getT 32 ys).2.1 + (getI (ys.drop (getT 32 ys).2.1)).2.1 + (getI (ys.drop (getT 32 ys).2.1)).1.toNat, 0)
section
variable {ys nm : List Int} {s k m : Nat}
theorem getP_name (h : (getT 32 ys).2.2 ≠ 0) : getP ys = (default, 0, (getT 32 ys).2.2) := by unfold getP; rw [if_pos h]
theorem getP_num (h : getT 32 ys = (nm, s, 0)) (h2 : (getI (ys.drop s)).2.2 ≠ 0) : getP ys = (default, 0, (getI (ys.drop s)).2.2) := by
  unfold getP
  rw [h, if_neg (by simp), if_pos h2]
theorem getP_limit (h : getT 32 ys = (nm, s, 0)) (h2 : getI (ys.drop s) = ((k : Int), m, 0)) (h3 : 8 < k) : getP ys = (default, 0, 6) := by
  unfold getP
  rw [h, if_neg (by simp)]
  dsimp only
  rw [h2, if_neg (by simp), if_pos (by simp only; omega)]
theorem getP_short (h : getT 32 ys = (nm, s, 0)) (h2 : getI (ys.drop s) = ((k : Int), m, 0)) (h3 : k ≤ 8) (h4 : ys.length < s + m + k) : getP ys = (default, 0, 2) := by
  unfold getP
  rw [h, if_neg (by simp)]
  dsimp only
  rw [h2, if_neg (by simp), if_neg (by simp only; omega), if_pos (by simp only; omega)]
theorem getP_ok (h : getT 32 ys = (nm, s, 0)) (h2 : getI (ys.drop s) = ((k : Int), m, 0)) (h3 : k ≤ 8) (h4 : s + m + k ≤ ys.length) : getP ys = (⟨nm, (ys.drop (s + m)).take k⟩, s + m + k, 0) := by
  unfold getP
  rw [h, if_neg (by simp)]
  dsimp only
  rw [h2, if_neg (by simp), if_neg (by simp only; omega), if_neg (by simp only; omega)]
  simp
end
theorem getT_most {most : Int} (xs : List Int) (hb : ∀ x ∈ xs, 0 ≤ x ∧ x < 256) (h : (getT most xs).2.2 = 0) : ((getT most xs).1.length : Int) ≤ max most 0 := by
  by_cases he : (getI xs).2.2 = 0
  · obtain ⟨n, s, hg, h1, h2, h3, h4, h5⟩ := getI_ok xs hb he
    by_cases hl : max most 0 < (n : Int)
    · rw [getT_limit hg hl] at h; simp at h
    · by_cases hs : xs.length - s < n
      · rw [getT_short hg hl hs] at h; simp at h
      · rw [getT_ok hg hl hs]
        simp only [List.length_take, List.length_drop]
        omega
  · rw [getT_err rfl he] at h
    exact absurd h he
/-- How a predicate is read: the ways. -/
theorem getP_ways (ys : List Int) (hb : ∀ x ∈ ys, 0 ≤ x ∧ x < 256) :
    ((getT 32 ys).2.2 ≠ 0 ∧ getP ys = (default, 0, (getT 32 ys).2.2)) ∨
    ∃ (nm : List Int) (s : Nat), getT 32 ys = (nm, s, 0) ∧ 1 ≤ s ∧ s ≤ ys.length ∧ nm.length ≤ 32 ∧ encT nm = ys.take s ∧ (∀ x ∈ nm, 0 ≤ x ∧ x < 256) ∧
      (((getI (ys.drop s)).2.2 ≠ 0 ∧ getP ys = (default, 0, (getI (ys.drop s)).2.2)) ∨
       ∃ k m : Nat, getI (ys.drop s) = ((k : Int), m, 0) ∧ 1 ≤ m ∧ s + m ≤ ys.length ∧ k < 18446744073709551616 ∧ encI k = (ys.drop s).take m ∧
         ((8 < k ∧ getP ys = (default, 0, 6)) ∨ (k ≤ 8 ∧ ys.length < s + m + k ∧ getP ys = (default, 0, 2)) ∨
          (k ≤ 8 ∧ s + m + k ≤ ys.length ∧ getP ys = (⟨nm, (ys.drop (s + m)).take k⟩, s + m + k, 0)))) := by
  by_cases h1 : (getT 32 ys).2.2 = 0
  · right
    obtain ⟨b1, b2, b3, b4, b5⟩ := getT_back ys hb h1
    have b6 := getT_most ys hb h1
    obtain ⟨⟨nm, s, er⟩, ht⟩ : ∃ t, getT 32 ys = t := ⟨_, rfl⟩
    rw [ht] at h1 b1 b2 b3 b4 b5 b6
    simp only at h1 b1 b2 b3 b4 b5 b6
    subst h1
    refine ⟨nm, s, ht, b1, b2, by omega, b3, b5, ?_⟩
    by_cases h2 : (getI (ys.drop s)).2.2 = 0
    · right
      obtain ⟨k, m, hk, c1, c2, c3, c4, c5⟩ := getI_ok (ys.drop s) (drop_bytes hb s) h2
      rw [List.length_drop] at c2
      refine ⟨k, m, hk, c1, by omega, c5, c4, ?_⟩
      by_cases h3 : 8 < k
      · exact .inl ⟨h3, getP_limit ht hk h3⟩
      · by_cases h4 : ys.length < s + m + k
        · exact .inr (.inl ⟨by omega, h4, getP_short ht hk (by omega) h4⟩)
        · exact .inr (.inr ⟨by omega, by omega, getP_ok ht hk (by omega) (by omega)⟩)
    · exact .inl ⟨h2, getP_num ht h2⟩
  · exact .inl ⟨h1, getP_name h1⟩
theorem getP_enc {p : Pr} (h : Small p) (rest : List Int) : getP (encP p ++ rest) = (p, (encP p).length, 0) := by
  obtain ⟨h1, h2, _, _⟩ := h
  have ht : getT 32 (encP p ++ rest) = (p.name, (encT p.name).length, 0) := by
    rw [encP, List.append_assoc]
    exact getT_enc (by omega) (by omega) _
  have hi : getI ((encP p ++ rest).drop (encT p.name).length) = ((p.args.length : Int), (encI p.args.length).length, 0) := by
    rw [encP, List.append_assoc, List.drop_left, List.append_assoc]
    exact getI_enc (by omega) _
  rw [getP_ok ht hi h2 (by rw [List.length_append, encP_length]; omega)]
  have e : (encP p ++ rest).drop ((encT p.name).length + (encI p.args.length).length) = p.args ++ rest := by
    rw [encP, ← List.drop_drop, List.append_assoc, List.drop_left, List.append_assoc, List.drop_left]
  rw [e, List.take_left, encP_length, Nat.add_assoc]
theorem getP_cut {p : Pr} (h : Small p) {c : Nat} (hc : c < (encP p).length) : (getP ((encP p).take c)).2.2 = 2 := by
  obtain ⟨h1, h2, _, _⟩ := h
  by_cases q1 : c < (encT p.name).length
  · have e : (encP p).take c = (encT p.name).take c := by rw [encP, List.take_append_of_le_length (by omega)]
    have ht : getT 32 ((encP p).take c) = ([], 0, 2) := by rw [e]; exact getT_cut (by omega) (by omega) q1
    rw [getP_name (by rw [ht]; decide), ht]
  · have e : (encP p).take c = encT p.name ++ (encI p.args.length ++ p.args).take (c - (encT p.name).length) := by
      rw [encP, List.take_append, List.take_of_length_le (by omega)]
    have ht : getT 32 ((encP p).take c) = (p.name, (encT p.name).length, 0) := by rw [e]; exact getT_enc (by omega) (by omega) _
    have hd : ((encP p).take c).drop (encT p.name).length = (encI p.args.length ++ p.args).take (c - (encT p.name).length) := by rw [e, List.drop_left]
    by_cases q2 : c - (encT p.name).length < (encI p.args.length).length
    · have hi : getI (((encP p).take c).drop (encT p.name).length) = (0, 0, 2) := by
        rw [hd, List.take_append_of_le_length (by omega)]
        exact getI_cut (by omega) q2
      rw [getP_num ht (by rw [hi]; decide), hi]
    · have hi : getI (((encP p).take c).drop (encT p.name).length) = ((p.args.length : Int), (encI p.args.length).length, 0) := by
        rw [hd, List.take_append, List.take_of_length_le (by omega)]
        exact getI_enc (by omega) _
      rw [encP_length] at hc
      rw [getP_short ht hi h2 (by rw [List.length_take, encP_length]; omega)]
theorem getP_back (ys : List Int) (hb : ∀ x ∈ ys, 0 ≤ x ∧ x < 256) (h : (getP ys).2.2 = 0) : 1 ≤ (getP ys).2.1 ∧ (getP ys).2.1 ≤ ys.length ∧ encP (getP ys).1 = ys.take (getP ys).2.1 ∧ Small (getP ys).1 := by
  rcases getP_ways ys hb with ⟨h1, e⟩ | ⟨nm, s, ht, b1, b2, b3, b4, b5, ⟨h1, e⟩ | ⟨k, m, hi, c1, c2, c3, c4, ⟨h1, e⟩ | ⟨h1, h2, e⟩ | ⟨h1, h2, e⟩⟩⟩
  · rw [e] at h; exact absurd h h1
  · rw [e] at h; exact absurd h h1
  · rw [e] at h; cases h
  · rw [e] at h; cases h
  · rw [e]
    have hlen : ((ys.drop (s + m)).take k).length = k := by simp; omega
    refine ⟨by simp only; omega, h2, ?_, b3, by simp only [hlen]; exact h1, b5, fun x hx => hb x (List.mem_of_mem_drop (List.mem_of_mem_take hx))⟩
    simp only [encP, hlen, b4, c4]
    rw [Nat.add_assoc s m k, List.take_add, List.take_add, List.drop_drop]

/-- Predicates ahead of what is read behind them. -/
def glueP (pre : List Pr) (s : Nat) (r : List Pr × Nat × Int) : List Pr × Nat × Int := if r.2.2 = 0 then (pre ++ r.1, s + r.2.1, 0) else ([], 0, r.2.2)
theorem glueP_glueP (p q : List Pr) (s t : Nat) (r : List Pr × Nat × Int) : glueP p s (glueP q t r) = glueP (p ++ q) (s + t) r := by
  unfold glueP
  by_cases h : r.2.2 = 0
  · rw [if_pos h, if_pos rfl, if_pos h]
    simp [Nat.add_assoc]
  · rw [if_neg h, if_neg h, if_neg h]
theorem glueP_ok (p : List Pr) (s : Nat) : glueP p s ([], 0, 0) = (p, s, 0) := by simp [glueP]
theorem glueP_err (p : List Pr) (s : Nat) {e : Int} (l : List Pr) (t : Nat) (h : e ≠ 0) : glueP p s (l, t, e) = ([], 0, e) := by simp [glueP, h]
/-- So many predicates, one behind the other. -/
def getL : Nat → List Int → List Pr × Nat × Int
  | 0, _ => ([], 0, 0)
  | n + 1, ys => if (getP ys).2.2 = 0 then glueP [(getP ys).1] (getP ys).2.1 (getL n (ys.drop (getP ys).2.1)) else ([], 0, (getP ys).2.2)
theorem getL_step {n : Nat} {ys : List Int} {p : Pr} {s : Nat} (h : getP ys = (p, s, 0)) : getL (n + 1) ys = glueP [p] s (getL n (ys.drop s)) := by rw [getL, h]; rfl
theorem getL_stop {n : Nat} {ys : List Int} (h : (getP ys).2.2 ≠ 0) : getL (n + 1) ys = ([], 0, (getP ys).2.2) := by rw [getL, if_neg h]
theorem getL_cat (rest : List Int) : ∀ l : List Pr, (∀ p ∈ l, Small p) → getL l.length (catP l ++ rest) = (l, (catP l).length, 0)
  | [], _ => rfl
  | p :: l, h => by
    have hp := getP_enc (h p (by simp)) (catP l ++ rest)
    rw [List.length_cons, catP, List.append_assoc, getL_step hp, List.drop_left, getL_cat rest l (fun q hq => h q (by simp [hq]))]
    simp [glueP]
theorem getL_cut : ∀ (l : List Pr), (∀ p ∈ l, Small p) → ∀ c, c < (catP l).length → (getL l.length ((catP l).take c)).2.2 = 2
  | [], _, c, hc => by simp [catP] at hc
  | p :: l, h, c, hc => by
    have hsp := h p (by simp)
    rw [catP, List.length_append] at hc
    by_cases q : c < (encP p).length
    · have e : (catP (p :: l)).take c = (encP p).take c := by rw [catP, List.take_append_of_le_length (by omega)]
      have := getP_cut hsp q
      rw [List.length_cons, e, getL_stop (by rw [this]; decide), this]
    · have e : (catP (p :: l)).take c = encP p ++ (catP l).take (c - (encP p).length) := by rw [catP, List.take_append, List.take_of_length_le (by omega)]
      have hi := getL_cut l (fun q hq => h q (by simp [hq])) (c - (encP p).length) (by omega)
      rw [List.length_cons, e, getL_step (getP_enc hsp _), List.drop_left]
      unfold glueP
      rw [if_neg (by rw [hi]; decide), hi]
theorem getL_back : ∀ (n : Nat) (ys : List Int), (∀ x ∈ ys, 0 ≤ x ∧ x < 256) → (getL n ys).2.2 = 0 → (getL n ys).1.length = n ∧ (getL n ys).2.1 ≤ ys.length ∧ catP (getL n ys).1 = ys.take (getL n ys).2.1 ∧ ∀ p ∈ (getL n ys).1, Small p
  | 0, ys, _, _ => by simp [getL, catP]
  | n + 1, ys, hb, h => by
    by_cases h1 : (getP ys).2.2 = 0
    · obtain ⟨b1, b2, b3, b4⟩ := getP_back ys hb h1
      have e : getL (n + 1) ys = glueP [(getP ys).1] (getP ys).2.1 (getL n (ys.drop (getP ys).2.1)) := by rw [getL, if_pos h1]
      rw [e] at h ⊢
      by_cases h2 : (getL n (ys.drop (getP ys).2.1)).2.2 = 0
      · obtain ⟨c1, c2, c3, c4⟩ := getL_back n (ys.drop (getP ys).2.1) (drop_bytes hb _) h2
        unfold glueP
        rw [if_pos h2]
        rw [List.length_drop] at c2
        refine ⟨by simp [c1], by simp only; omega, ?_, fun p hp => ?_⟩
        · simp only [List.singleton_append, catP, b3, c3]
          rw [List.take_add]
        · simp only [List.singleton_append, List.mem_cons] at hp
          rcases hp with rfl | hp
          · exact b4
          · exact c4 p hp
      · exfalso
        unfold glueP at h
        rw [if_neg h2] at h
        exact h2 h
    · rw [getL_stop h1] at h
      exact absurd h h1

/-- What Get answers of a payload. -/
def getSig (xs : List Int) : List Pr × Int :=
  if (getI xs).2.2 ≠ 0 then ([], (getI xs).2.2)
  else if 64 < (getI xs).1 then ([], 6)
  else if (getL (getI xs).1.toNat (xs.drop (getI xs).2.1)).2.2 ≠ 0 then ([], (getL (getI xs).1.toNat (xs.drop (getI xs).2.1)).2.2)
  else if (getI xs).2.1 + (getL (getI xs).1.toNat (xs.drop (getI xs).2.1)).2.1 < xs.length then ([], 4)
  else if checkP (getL (getI xs).1.toNat (xs.drop (getI xs).2.1)).1 ≠ 0 then ([], checkP (getL (getI xs).1.toNat (xs.drop (getI xs).2.1)).1)
  else ((getL (getI xs).1.toNat (xs.drop (getI xs).2.1)).1, 0)
section
variable {xs : List Int} {n s t : Nat} {l : List Pr}
theorem getSig_num (h : (getI xs).2.2 ≠ 0) : getSig xs = ([], (getI xs).2.2) := by unfold getSig; rw [if_pos h]
theorem getSig_limit (h : getI xs = ((n : Int), s, 0)) (h2 : 64 < n) : getSig xs = ([], 6) := by
  unfold getSig
  rw [h, if_neg (by simp), if_pos (by simp only; omega)]
theorem getSig_pred (h : getI xs = ((n : Int), s, 0)) (h2 : n ≤ 64) (h3 : (getL n (xs.drop s)).2.2 ≠ 0) : getSig xs = ([], (getL n (xs.drop s)).2.2) := by
  unfold getSig
  rw [h, if_neg (by simp), if_neg (by simp only; omega)]
  simp only [Int.toNat_natCast]
  rw [if_pos h3]
theorem getSig_form (h : getI xs = ((n : Int), s, 0)) (h2 : n ≤ 64) (h3 : getL n (xs.drop s) = (l, t, 0)) (h4 : s + t < xs.length) : getSig xs = ([], 4) := by
  unfold getSig
  rw [h, if_neg (by simp), if_neg (by simp only; omega)]
  simp only [Int.toNat_natCast, h3]
  rw [if_neg (by simp), if_pos h4]
theorem getSig_check (h : getI xs = ((n : Int), s, 0)) (h2 : n ≤ 64) (h3 : getL n (xs.drop s) = (l, t, 0)) (h4 : ¬ s + t < xs.length) (h5 : checkP l ≠ 0) : getSig xs = ([], checkP l) := by
  unfold getSig
  rw [h, if_neg (by simp), if_neg (by simp only; omega)]
  simp only [Int.toNat_natCast, h3]
  rw [if_neg (by simp), if_neg h4, if_pos h5]
theorem getSig_ok (h : getI xs = ((n : Int), s, 0)) (h2 : n ≤ 64) (h3 : getL n (xs.drop s) = (l, t, 0)) (h4 : ¬ s + t < xs.length) (h5 : checkP l = 0) : getSig xs = (l, 0) := by
  unfold getSig
  rw [h, if_neg (by simp), if_neg (by simp only; omega)]
  simp only [Int.toNat_natCast, h3]
  rw [if_neg (by simp), if_neg h4, if_neg (by rw [h5]; simp)]
end
/-- There and back. -/
theorem getSig_enc {l : List Pr} (h : checkP l = 0) : getSig (encS l) = (l, 0) := by
  obtain ⟨h1, h2⟩ := check_small h
  have hi : getI (encS l) = ((l.length : Int), (encI l.length).length, 0) := getI_enc (by omega) _
  have hl : getL l.length ((encS l).drop (encI l.length).length) = (l, (catP l).length, 0) := by
    rw [encS, List.drop_left]
    have := getL_cat [] l h2
    rwa [List.append_nil] at this
  exact getSig_ok hi h1 hl (by rw [encS, List.length_append]; omega) h
/-- A byte more. -/
theorem getSig_more {l : List Pr} (h : checkP l = 0) (x : Int) : getSig (encS l ++ [x]) = ([], 4) := by
  obtain ⟨h1, h2⟩ := check_small h
  have hi : getI (encS l ++ [x]) = ((l.length : Int), (encI l.length).length, 0) := by rw [encS, List.append_assoc]; exact getI_enc (by omega) _
  have hl : getL l.length ((encS l ++ [x]).drop (encI l.length).length) = (l, (catP l).length, 0) := by
    rw [encS, List.append_assoc, List.drop_left]
    exact getL_cat [x] l h2
  exact getSig_form hi h1 hl (by simp [encS])
/-- Cut off anywhere. -/
theorem getSig_cut {l : List Pr} (h : checkP l = 0) {c : Nat} (hc : c < (encS l).length) : getSig ((encS l).take c) = ([], 2) := by
  obtain ⟨h1, h2⟩ := check_small h
  by_cases q : c < (encI l.length).length
  · have hi : getI ((encS l).take c) = (0, 0, 2) := by
      rw [encS, List.take_append_of_le_length (by omega)]
      exact getI_cut (by omega) q
    rw [getSig_num (by rw [hi]; decide), hi]
  · have e : (encS l).take c = encI l.length ++ (catP l).take (c - (encI l.length).length) := by rw [encS, List.take_append, List.take_of_length_le (by omega)]
    have hi : getI ((encS l).take c) = ((l.length : Int), (encI l.length).length, 0) := by rw [e]; exact getI_enc (by omega) _
    have hl : (getL l.length (((encS l).take c).drop (encI l.length).length)).2.2 = 2 := by
      rw [e, List.drop_left]
      rw [encS, List.length_append] at hc
      exact getL_cut l h2 _ (by omega)
    rw [getSig_pred hi h1 (by rw [hl]; decide), hl]
/-- One way. -/
theorem getSig_back {xs : List Int} (hb : ∀ x ∈ xs, 0 ≤ x ∧ x < 256) (h : (getSig xs).2 = 0) : checkP (getSig xs).1 = 0 ∧ encS (getSig xs).1 = xs := by
  by_cases h1 : (getI xs).2.2 = 0
  · obtain ⟨n, s, hi, b1, b2, b3, b4, b5⟩ := getI_ok xs hb h1
    by_cases h2 : 64 < n
    · rw [getSig_limit hi h2] at h; cases h
    · by_cases h3 : (getL n (xs.drop s)).2.2 = 0
      · obtain ⟨c1, c2, c3, c4⟩ := getL_back n (xs.drop s) (drop_bytes hb s) h3
        obtain ⟨⟨l, t, er⟩, hl⟩ : ∃ r, getL n (xs.drop s) = r := ⟨_, rfl⟩
        rw [hl] at h3 c1 c2 c3 c4
        simp only at h3 c1 c2 c3 c4
        subst h3
        rw [List.length_drop] at c2
        by_cases h4 : s + t < xs.length
        · rw [getSig_form hi (by omega) hl h4] at h; cases h
        · by_cases h5 : checkP l = 0
          · rw [getSig_ok hi (by omega) hl h4 h5]
            refine ⟨h5, ?_⟩
            simp only [encS, c1, b4, c3]
            rw [← List.take_add, List.take_of_length_le (by omega)]
          · rw [getSig_check hi (by omega) hl h4 h5] at h
            exact absurd h h5
      · rw [getSig_pred hi (by omega) h3] at h
        exact absurd h h3
  · rw [getSig_num h1] at h
    exact absurd h h1
theorem getSig_none {xs : List Int} (h : (getSig xs).2 ≠ 0) : (getSig xs).1 = [] := by
  unfold getSig at h ⊢
  split
  · rfl
  · split
    · rfl
    · split
      · rfl
      · split
        · rfl
        · split
          · rfl
          · rename_i a b c d e
            rw [if_neg a, if_neg b, if_neg c, if_neg d, if_neg e] at h
            exact absurd rfl h
#print axioms getSig_back
#print axioms getSig_cut
end Go.Proofs.Ytlmpicfhbpnpbaa

namespace Go.Proofs.Ytlmpicfhbpnpbaa

/-- Bytes, taken one at a time from place p on, with error e: the bytes, the place, the error. -/
def stB (xs : List Int) (p : Nat) (e : Int) : Nat → List Int × Nat × Int
  | 0 => ([], p, e)
  | j + 1 => ((stB xs p e j).1 ++ [(tk 0 (stB xs p e j).2.1 (stB xs p e j).2.2 (getB (xs.drop (stB xs p e j).2.1))).1], (tk 0 (stB xs p e j).2.1 (stB xs p e j).2.2 (getB (xs.drop (stB xs p e j).2.1))).2)
/-- As many as the next number says. -/
def argsC (xs : List Int) (p : Nat) (e : Int) : List Int × Nat × Int :=
  stB xs (tk 0 p e (getN 8 (xs.drop p))).2.1 (tk 0 p e (getN 8 (xs.drop p))).2.2 (tk 0 p e (getN 8 (xs.drop p))).1.toNat
def predC (xs : List Int) (p : Nat) (e : Int) : Pr × Nat × Int :=
  (⟨(tk [] p e (getT 32 (xs.drop p))).1, (argsC xs (tk [] p e (getT 32 (xs.drop p))).2.1 (tk [] p e (getT 32 (xs.drop p))).2.2).1⟩, (argsC xs (tk [] p e (getT 32 (xs.drop p))).2.1 (tk [] p e (getT 32 (xs.drop p))).2.2).2)
def stP (xs : List Int) (p : Nat) (e : Int) : Nat → List Pr × Nat × Int
  | 0 => ([], p, e)
  | j + 1 => ((stP xs p e j).1 ++ [(predC xs (stP xs p e j).2.1 (stP xs p e j).2.2).1], (predC xs (stP xs p e j).2.1 (stP xs p e j).2.2).2)
def predsC (xs : List Int) : List Pr × Nat × Int := stP xs (tk 0 0 0 (getN 64 xs)).2.1 (tk 0 0 0 (getN 64 xs)).2.2 (tk 0 0 0 (getN 64 xs)).1.toNat
/-- The error at the end: a stop's, or bytes that are left, or what is wrong with what was read. -/
def endC (n p : Nat) (e c : Int) : Int := if e ≠ 0 then e else if p < n then 4 else c
def getC (xs : List Int) : List Pr × Int :=
  if endC xs.length (predsC xs).2.1 (predsC xs).2.2 (checkP (predsC xs).1) = 0 then ((predsC xs).1, 0) else ([], endC xs.length (predsC xs).2.1 (predsC xs).2.2 (checkP (predsC xs).1))

section
variable {xs : List Int} {p : Nat} {e : Int}
theorem stB_stopped (h : e ≠ 0) : ∀ j, (stB xs p e j).2 = (p, e)
  | 0 => rfl
  | j + 1 => by
    have ih := stB_stopped h j
    rw [stB, ih]
    dsimp only
    rw [tk_stopped h]
theorem getB_at {ys : List Int} (h : 0 < ys.length) : getB ys = (ys.getD 0 0, 1, 0) := by
  cases ys with
  | nil => simp at h
  | cons y r => rfl
theorem stB_ok : ∀ j, p + j ≤ xs.length → stB xs p 0 j = ((xs.drop p).take j, p + j, 0)
  | 0, _ => by simp [stB]
  | j + 1, h => by
    have ih := stB_ok j (by omega)
    have hb : getB (xs.drop (p + j)) = ((xs.drop (p + j)).getD 0 0, 1, 0) := getB_at (by rw [List.length_drop]; omega)
    rw [stB, ih]
    dsimp only
    rw [hb, tk_ok rfl]
    have hg : (xs.drop p)[j]? = some ((xs.drop (p + j)).getD 0 0) := by
      rw [List.getElem?_drop, List.getD, List.getElem?_drop, Nat.add_zero, List.getElem?_eq_getElem (show p + j < xs.length by omega)]
      rfl
    rw [List.take_add_one, hg]
    rfl
theorem stB_short (hp : p ≤ xs.length) : ∀ j, xs.length < p + j → (stB xs p 0 j).2 = (xs.length, 2)
  | 0, h => by omega
  | j + 1, h => by
    by_cases hj : xs.length < p + j
    · have ih := stB_short hp j hj
      rw [stB, ih]
      dsimp only
      rw [tk_stopped (by decide)]
    · rw [stB, stB_ok j (by omega)]
      dsimp only
      rw [List.drop_of_length_le (by omega)]
      show (tk 0 (p + j) 0 (0, 0, 2)).2 = _
      rw [tk_err (by decide)]
      simp only [Prod.mk.injEq, and_true]
      omega
theorem stB_length : ∀ j, (stB xs p e j).1.length = j
  | 0 => rfl
  | j + 1 => by rw [stB, List.length_append, stB_length j]; rfl
theorem stB_le (hp : p ≤ xs.length) : ∀ j, p ≤ (stB xs p e j).2.1 ∧ (stB xs p e j).2.1 ≤ xs.length
  | 0 => ⟨Nat.le_refl _, hp⟩
  | j + 1 => by
    obtain ⟨h1, h2⟩ := stB_le hp j
    have := tk_never (z := (0 : Int)) (e := (stB xs p e j).2.2) (r := getB (xs.drop (stB xs p e j).2.1)) h2 (fun h => by have := (getB_fits (xs.drop (stB xs p e j).2.1)).1 h; rw [List.length_drop] at this; exact this)
    exact ⟨Nat.le_trans h1 this.1, this.2.1⟩
theorem tkB_byte (hb : ∀ x ∈ xs, 0 ≤ x ∧ x < 256) (q : Nat) (e : Int) : 0 ≤ (tk 0 q e (getB (xs.drop q))).1 ∧ (tk 0 q e (getB (xs.drop q))).1 < 256 := by
  unfold tk
  split
  · simp
  · split
    · simp
    · cases hd : xs.drop q with
      | nil => simp [getB]
      | cons y r => exact hb y (List.mem_of_mem_drop (by rw [hd]; simp))
theorem stB_bytes (hb : ∀ x ∈ xs, 0 ≤ x ∧ x < 256) : ∀ j, ∀ x ∈ (stB xs p e j).1, 0 ≤ x ∧ x < 256
  | 0, x, hx => by simp [stB] at hx
  | j + 1, x, hx => by
    rw [stB] at hx
    rcases List.mem_append.1 hx with hx | hx
    · exact stB_bytes hb j x hx
    · rw [List.mem_singleton] at hx
      rw [hx]
      exact tkB_byte hb _ _
theorem tkN_range (hb : ∀ x ∈ xs, 0 ≤ x ∧ x < 256) (most : Nat) (hp : p ≤ xs.length) :
    (∃ n : Nat, (tk 0 p e (getN most (xs.drop p))).1 = (n : Int) ∧ n ≤ most) ∧ p ≤ (tk 0 p e (getN most (xs.drop p))).2.1 ∧ (tk 0 p e (getN most (xs.drop p))).2.1 ≤ xs.length := by
  obtain ⟨h1, h2, _⟩ := tk_never (z := (0 : Int)) (e := e) (r := getN most (xs.drop p)) hp (fun h => by have := (getN_fits most (xs.drop p) (drop_bytes hb p)).1 h; rw [List.length_drop] at this; exact this)
  refine ⟨?_, h1, h2⟩
  unfold tk
  split
  · exact ⟨0, rfl, Nat.zero_le _⟩
  · split
    · exact ⟨0, rfl, Nat.zero_le _⟩
    · rename_i _ h
      have h0 : (getN most (xs.drop p)).2.2 = 0 := by simpa using h
      have hr := getI_range (xs.drop p) (drop_bytes hb p)
      unfold getN at h0 ⊢
      split
      · rename_i q
        rw [if_pos q] at h0
        cases h0
      · rename_i q
        rw [if_neg q] at h0
        have : ¬ (most : Int) < (getI (xs.drop p)).1 := fun h => q ⟨h0, h⟩
        exact ⟨(getI (xs.drop p)).1.toNat, by simp only; omega, by omega⟩
theorem tkT_le (hb : ∀ x ∈ xs, 0 ≤ x ∧ x < 256) (most : Int) (hp : p ≤ xs.length) : p ≤ (tk [] p e (getT most (xs.drop p))).2.1 ∧ (tk [] p e (getT most (xs.drop p))).2.1 ≤ xs.length := by
  obtain ⟨h1, h2, _⟩ := tk_never (z := ([] : List Int)) (e := e) (r := getT most (xs.drop p)) hp (fun h => by have := (getT_fits most (xs.drop p) (drop_bytes hb p)).1 h; rw [List.length_drop] at this; exact this)
  exact ⟨h1, h2⟩
theorem tkT_bytes (hb : ∀ x ∈ xs, 0 ≤ x ∧ x < 256) (most : Int) : (tk [] p e (getT most (xs.drop p))).1.length ≤ xs.length ∧ ∀ x ∈ (tk [] p e (getT most (xs.drop p))).1, 0 ≤ x ∧ x < 256 := by
  have hs := getT_size (most := most) (xs.drop p) (drop_bytes hb p)
  rw [List.length_drop] at hs
  unfold tk
  split
  · simp
  · split
    · simp
    · exact ⟨Nat.le_trans hs.2.1 (Nat.sub_le _ _), hs.2.2⟩
theorem argsC_le (hb : ∀ x ∈ xs, 0 ≤ x ∧ x < 256) (hp : p ≤ xs.length) : p ≤ (argsC xs p e).2.1 ∧ (argsC xs p e).2.1 ≤ xs.length ∧ (argsC xs p e).1.length ≤ 8 ∧ ∀ x ∈ (argsC xs p e).1, 0 ≤ x ∧ x < 256 := by
  obtain ⟨⟨n, e1, e2⟩, h1, h2⟩ := tkN_range (e := e) hb 8 hp
  have e1' : (tk 0 p e (getN 8 (xs.drop p))).1 = (n : Int) := e1
  have h1' : p ≤ (tk 0 p e (getN 8 (xs.drop p))).2.1 := h1
  have h2' : (tk 0 p e (getN 8 (xs.drop p))).2.1 ≤ xs.length := h2
  unfold argsC
  have h3 := stB_le (e := (tk 0 p e (getN 8 (xs.drop p))).2.2) h2' (tk 0 p e (getN 8 (xs.drop p))).1.toNat
  exact ⟨Nat.le_trans h1' h3.1, h3.2, by rw [stB_length, e1']; simpa using e2, stB_bytes hb _⟩
theorem predC_le (hb : ∀ x ∈ xs, 0 ≤ x ∧ x < 256) (hp : p ≤ xs.length) : (predC xs p e).2.1 ≤ xs.length ∧ (predC xs p e).1.name.length ≤ xs.length ∧ (predC xs p e).1.args.length ≤ 8 ∧ (∀ x ∈ (predC xs p e).1.name, 0 ≤ x ∧ x < 256) ∧ ∀ x ∈ (predC xs p e).1.args, 0 ≤ x ∧ x < 256 := by
  have h1 := tkT_le (e := e) hb 32 hp
  have h2 := tkT_bytes (p := p) (e := e) hb 32
  have h3 := argsC_le (e := (tk [] p e (getT 32 (xs.drop p))).2.2) hb h1.2
  exact ⟨h3.2.1, h2.1, h3.2.2.1, h2.2, h3.2.2.2⟩
theorem stP_le (hb : ∀ x ∈ xs, 0 ≤ x ∧ x < 256) (hp : p ≤ xs.length) : ∀ j, (stP xs p e j).2.1 ≤ xs.length ∧ (stP xs p e j).1.length = j
  | 0 => ⟨hp, rfl⟩
  | j + 1 => by
    obtain ⟨h1, h2⟩ := stP_le hb hp j
    exact ⟨(predC_le hb h1).1, by rw [stP, List.length_append, h2]; rfl⟩

theorem predsC_le (hb : ∀ x ∈ xs, 0 ≤ x ∧ x < 256) : (predsC xs).2.1 ≤ xs.length := by
  obtain ⟨_, _, hq⟩ := tkN_range (e := 0) hb 64 (Nat.zero_le xs.length)
  have hq : (tk 0 0 0 (getN 64 (xs.drop 0))).2.1 ≤ xs.length := hq
  rw [List.drop_zero] at hq
  exact (stP_le hb hq _).1

/-! Behind a stop nothing is taken, and its error stays. -/
theorem argsC_stopped (h : e ≠ 0) : (argsC xs p e).2 = (p, e) := by
  unfold argsC
  rw [tk_stopped h]
  exact stB_stopped h _
theorem predC_stopped (h : e ≠ 0) : (predC xs p e).2 = (p, e) := by
  unfold predC
  rw [tk_stopped h]
  exact argsC_stopped h
/-- One predicate is the document's, or the error is. -/
theorem predC_eq (hb : ∀ x ∈ xs, 0 ≤ x ∧ x < 256) (hp : p ≤ xs.length) :
    ((getP (xs.drop p)).2.2 = 0 → predC xs p 0 = ((getP (xs.drop p)).1, p + (getP (xs.drop p)).2.1, 0)) ∧ ((getP (xs.drop p)).2.2 ≠ 0 → (predC xs p 0).2.2 = (getP (xs.drop p)).2.2) := by
  have hd := drop_bytes hb p
  have hl : (xs.drop p).length = xs.length - p := List.length_drop
  rcases getP_ways (xs.drop p) hd with ⟨h1, e⟩ | ⟨nm, s, ht, b1, b2, b3, b4, b5, ⟨h1, e⟩ | ⟨k, m, hi, c1, c2, c3, c4, h⟩⟩
  · refine ⟨fun h => absurd (by rw [e] at h; exact h) h1, fun _ => ?_⟩
    rw [e]
    unfold predC
    rw [tk_err h1, argsC_stopped h1]
  · have hn : tk 0 (p + s) 0 (getN 8 (xs.drop (p + s))) = (0, p + s, (getI ((xs.drop p).drop s)).2.2) := by
      rw [List.drop_drop] at h1 ⊢
      have e2 : getN 8 (xs.drop (p + s)) = getI (xs.drop (p + s)) := by unfold getN; rw [if_neg (fun h => h1 h.1)]
      rw [e2, tk_err h1]
    refine ⟨fun h => absurd (by rw [e] at h; exact h) h1, fun _ => ?_⟩
    rw [e]
    unfold predC
    rw [ht, tk_ok rfl]
    dsimp only
    unfold argsC
    rw [hn]
    rfl
  · have hi' : getI (xs.drop (p + s)) = ((k : Int), m, 0) := by rw [← List.drop_drop]; exact hi
    rcases h with ⟨h1, e⟩ | ⟨h1, h2, e⟩ | ⟨h1, h2, e⟩
    · have hn : tk 0 (p + s) 0 (getN 8 (xs.drop (p + s))) = (0, p + s, 6) := by
        have e2 : getN 8 (xs.drop (p + s)) = ((k : Int), m, 6) := by unfold getN; rw [hi', if_pos ⟨rfl, by simp only; omega⟩]
        rw [e2, tk_err (by simp)]
      refine ⟨fun h => (by rw [e] at h; cases h), fun _ => ?_⟩
      rw [e]
      unfold predC
      rw [ht, tk_ok rfl]
      dsimp only
      unfold argsC
      rw [hn]
      rfl
    · have hn : tk 0 (p + s) 0 (getN 8 (xs.drop (p + s))) = ((k : Int), p + s + m, 0) := by
        have e2 : getN 8 (xs.drop (p + s)) = ((k : Int), m, 0) := by unfold getN; rw [hi', if_neg (fun h => by have := h.2; simp only at this; omega)]
        rw [e2, tk_ok rfl]
      refine ⟨fun h => (by rw [e] at h; cases h), fun _ => ?_⟩
      rw [e]
      unfold predC
      rw [ht, tk_ok rfl]
      dsimp only
      unfold argsC
      rw [hn]
      simp only [Int.toNat_natCast]
      rw [stB_short (by omega) k (by omega)]
    · have hn : tk 0 (p + s) 0 (getN 8 (xs.drop (p + s))) = ((k : Int), p + s + m, 0) := by
        have e2 : getN 8 (xs.drop (p + s)) = ((k : Int), m, 0) := by unfold getN; rw [hi', if_neg (fun h => by have := h.2; simp only at this; omega)]
        rw [e2, tk_ok rfl]
      refine ⟨fun _ => ?_, fun h => by rw [e] at h; exact absurd rfl h⟩
      rw [e]
      unfold predC
      rw [ht, tk_ok rfl]
      dsimp only
      unfold argsC
      rw [hn]
      simp only [Int.toNat_natCast]
      rw [stB_ok k (by omega), List.drop_drop]
      simp only [Nat.add_assoc]
theorem stP_stopped (h : e ≠ 0) : ∀ j, (stP xs p e j).2 = (p, e)
  | 0 => rfl
  | j + 1 => by
    have ih := stP_stopped h j
    rw [stP, ih]
    exact predC_stopped h
theorem stP_front (xs : List Int) (p : Nat) (e : Int) : ∀ j, stP xs p e (j + 1) = ((predC xs p e).1 :: (stP xs (predC xs p e).2.1 (predC xs p e).2.2 j).1, (stP xs (predC xs p e).2.1 (predC xs p e).2.2 j).2)
  | 0 => rfl
  | j + 1 => by
    rw [stP, stP_front xs p e j]
    rfl
/-- So many predicates are the document's, or the error is. -/
theorem stP_eq (hb : ∀ x ∈ xs, 0 ≤ x ∧ x < 256) : ∀ (n p : Nat), p ≤ xs.length → ((getL n (xs.drop p)).2.2 = 0 → stP xs p 0 n = ((getL n (xs.drop p)).1, p + (getL n (xs.drop p)).2.1, 0)) ∧ ((getL n (xs.drop p)).2.2 ≠ 0 → (stP xs p 0 n).2.2 = (getL n (xs.drop p)).2.2)
  | 0, p, _ => ⟨fun _ => rfl, fun h => absurd rfl h⟩
  | n + 1, p, hp => by
    obtain ⟨q1, q2⟩ := predC_eq hb hp
    by_cases h1 : (getP (xs.drop p)).2.2 = 0
    · have hs := (getP_back (xs.drop p) (drop_bytes hb p) h1).2.1
      rw [List.length_drop] at hs
      obtain ⟨⟨a, s, er⟩, ha⟩ : ∃ t, getP (xs.drop p) = t := ⟨_, rfl⟩
      rw [ha] at h1 hs
      simp only at h1 hs
      subst h1
      have q1' := q1 (by rw [ha])
      rw [ha] at q1'
      obtain ⟨i1, i2⟩ := stP_eq hb n (p + s) (by omega)
      have el : getL (n + 1) (xs.drop p) = glueP [a] s (getL n (xs.drop (p + s))) := by rw [getL_step ha, List.drop_drop]
      rw [el, stP_front, q1']
      dsimp only
      by_cases h2 : (getL n (xs.drop (p + s))).2.2 = 0
      · rw [i1 h2]
        unfold glueP
        rw [if_pos h2]
        exact ⟨fun _ => by simp [Nat.add_assoc], fun h => absurd rfl h⟩
      · unfold glueP
        rw [if_neg h2]
        exact ⟨fun h => absurd h h2, fun _ => i2 h2⟩
    · have q2' := q2 h1
      rw [getL_stop h1]
      refine ⟨fun h => absurd h h1, fun _ => ?_⟩
      rw [stP_front]
      dsimp only
      rw [stP_stopped (by rw [q2']; exact h1)]
      exact q2'
end
/-- The program's way comes to what the document says. -/
theorem getC_eq {xs : List Int} (hb : ∀ x ∈ xs, 0 ≤ x ∧ x < 256) : getC xs = getSig xs := by
  have key : ∀ (l : List Pr) (t : Nat × Int) (c : Int), predsC xs = (l, t) → endC xs.length t.1 t.2 (checkP l) = c → getC xs = (if c = 0 then (l, 0) else ([], c)) := by
    intro l t c h1 h2
    unfold getC
    rw [h1]
    dsimp only
    rw [h2]
  by_cases h1 : (getI xs).2.2 = 0
  · obtain ⟨n, s, hi, b1, b2, b3, b4, b5⟩ := getI_ok xs hb h1
    by_cases h2 : 64 < n
    · have e2 : getN 64 xs = ((n : Int), s, 6) := by unfold getN; rw [hi, if_pos ⟨rfl, by simp only; omega⟩]
      have hp : predsC xs = ([], 0, 6) := by unfold predsC; rw [e2, tk_err (by simp)]; rfl
      rw [key _ _ 6 hp (by unfold endC; rw [if_pos (by decide)]), getSig_limit hi h2]
      rfl
    · have e2 : getN 64 xs = ((n : Int), s, 0) := by unfold getN; rw [hi, if_neg (fun h => by have := h.2; simp only at this; omega)]
      have hp : predsC xs = stP xs s 0 n := by
        unfold predsC
        rw [e2, tk_ok rfl]
        simp
      obtain ⟨i1, i2⟩ := stP_eq hb n s b2
      by_cases h3 : (getL n (xs.drop s)).2.2 = 0
      · obtain ⟨⟨l, t, er⟩, hl⟩ : ∃ r, getL n (xs.drop s) = r := ⟨_, rfl⟩
        rw [hl] at h3 i1
        simp only at h3
        subst h3
        have i3 := i1 rfl
        rw [← hp] at i3
        by_cases h4 : s + t < xs.length
        · rw [key _ _ 4 i3 (by unfold endC; rw [if_neg (by simp), if_pos h4]), getSig_form hi (by omega) hl h4]
          rfl
        · have hk := key _ _ (checkP l) i3 (by unfold endC; rw [if_neg (by simp), if_neg h4])
          by_cases h5 : checkP l = 0
          · rw [hk, if_pos h5, getSig_ok hi (by omega) hl h4 h5]
          · rw [hk, if_neg h5, getSig_check hi (by omega) hl h4 h5]
      · have i3 := i2 h3
        rw [← hp] at i3
        have hk := key (predsC xs).1 (predsC xs).2 (getL n (xs.drop s)).2.2 rfl (by unfold endC; rw [i3, if_pos h3])
        rw [hk, if_neg h3, getSig_pred hi (by omega) h3]
  · have e2 : getN 64 xs = getI xs := by unfold getN; rw [if_neg (fun h => h1 h.1)]
    have hp : predsC xs = ([], 0, (getI xs).2.2) := by unfold predsC; rw [e2, tk_err h1]; rfl
    have hk := key _ _ (getI xs).2.2 hp (by unfold endC; rw [if_pos h1])
    rw [hk, if_neg h1, getSig_num h1]
#print axioms getC_eq
end Go.Proofs.Ytlmpicfhbpnpbaa

namespace Go.Proofs.Ytlmpicfhbpnpbaa

theorem getL_none : ∀ (n : Nat) (ys : List Int), (getL n ys).2.2 ≠ 0 → getL n ys = ([], 0, (getL n ys).2.2)
  | 0, _, h => absurd rfl h
  | n + 1, ys, h => by
    by_cases h1 : (getP ys).2.2 = 0
    · rw [getL, if_pos h1] at h ⊢
      unfold glueP at h ⊢
      by_cases h2 : (getL n (ys.drop (getP ys).2.1)).2.2 = 0
      · rw [if_pos h2] at h
        exact absurd rfl h
      · rw [if_neg h2]
    · rw [getL_stop h1]
theorem glueP_nil (n : Nat) (ys : List Int) : glueP [] 0 (getL n ys) = getL n ys := by
  by_cases h : (getL n ys).2.2 = 0
  · generalize getL n ys = r at h ⊢
    obtain ⟨a, b, c⟩ := r
    simp only at h
    subst h
    simp [glueP]
  · rw [getL_none n ys h]
    exact glueP_err _ _ _ _ h
/-- The predicates es are read up to place p; they are the first i of n that begin at s. -/
def RdG (xs : List Int) (n s i p : Nat) (es : List Pr) : Prop := s ≤ p ∧ p ≤ xs.length ∧ i ≤ n ∧ es.length = i ∧ getL n (xs.drop s) = glueP es (p - s) (getL (n - i) (xs.drop p))
section
variable {xs : List Int} {n s i p m : Nat} {es : List Pr} {q : Pr} {e : Int}
theorem RdG.start (hs : s ≤ xs.length) : RdG xs n s 0 s [] := ⟨Nat.le_refl _, hs, Nat.zero_le _, rfl, by rw [Nat.sub_self, Nat.sub_zero, glueP_nil]⟩
theorem RdG.err (h : RdG xs n s i p es) (hi : i < n) (he : (getP (xs.drop p)).2.2 = e) (h0 : e ≠ 0) : (getL n (xs.drop s)).2.2 = e := by
  obtain ⟨_, _, _, _, h5⟩ := h
  obtain ⟨m, hm⟩ : ∃ m, n - i = m + 1 := ⟨n - i - 1, by omega⟩
  rw [h5, hm, getL_stop (by rw [he]; exact h0), he, glueP_err _ _ _ _ h0]
theorem RdG.next (h : RdG xs n s i p es) (hi : i < n) (hp : getP (xs.drop p) = (q, m, 0)) (hm : p + m ≤ xs.length) : RdG xs n s (i + 1) (p + m) (es ++ [q]) := by
  obtain ⟨h1, h2, h3, h4, h5⟩ := h
  obtain ⟨k, hk⟩ : ∃ k, n - i = k + 1 := ⟨n - i - 1, by omega⟩
  refine ⟨by omega, hm, hi, by simp [h4], ?_⟩
  rw [h5, hk, getL_step hp, glueP_glueP, List.drop_drop, show n - (i + 1) = k by omega, show p + m - s = p - s + m by omega]
theorem RdG.done (h : RdG xs n s n p es) : getL n (xs.drop s) = (es, p - s, 0) := by
  obtain ⟨_, _, _, _, h5⟩ := h
  rw [h5, Nat.sub_self]
  exact glueP_ok _ _
variable (hg : getI xs = ((n : Int), s, 0)) (hn : n ≤ 64)
include hg hn
theorem RdG.bad (h : RdG xs n s i p es) (hi : i < n) (he : (getP (xs.drop p)).2.2 = e) (h0 : e ≠ 0) : getSig xs = ([], e) := by
  have := h.err hi he h0
  rw [getSig_pred hg hn (by rw [this]; exact h0), this]
theorem RdG.form (h : RdG xs n s n p es) (hp : p < xs.length) : getSig xs = ([], 4) := by
  have h1 := h.1
  exact getSig_form hg hn h.done (by omega)
theorem RdG.check (h : RdG xs n s n p es) (hp : ¬ p < xs.length) (h5 : checkP es ≠ 0) : getSig xs = ([], checkP es) := by
  have h1 := h.1
  exact getSig_check hg hn h.done (by omega) h5
theorem RdG.ok (h : RdG xs n s n p es) (hp : ¬ p < xs.length) (h5 : checkP es = 0) : getSig xs = (es, 0) := by
  have h1 := h.1
  exact getSig_ok hg hn h.done (by omega) h5
end
#print axioms RdG.ok
end Go.Proofs.Ytlmpicfhbpnpbaa
