/-
  Signatures in plain numbers: names, which predicate has a name, why a signature may not be. No program here.
-/
import Derived.Test.YtnjhkjlekepjoaaPlains
namespace Go.Proofs.Ytnjhkjlekepjoaa

/-- The first of n places from a on at which q holds; -1. (As for frames' places; this part is to stand without these.) -/
def firstAt (q : Nat → Bool) : Nat → Nat → Int
  | 0, _ => -1
  | n + 1, a => if q a then (a : Int) else firstAt q n (a + 1)
theorem firstAt_cases (q : Nat → Bool) : ∀ (n a : Nat), (firstAt q n a = -1 ∧ ∀ j, a ≤ j → j < a + n → q j = false) ∨ ∃ r : Nat, firstAt q n a = (r : Int) ∧ a ≤ r ∧ r < a + n ∧ q r = true ∧ ∀ j, a ≤ j → j < r → q j = false
  | 0, a => Or.inl ⟨rfl, fun j h1 h2 => by omega⟩
  | n + 1, a => by
    by_cases h : q a = true
    · exact Or.inr ⟨a, by simp only [firstAt, if_pos h], Nat.le_refl _, by omega, h, fun j h1 h2 => by omega⟩
    · have hf : q a = false := by simpa using h
      rcases firstAt_cases q n (a + 1) with ⟨e, hn⟩ | ⟨r, e, h1, h2, h3, h4⟩
      · refine Or.inl ⟨by rw [firstAt, if_neg h, e], fun j h1 h2 => ?_⟩
        by_cases he : j = a
        · rw [he]; exact hf
        · exact hn j (by omega) (by omega)
      · refine Or.inr ⟨r, by rw [firstAt, if_neg h, e], by omega, by omega, h3, fun j h5 h6 => ?_⟩
        by_cases he : j = a
        · rw [he]; exact hf
        · exact h4 j (by omega) h6
theorem firstAt_found {q : Nat → Bool} (n a r : Nat) (h1 : a ≤ r) (h2 : r < a + n) (h3 : ∀ j, a ≤ j → j < r → q j = false) (h4 : q r = true) : firstAt q n a = (r : Int) := by
  rcases firstAt_cases q n a with ⟨_, hn⟩ | ⟨s, e, q1, q2, q3, q4⟩
  · rw [hn r h1 h2] at h4; cases h4
  · rcases Nat.lt_trichotomy r s with h | h | h
    · rw [q4 r h1 h] at h4; cases h4
    · rw [e, h]
    · rw [h3 s q1 h] at q3; cases q3
theorem firstAt_none {q : Nat → Bool} (n a : Nat) (h : ∀ j, a ≤ j → j < a + n → q j = false) : firstAt q n a = -1 := by
  rcases firstAt_cases q n a with ⟨e, _⟩ | ⟨s, e, q1, q2, q3, q4⟩
  · exact e
  · rw [h s q1 q2] at q3; cases q3

/-- A predicate: its name's bytes, its arguments' types. -/
structure Pr where
  name : List Int
  args : List Int
  deriving DecidableEq
instance : Inhabited Pr := ⟨⟨[], []⟩⟩

def inB (c low high : Int) : Bool := decide (low ≤ c) && decide (c ≤ high)
def nameB (c : Int) : Bool := inB c 65 90 || inB c 97 122 || inB c 48 57 || decide (c = 95)
def okName (s : List Int) : Bool := decide (0 < s.length) && decide (s.length ≤ 32) && !inB (s.getD 0 0) 48 57 && s.all nameB

/-- The first predicate of a name; -1. -/
def findP (l : List Pr) (nm : List Int) : Int := firstAt (fun i => decide ((l.getD i default).name = nm)) l.length 0
/-- What is wrong with the predicate at a place, in the chapter's order; 0. -/
def whyP (l : List Pr) (i : Nat) : Int :=
  if okName (l.getD i default).name = false ∨ findP l (l.getD i default).name < i then 9
  else if 8 < (l.getD i default).args.length then 6
  else if (l.getD i default).args.all (fun t => inB t 1 2) = false then 7 else 0
def firstWhy (f : Nat → Int) : Nat → Nat → Int
  | 0, _ => 0
  | n + 1, a => if f a = 0 then firstWhy f n (a + 1) else f a
def checkP (l : List Pr) : Int := if 64 < l.length then 6 else firstWhy (whyP l) l.length 0

theorem firstWhy_none {f : Nat → Int} : ∀ (n a : Nat), (∀ j, a ≤ j → j < a + n → f j = 0) → firstWhy f n a = 0
  | 0, _, _ => rfl
  | n + 1, a, h => by
    rw [firstWhy, if_pos (h a (Nat.le_refl _) (by omega))]
    exact firstWhy_none n (a + 1) fun j h1 h2 => h j (by omega) (by omega)
theorem firstWhy_found {f : Nat → Int} : ∀ (n a r : Nat), a ≤ r → r < a + n → (∀ j, a ≤ j → j < r → f j = 0) → f r ≠ 0 → firstWhy f n a = f r
  | 0, a, r, h1, h2, _, _ => by omega
  | n + 1, a, r, h1, h2, h3, h4 => by
    rw [firstWhy]
    by_cases h : a = r
    · subst h
      rw [if_neg h4]
    · rw [if_pos (h3 a (Nat.le_refl _) (by omega))]
      exact firstWhy_found n (a + 1) r (by omega) (by omega) (fun j q1 q2 => h3 j (by omega) q2) h4
theorem firstWhy_zero {f : Nat → Int} : ∀ (n a : Nat), firstWhy f n a = 0 → ∀ j, a ≤ j → j < a + n → f j = 0
  | 0, a, _, j, h1, h2 => by omega
  | n + 1, a, h, j, h1, h2 => by
    rw [firstWhy] at h
    split at h
    · rename_i h0
      by_cases e : j = a
      · rw [e]; exact h0
      · exact firstWhy_zero n (a + 1) h j (by omega) (by omega)
    · rename_i h0
      exact absurd h h0
theorem checkP_many {l : List Pr} (h : 64 < l.length) : checkP l = 6 := if_pos h
theorem checkP_found {l : List Pr} (h : l.length ≤ 64) {r : Nat} (hr : r < l.length) (h3 : ∀ j, j < r → whyP l j = 0) (h4 : whyP l r ≠ 0) : checkP l = whyP l r := by
  rw [checkP, if_neg (by omega)]
  exact firstWhy_found _ _ r (Nat.zero_le _) (by omega) (fun j _ h => h3 j h) h4
theorem checkP_none {l : List Pr} (h : l.length ≤ 64) (h3 : ∀ j, j < l.length → whyP l j = 0) : checkP l = 0 := by
  rw [checkP, if_neg (by omega)]
  exact firstWhy_none _ _ fun j _ h => h3 j (by omega)

/-! The first of a name. -/
theorem findP_found {l : List Pr} {nm : List Int} {r : Nat} {p : Pr} (hp : l[r]? = some p) (hn : ∀ (j : Nat) (q : Pr), j < r → l[j]? = some q → q.name ≠ nm) (he : p.name = nm) : findP l nm = (r : Int) := by
  have hr := (List.getElem?_eq_some_iff.1 hp).1
  refine firstAt_found _ 0 r (Nat.zero_le _) (by omega) (fun j _ hj => ?_) ?_
  · have hj2 : l[j]? = some (l[j]'(by omega)) := List.getElem?_eq_getElem (by omega)
    simp only [decide_eq_false_iff_not, List.getD, hj2, Option.getD_some]
    exact hn j _ hj hj2
  · simp only [decide_eq_true_eq, List.getD, hp, Option.getD_some]
    exact he
theorem findP_none {l : List Pr} {nm : List Int} (hn : ∀ (j : Nat) (q : Pr), l[j]? = some q → q.name ≠ nm) : findP l nm = -1 := by
  refine firstAt_none _ 0 fun j _ hj => ?_
  have hj2 : l[j]? = some (l[j]'(by omega)) := List.getElem?_eq_getElem (by omega)
  simp only [decide_eq_false_iff_not, List.getD, hj2, Option.getD_some]
  exact hn j _ hj2
theorem findP_ways (l : List Pr) (nm : List Int) : (findP l nm = -1 ∧ ∀ (j : Nat) (q : Pr), l[j]? = some q → q.name ≠ nm) ∨ ∃ (r : Nat) (p : Pr), findP l nm = (r : Int) ∧ l[r]? = some p ∧ p.name = nm ∧ ∀ (j : Nat) (q : Pr), j < r → l[j]? = some q → q.name ≠ nm := by
  have key : ∀ (j : Nat) (q : Pr), l[j]? = some q → ((decide ((l.getD j default).name = nm)) = false → q.name ≠ nm) := by
    intro j q hj h
    simpa [List.getD, hj] using h
  rcases firstAt_cases (fun i => decide ((l.getD i default).name = nm)) l.length 0 with ⟨e, hn⟩ | ⟨r, e, h1, h2, h3, h4⟩
  · exact .inl ⟨e, fun j q hj => key j q hj (hn j (Nat.zero_le _) (by have := (List.getElem?_eq_some_iff.1 hj).1; omega))⟩
  · have hr : l[r]? = some (l[r]'(by omega)) := List.getElem?_eq_getElem (by omega)
    refine .inr ⟨r, _, e, hr, ?_, fun j q hj hq => key j q hq (h4 j (Nat.zero_le _) hj)⟩
    simpa [List.getD, hr] using h3

/-! A signature that may be. -/
/-- What may be. -/
def Okay (l : List Pr) (i : Nat) (p : Pr) : Prop := okName p.name = true ∧ (∀ (j : Nat) (q : Pr), j < i → l[j]? = some q → q.name ≠ p.name) ∧ p.args.length ≤ 8 ∧ ∀ t ∈ p.args, 1 ≤ t ∧ t ≤ 2
theorem find_self {l : List Pr} {i : Nat} {p : Pr} (hp : l[i]? = some p) : (¬ findP l p.name < i) ↔ ∀ (j : Nat) (q : Pr), j < i → l[j]? = some q → q.name ≠ p.name := by
  rcases findP_ways l p.name with ⟨_, hn⟩ | ⟨r, q, e, h1, h2, h3⟩
  · exact absurd rfl (hn i p hp)
  · rw [e]
    constructor
    · intro h j q hj hq
      exact h3 j q (by omega) hq
    · intro h h5
      exact h r q (by omega) h1 h2
theorem whyP_zero {l : List Pr} {i : Nat} {p : Pr} (hp : l[i]? = some p) : whyP l i = 0 ↔ Okay l i p := by
  have e : l.getD i default = p := by simp [List.getD, hp]
  unfold whyP Okay
  rw [e, ← find_self hp]
  have h4 : (p.args.all (fun t => inB t 1 2) = false) ↔ ¬ ∀ t ∈ p.args, 1 ≤ t ∧ t ≤ 2 := by
    rw [← Bool.not_eq_true, List.all_eq_true]
    simp [inB]
  by_cases h1 : okName p.name = false ∨ findP l p.name < i
  · rw [if_pos h1]
    constructor
    · intro h; cases h
    · rintro ⟨h2, h3, _⟩
      rcases h1 with h1 | h1
      · rw [h1] at h2; cases h2
      · exact absurd h1 h3
  · rw [if_neg h1]
    rw [not_or] at h1
    by_cases h2 : 8 < p.args.length
    · rw [if_pos h2]
      constructor
      · intro h; cases h
      · rintro ⟨_, _, h3, _⟩; omega
    · rw [if_neg h2]
      by_cases h3 : p.args.all (fun t => inB t 1 2) = false
      · rw [if_pos h3]
        constructor
        · intro h; cases h
        · rintro ⟨_, _, _, h5⟩; exact absurd h5 (h4.1 h3)
      · rw [if_neg h3]
        refine ⟨fun _ => ⟨by simpa using h1.1, h1.2, by omega, ?_⟩, fun _ => rfl⟩
        exact Classical.byContradiction fun h => h3 (h4.2 h)
theorem checkP_zero {l : List Pr} : checkP l = 0 ↔ l.length ≤ 64 ∧ ∀ (i : Nat) (p : Pr), l[i]? = some p → Okay l i p := by
  constructor
  · intro h
    by_cases hl : 64 < l.length
    · rw [checkP_many hl] at h; cases h
    · rw [checkP, if_neg hl] at h
      exact ⟨by omega, fun i p hp => (whyP_zero hp).1 (firstWhy_zero _ _ h i (Nat.zero_le _) (by have := (List.getElem?_eq_some_iff.1 hp).1; omega))⟩
  · rintro ⟨hl, h⟩
    refine checkP_none hl fun j hj => ?_
    have hp : l[j]? = some (l[j]'hj) := List.getElem?_eq_getElem hj
    exact (whyP_zero hp).2 (h j _ hp)
/-- Of a signature that may be each first part may be; each predicate is found by its name. -/
theorem checkP_take {l : List Pr} (h : checkP l = 0) (k : Nat) : checkP (l.take k) = 0 := by
  obtain ⟨h1, h2⟩ := checkP_zero.1 h
  have hg : ∀ (j : Nat) (q : Pr), (l.take k)[j]? = some q → l[j]? = some q := by
    intro j q hj
    have hlt := (List.getElem?_eq_some_iff.1 hj).1
    rw [List.length_take] at hlt
    rwa [List.getElem?_take, if_pos (by omega)] at hj
  refine checkP_zero.2 ⟨by rw [List.length_take]; omega, fun i p hp => ?_⟩
  obtain ⟨q1, q2, q3, q4⟩ := h2 i p (hg i p hp)
  exact ⟨q1, fun j q hj hq => q2 j q hj (hg j q hq), q3, q4⟩
theorem checkP_found_self {l : List Pr} (h : checkP l = 0) {i : Nat} {p : Pr} (hp : l[i]? = some p) : findP l p.name = (i : Int) ∧ okName p.name = true := by
  obtain ⟨_, h2⟩ := checkP_zero.1 h
  obtain ⟨q1, q2, _⟩ := h2 i p hp
  exact ⟨findP_found hp q2 rfl, q1⟩
#print axioms checkP_zero
#print axioms checkP_take
#print axioms checkP_found_self
end Go.Proofs.Ytnjhkjlekepjoaa
