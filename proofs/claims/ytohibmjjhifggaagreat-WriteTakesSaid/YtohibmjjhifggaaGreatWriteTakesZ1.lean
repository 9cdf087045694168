/-
  What the theorem of WriteTakes rests on, part 1 of 11.
-/
import Derived.Laws.BytesArg
import Derived.OpenShut
import Derived.Laws.OwnMore
import Derived.OwnWalkIn
import Derived.Below
import Derived.Deep.Draws
import Derived.Shelf.Bytes.SlEqualAll
import Derived.Maps.AppendAt
import Derived.RangeFuncNested
import Derived.RangeFuncBox
import Derived.Lib.ConvBytes
import Derived.Lib.AppendStr
import Derived.Deep.AppendLies
import Derived.WalkKit
import Derived.Test.YtohibmjjhifggaaGreatRows
import Derived.Deep.SlicePairs
import Derived.WalkSpells
import Derived.WalkLawsBesides
import Derived.LoopTactic
import Derived.Lib.Hide
import Derived.Lib.Strings
import Derived.Deep.LoopGhost
import Derived.Deep.QuietTactic
import Derived.BigQuiet
namespace Go.Proofs.YtohibmjjhifggaaGreat
/-- A number's bytes, so many of them at most. -/
def encF : Nat → Nat → List Int
  | 0, _ => []
  | k + 1, n => if n < 128 then [(n : Int)] else ((n : Int) % 128 + 128) :: encF k (n / 128)
/-- A number's bytes. -/
def encI (n : Nat) : List Int := encF (n + 1) n
theorem encF_same (k : Nat) : ∀ (m n : Nat), n < k → n < m → encF k n = encF m n := by
  induction k with
  | zero => intro m n h _; omega
  | succ k ih =>
    intro m n hk hm
    cases m with
    | zero => omega
    | succ m =>
      simp only [encF]
      by_cases h : n < 128
      · rw [if_pos h, if_pos h]
      · rw [if_neg h, if_neg h, ih m (n / 128) (by omega) (by omega)]
theorem encI_small {n : Nat} (h : n < 128) : encI n = [(n : Int)] := by rw [encI, encF, if_pos h]
theorem encI_great {n : Nat} (h : ¬ n < 128) : encI n = ((n : Int) % 128 + 128) :: encI (n / 128) := by
  rw [encI, encF, if_neg h, encF_same n (n / 128 + 1) (n / 128) (by omega) (by omega), ← encI]
theorem encI_length (k : Nat) : ∀ n : Nat, n < 128 ^ (k + 1) → 1 ≤ (encI n).length ∧ (encI n).length ≤ k + 1 := by
  induction k with
  | zero => intro n h; rw [encI_small (by omega)]; simp
  | succ k ih =>
    intro n h
    by_cases hn : n < 128
    · rw [encI_small hn]; simp
    · rw [encI_great hn]
      have := ih (n / 128) (by rw [Nat.pow_succ] at h; omega)
      simp only [List.length_cons]; omega
theorem encI_ten {n : Nat} (h : n < 18446744073709551616) : 1 ≤ (encI n).length ∧ (encI n).length ≤ 10 := encI_length 9 n (by omega)
/-- Each is a byte's number. -/
theorem encI_byte (k : Nat) : ∀ n : Nat, n < 128 ^ (k + 1) → ∀ x ∈ encI n, 0 ≤ x ∧ x < 256 := by
  induction k with
  | zero => intro n h x hx; rw [encI_small (by omega)] at hx; simp at hx; omega
  | succ k ih =>
    intro n h x hx
    by_cases hn : n < 128
    · rw [encI_small hn] at hx; simp at hx; omega
    · rw [encI_great hn] at hx
      rcases List.mem_cons.1 hx with rfl | hx
      · omega
      · exact ih (n / 128) (by rw [Nat.pow_succ] at h; omega) x hx
theorem encI_bytes {n : Nat} (h : n < 18446744073709551616) : ∀ x ∈ encI n, 0 ≤ x ∧ x < 256 := encI_byte 9 n (by omega)
end Go.Proofs.YtohibmjjhifggaaGreat
namespace Go.Proofs.YtohibmjjhifggaaGreat
/-- The folded number. -/
def foldI (x : Int) : Int := if x < 0 then 2 * (-1 - x) + 1 else 2 * x
theorem foldI_range {x : Int} (h1 : -9223372036854775808 ≤ x) (h2 : x ≤ 9223372036854775807) : 0 ≤ foldI x ∧ foldI x ≤ 18446744073709551615 := by
  unfold foldI; split <;> omega
end Go.Proofs.YtohibmjjhifggaaGreat
namespace Go.Proofs.YtohibmjjhifggaaGreat
/-- The number of groups, the lowest first. -/
def val : List Int → Int
  | [] => 0
  | x :: r => x % 128 + 128 * val r
/-- Why a byte may not be a number's last one, at its place. -/
def lastI (i : Nat) (x : Int) : Int := if i = 9 ∧ 1 < x then 3 else if 0 < i ∧ x = 0 then 4 else 0
/-- How many bytes the number has that bytes begin with, from place i on, and the error. -/
def lenI : Nat → List Int → Nat × Int
  | i, [] => if i < 10 then (0, 2) else (0, 3)
  | i, x :: r => if 10 ≤ i then (0, 3) else if x < 128 then (i + 1, lastI i x) else lenI (i + 1) r
/-- The number, how many bytes it has, the error. -/
def getI (xs : List Int) : Int × Nat × Int :=
  if (lenI 0 xs).2 = 0 then (val (xs.take (lenI 0 xs).1), (lenI 0 xs).1, 0) else (0, 0, (lenI 0 xs).2)
end Go.Proofs.YtohibmjjhifggaaGreat
namespace Go.Proofs.YtohibmjjhifggaaGreat
/-- A text's bytes. -/
def encT (s : List Int) : List Int := encI s.length ++ s
/-- The text that bytes begin with, how many bytes it has, the error. -/
def getT (most : Int) (xs : List Int) : List Int × Nat × Int :=
  if (getI xs).2.2 ≠ 0 then ([], 0, (getI xs).2.2)
  else if max most 0 < (getI xs).1 then ([], 0, 6)
  else if ((xs.length - (getI xs).2.1 : Nat) : Int) < (getI xs).1 then ([], 0, 2)
  else ((xs.drop (getI xs).2.1).take (getI xs).1.toNat, (getI xs).2.1 + (getI xs).1.toNat, 0)
theorem encT_length (s : List Int) : (encT s).length = (encI s.length).length + s.length := by simp [encT]
/-- Texts' bytes, one behind the other. -/
def catT (l : List (List Int)) : List Int := l.flatMap encT
theorem catT_snoc (l : List (List Int)) (s : List Int) : catT (l ++ [s]) = catT l ++ encT s := by simp [catT]
theorem encT_bytes {s : List Int} (hs : s.length < 18446744073709551616) (hb : ∀ x ∈ s, 0 ≤ x ∧ x < 256) : ∀ x ∈ encT s, 0 ≤ x ∧ x < 256 := fun x hx => by
  rcases List.mem_append.1 hx with h | h
  · exact encI_bytes hs x h
  · exact hb x h
theorem catT_take_succ (l : List (List Int)) {k : Nat} {t : List Int} (h : l[k]? = some t) : catT (l.take (k + 1)) = catT (l.take k) ++ encT t := by
  obtain ⟨hk, rfl⟩ := List.getElem?_eq_some_iff.1 h
  rw [List.take_succ_eq_append_getElem hk, catT_snoc]
theorem catT_le (B : Nat) (hB : B < 18446744073709551616) : ∀ l : List (List Int), (∀ t ∈ l, t.length ≤ B) → (catT l).length ≤ (B + 10) * l.length
  | [], _ => by simp [catT]
  | s :: l, h => by
    have h1 := catT_le B hB l (fun t ht => h t (by simp [ht]))
    have h2 := h s (by simp)
    have h3 := (encI_ten (n := s.length) (by omega)).2
    have e : catT (s :: l) = encT s ++ catT l := by simp [catT]
    rw [e, List.length_append, encT_length, List.length_cons, Nat.mul_succ]
    omega
end Go.Proofs.YtohibmjjhifggaaGreat
namespace Go.Proofs.YtohibmjjhifggaaGreat
/-- What a cursor at place p with error e answers, where r was found at the front of what is left: the answer, the place, the error. -/
def tk {α : Type} (z : α) (p : Nat) (e : Int) (r : α × Nat × Int) : α × Nat × Int :=
  if e ≠ 0 then (z, p, e) else if r.2.2 ≠ 0 then (z, p, r.2.2) else (r.1, p + r.2.1, 0)
/-- The size of what is found, and its error, are small. -/
def Fits {α : Type} (ys : List Int) (r : α × Nat × Int) : Prop := (r.2.2 = 0 → r.2.1 ≤ ys.length) ∧ 0 ≤ r.2.2 ∧ r.2.2 ≤ 6
end Go.Proofs.YtohibmjjhifggaaGreat
namespace Go.Proofs.YtohibmjjhifggaaGreat
/-- What is taken by exclusive or where the lowest bit was 1. -/
def polyI : Nat := 3988292384
/-- One shift. -/
def st (m : Nat) : Nat := m / 2 ^^^ (if m % 2 = 1 then polyI else 0)
/-- So many shifts. -/
def it : Nat → Nat → Nat
  | 0, m => m
  | k + 1, m => it k (st m)
/-- The sum's state behind bytes, from state n on. -/
def stateI (n : Nat) (xs : List Nat) : Nat := xs.foldl (fun n x => it 8 (n ^^^ x)) n
/-- The sum of bytes. -/
def sumI (xs : List Nat) : Nat := 4294967295 ^^^ stateI 4294967295 xs
theorem odd_xor (a b : Nat) : (a ^^^ b) % 2 = (a % 2 + b % 2) % 2 := by
  have h := Nat.testBit_xor a b 0
  simp only [Nat.testBit_zero] at h
  rcases Nat.mod_two_eq_zero_or_one a with ha | ha <;> rcases Nat.mod_two_eq_zero_or_one b with hb | hb <;> rcases Nat.mod_two_eq_zero_or_one (a ^^^ b) with hc | hc <;> simp_all
theorem st_lt {m : Nat} (h : m < 4294967296) : st m < 4294967296 := by
  unfold st
  have : m / 2 < 2 ^ 32 := by omega
  have hp : (if m % 2 = 1 then polyI else 0) < 2 ^ 32 := by split <;> decide
  exact Nat.xor_lt_two_pow this hp
theorem it_lt (k : Nat) : ∀ {m : Nat}, m < 4294967296 → it k m < 4294967296 := by
  induction k with
  | zero => intro m h; exact h
  | succ k ih => intro m h; simp only [it]; exact ih (st_lt h)
/-- A sum goes on from a sum. -/
theorem state_append (n : Nat) (xs ys : List Nat) : stateI n (xs ++ ys) = stateI (stateI n xs) ys := by simp [stateI, List.foldl_append]
theorem sum_more (xs ys : List Nat) : sumI (xs ++ ys) = 4294967295 ^^^ stateI (4294967295 ^^^ sumI xs) ys := by
  unfold sumI
  rw [state_append, ← Nat.xor_assoc, Nat.xor_self, Nat.zero_xor]
theorem state_lt : ∀ (xs : List Nat) {n : Nat}, n < 4294967296 → (∀ x ∈ xs, x < 256) → stateI n xs < 4294967296
  | [], n, h, _ => h
  | x :: r, n, h, hb => by
    have hx := hb x (by simp)
    exact state_lt r (it_lt 8 (Nat.xor_lt_two_pow (n := 32) (by omega) (by omega))) (fun y hy => hb y (by simp [hy]))
theorem sum_lt {xs : List Nat} (hb : ∀ x ∈ xs, x < 256) : sumI xs < 4294967296 := Nat.xor_lt_two_pow (n := 32) (by omega) (state_lt xs (by omega) hb)
end Go.Proofs.YtohibmjjhifggaaGreat

namespace Go.Proofs.YtohibmjjhifggaaGreat
/-- The first of n places from a on at which q holds; -1. (As for frames' places; this part is to stand without these.) -/
def firstAt (q : Nat → Bool) : Nat → Nat → Int
  | 0, _ => -1
  | n + 1, a => if q a then (a : Int) else firstAt q n (a + 1)
theorem firstAt_cases (q : Nat → Bool) : ∀ (n a : Nat), (firstAt q n a = -1 ∧ ∀ j, a ≤ j → j < a + n → q j = false) ∨ ∃ r : Nat, firstAt q n a = (r : Int) ∧ a ≤ r ∧ r < a + n ∧ q r = true ∧ ∀ j, a ≤ j → j < r → q j = false
  | 0, a => Or.inl ⟨rfl, fun j h1 h2 => by omega⟩
  | n + 1, a => by
    by_cases h : q a = true
    · exact Or.inr ⟨a, by simp only [firstAt, if_pos h], Nat.le_refl _, by omega, h, fun j h1 h2 => by omega⟩
    · have hf : q a = false := by simpa using h
      rcases firstAt_cases q n (a + 1) with ⟨e, hn⟩ | ⟨r, e, h1, h2, h3, h4⟩
      · refine Or.inl ⟨by rw [firstAt, if_neg h, e], fun j h1 h2 => ?_⟩
        by_cases he : j = a
        · rw [he]; exact hf
        · exact hn j (by omega) (by omega)
      · refine Or.inr ⟨r, by rw [firstAt, if_neg h, e], by omega, by omega, h3, fun j h5 h6 => ?_⟩
        by_cases he : j = a
        · rw [he]; exact hf
        · exact h4 j (by omega) h6
theorem firstAt_found {q : Nat → Bool} (n a r : Nat) (h1 : a ≤ r) (h2 : r < a + n) (h3 : ∀ j, a ≤ j → j < r → q j = false) (h4 : q r = true) : firstAt q n a = (r : Int) := by
  rcases firstAt_cases q n a with ⟨_, hn⟩ | ⟨s, e, q1, q2, q3, q4⟩
  · rw [hn r h1 h2] at h4; cases h4
  · rcases Nat.lt_trichotomy r s with h | h | h
    · rw [q4 r h1 h] at h4; cases h4
    · rw [e, h]
    · rw [h3 s q1 h] at q3; cases q3
theorem firstAt_none {q : Nat → Bool} (n a : Nat) (h : ∀ j, a ≤ j → j < a + n → q j = false) : firstAt q n a = -1 := by
  rcases firstAt_cases q n a with ⟨e, _⟩ | ⟨s, e, q1, q2, q3, q4⟩
  · exact e
  · rw [h s q1 q2] at q3; cases q3
/-- A predicate: its name's bytes, its arguments' types. -/
structure Pr where
  name : List Int
  args : List Int
  deriving DecidableEq
instance : Inhabited Pr := ⟨⟨[], []⟩⟩
def inB (c low high : Int) : Bool := decide (low ≤ c) && decide (c ≤ high)
def nameB (c : Int) : Bool := inB c 65 90 || inB c 97 122 || inB c 48 57 || decide (c = 95)
def okName (s : List Int) : Bool := decide (0 < s.length) && decide (s.length ≤ 32) && !inB (s.getD 0 0) 48 57 && s.all nameB
/-- The first predicate of a name; -1. -/
def findP (l : List Pr) (nm : List Int) : Int := firstAt (fun i => decide ((l.getD i default).name = nm)) l.length 0
/-- What is wrong with the predicate at a place, in the chapter's order; 0. -/
def whyP (l : List Pr) (i : Nat) : Int :=
  if okName (l.getD i default).name = false ∨ findP l (l.getD i default).name < i then 9
  else if 8 < (l.getD i default).args.length then 6
  else if (l.getD i default).args.all (fun t => inB t 1 2) = false then 7 else 0
def firstWhy (f : Nat → Int) : Nat → Nat → Int
  | 0, _ => 0
  | n + 1, a => if f a = 0 then firstWhy f n (a + 1) else f a
def checkP (l : List Pr) : Int := if 64 < l.length then 6 else firstWhy (whyP l) l.length 0
theorem firstWhy_none {f : Nat → Int} : ∀ (n a : Nat), (∀ j, a ≤ j → j < a + n → f j = 0) → firstWhy f n a = 0
  | 0, _, _ => rfl
  | n + 1, a, h => by
    rw [firstWhy, if_pos (h a (Nat.le_refl _) (by omega))]
    exact firstWhy_none n (a + 1) fun j h1 h2 => h j (by omega) (by omega)
theorem firstWhy_found {f : Nat → Int} : ∀ (n a r : Nat), a ≤ r → r < a + n → (∀ j, a ≤ j → j < r → f j = 0) → f r ≠ 0 → firstWhy f n a = f r
  | 0, a, r, h1, h2, _, _ => by omega
  | n + 1, a, r, h1, h2, h3, h4 => by
    rw [firstWhy]
    by_cases h : a = r
    · subst h
      rw [if_neg h4]
    · rw [if_pos (h3 a (Nat.le_refl _) (by omega))]
      exact firstWhy_found n (a + 1) r (by omega) (by omega) (fun j q1 q2 => h3 j (by omega) q2) h4
theorem firstWhy_zero {f : Nat → Int} : ∀ (n a : Nat), firstWhy f n a = 0 → ∀ j, a ≤ j → j < a + n → f j = 0
  | 0, a, _, j, h1, h2 => by omega
  | n + 1, a, h, j, h1, h2 => by
    rw [firstWhy] at h
    split at h
    · rename_i h0
      by_cases e : j = a
      · rw [e]; exact h0
      · exact firstWhy_zero n (a + 1) h j (by omega) (by omega)
    · rename_i h0
      exact absurd h h0
theorem checkP_many {l : List Pr} (h : 64 < l.length) : checkP l = 6 := if_pos h
theorem checkP_found {l : List Pr} (h : l.length ≤ 64) {r : Nat} (hr : r < l.length) (h3 : ∀ j, j < r → whyP l j = 0) (h4 : whyP l r ≠ 0) : checkP l = whyP l r := by
  rw [checkP, if_neg (by omega)]
  exact firstWhy_found _ _ r (Nat.zero_le _) (by omega) (fun j _ h => h3 j h) h4
theorem checkP_none {l : List Pr} (h : l.length ≤ 64) (h3 : ∀ j, j < l.length → whyP l j = 0) : checkP l = 0 := by
  rw [checkP, if_neg (by omega)]
  exact firstWhy_none _ _ fun j _ h => h3 j (by omega)
theorem findP_found {l : List Pr} {nm : List Int} {r : Nat} {p : Pr} (hp : l[r]? = some p) (hn : ∀ (j : Nat) (q : Pr), j < r → l[j]? = some q → q.name ≠ nm) (he : p.name = nm) : findP l nm = (r : Int) := by
  have hr := (List.getElem?_eq_some_iff.1 hp).1
  refine firstAt_found _ 0 r (Nat.zero_le _) (by omega) (fun j _ hj => ?_) ?_
  · have hj2 : l[j]? = some (l[j]'(by omega)) := List.getElem?_eq_getElem (by omega)
    simp only [decide_eq_false_iff_not, List.getD, hj2, Option.getD_some]
    exact hn j _ hj hj2
  · simp only [decide_eq_true_eq, List.getD, hp, Option.getD_some]
    exact he
theorem findP_none {l : List Pr} {nm : List Int} (hn : ∀ (j : Nat) (q : Pr), l[j]? = some q → q.name ≠ nm) : findP l nm = -1 := by
  refine firstAt_none _ 0 fun j _ hj => ?_
  have hj2 : l[j]? = some (l[j]'(by omega)) := List.getElem?_eq_getElem (by omega)
  simp only [decide_eq_false_iff_not, List.getD, hj2, Option.getD_some]
  exact hn j _ hj2
theorem findP_ways (l : List Pr) (nm : List Int) : (findP l nm = -1 ∧ ∀ (j : Nat) (q : Pr), l[j]? = some q → q.name ≠ nm) ∨ ∃ (r : Nat) (p : Pr), findP l nm = (r : Int) ∧ l[r]? = some p ∧ p.name = nm ∧ ∀ (j : Nat) (q : Pr), j < r → l[j]? = some q → q.name ≠ nm := by
  have key : ∀ (j : Nat) (q : Pr), l[j]? = some q → ((decide ((l.getD j default).name = nm)) = false → q.name ≠ nm) := by
    intro j q hj h
    simpa [List.getD, hj] using h
  rcases firstAt_cases (fun i => decide ((l.getD i default).name = nm)) l.length 0 with ⟨e, hn⟩ | ⟨r, e, h1, h2, h3, h4⟩
  · exact .inl ⟨e, fun j q hj => key j q hj (hn j (Nat.zero_le _) (by have := (List.getElem?_eq_some_iff.1 hj).1; omega))⟩
  · have hr : l[r]? = some (l[r]'(by omega)) := List.getElem?_eq_getElem (by omega)
    refine .inr ⟨r, _, e, hr, ?_, fun j q hj hq => key j q hq (h4 j (Nat.zero_le _) hj)⟩
    simpa [List.getD, hr] using h3
/-- What may be. -/
def Okay (l : List Pr) (i : Nat) (p : Pr) : Prop := okName p.name = true ∧ (∀ (j : Nat) (q : Pr), j < i → l[j]? = some q → q.name ≠ p.name) ∧ p.args.length ≤ 8 ∧ ∀ t ∈ p.args, 1 ≤ t ∧ t ≤ 2
theorem find_self {l : List Pr} {i : Nat} {p : Pr} (hp : l[i]? = some p) : (¬ findP l p.name < i) ↔ ∀ (j : Nat) (q : Pr), j < i → l[j]? = some q → q.name ≠ p.name := by
  rcases findP_ways l p.name with ⟨_, hn⟩ | ⟨r, q, e, h1, h2, h3⟩
  · exact absurd rfl (hn i p hp)
  · rw [e]
    constructor
    · intro h j q hj hq
      exact h3 j q (by omega) hq
    · intro h h5
      exact h r q (by omega) h1 h2
theorem whyP_zero {l : List Pr} {i : Nat} {p : Pr} (hp : l[i]? = some p) : whyP l i = 0 ↔ Okay l i p := by
  have e : l.getD i default = p := by simp [List.getD, hp]
  unfold whyP Okay
  rw [e, ← find_self hp]
  have h4 : (p.args.all (fun t => inB t 1 2) = false) ↔ ¬ ∀ t ∈ p.args, 1 ≤ t ∧ t ≤ 2 := by
    rw [← Bool.not_eq_true, List.all_eq_true]
    simp [inB]
  by_cases h1 : okName p.name = false ∨ findP l p.name < i
  · rw [if_pos h1]
    constructor
    · intro h; cases h
    · rintro ⟨h2, h3, _⟩
      rcases h1 with h1 | h1
      · rw [h1] at h2; cases h2
      · exact absurd h1 h3
  · rw [if_neg h1]
    rw [not_or] at h1
    by_cases h2 : 8 < p.args.length
    · rw [if_pos h2]
      constructor
      · intro h; cases h
      · rintro ⟨_, _, h3, _⟩; omega
    · rw [if_neg h2]
      by_cases h3 : p.args.all (fun t => inB t 1 2) = false
      · rw [if_pos h3]
        constructor
        · intro h; cases h
        · rintro ⟨_, _, _, h5⟩; exact absurd h5 (h4.1 h3)
      · rw [if_neg h3]
        refine ⟨fun _ => ⟨by simpa using h1.1, h1.2, by omega, ?_⟩, fun _ => rfl⟩
        exact Classical.byContradiction fun h => h3 (h4.2 h)
theorem checkP_zero {l : List Pr} : checkP l = 0 ↔ l.length ≤ 64 ∧ ∀ (i : Nat) (p : Pr), l[i]? = some p → Okay l i p := by
  constructor
  · intro h
    by_cases hl : 64 < l.length
    · rw [checkP_many hl] at h; cases h
    · rw [checkP, if_neg hl] at h
      exact ⟨by omega, fun i p hp => (whyP_zero hp).1 (firstWhy_zero _ _ h i (Nat.zero_le _) (by have := (List.getElem?_eq_some_iff.1 hp).1; omega))⟩
  · rintro ⟨hl, h⟩
    refine checkP_none hl fun j hj => ?_
    have hp : l[j]? = some (l[j]'hj) := List.getElem?_eq_getElem hj
    exact (whyP_zero hp).2 (h j _ hp)
end Go.Proofs.YtohibmjjhifggaaGreat
namespace Go.Proofs.YtohibmjjhifggaaGreat
/-- A predicate's bytes. -/
def encP (p : Pr) : List Int := encT p.name ++ (encI p.args.length ++ p.args)
def catP : List Pr → List Int
  | [] => []
  | p :: l => encP p ++ catP l
/-- A signature's payload. -/
def encS (l : List Pr) : List Int := encI l.length ++ catP l
/-- What Put answers. -/
def putS (l : List Pr) : List Int × Int := if checkP l = 0 then (encS l, 0) else ([], checkP l)
theorem catP_snoc (p : Pr) : ∀ l : List Pr, catP (l ++ [p]) = catP l ++ encP p
  | [] => by simp [catP]
  | q :: l => by rw [List.cons_append, catP, catP_snoc p l, catP, List.append_assoc]
theorem catP_take_succ (l : List Pr) {k : Nat} {p : Pr} (h : l[k]? = some p) : catP (l.take (k + 1)) = catP (l.take k) ++ encP p := by
  rw [List.take_add_one, h, Option.toList_some, catP_snoc]
theorem encP_length (p : Pr) : (encP p).length = (encT p.name).length + ((encI p.args.length).length + p.args.length) := by simp [encP]
/-- What has a predicate's bytes. -/
def Small (p : Pr) : Prop := p.name.length ≤ 32 ∧ p.args.length ≤ 8 ∧ (∀ x ∈ p.name, 0 ≤ x ∧ x < 256) ∧ ∀ x ∈ p.args, 0 ≤ x ∧ x < 256
theorem Okay.small {l : List Pr} {i : Nat} {p : Pr} (h : Okay l i p) : Small p := by
  obtain ⟨h1, _, h3, h4⟩ := h
  unfold okName at h1
  simp only [Bool.and_eq_true, decide_eq_true_eq, List.all_eq_true] at h1
  obtain ⟨⟨⟨_, h2⟩, _⟩, h5⟩ := h1
  refine ⟨h2, h3, fun x hx => ?_, fun x hx => by have := h4 x hx; omega⟩
  have := h5 x hx
  simp only [nameB, inB, Bool.or_eq_true, Bool.and_eq_true, decide_eq_true_eq] at this
  omega
theorem check_small {l : List Pr} (h : checkP l = 0) : l.length ≤ 64 ∧ ∀ p ∈ l, Small p := by
  obtain ⟨h1, h2⟩ := checkP_zero.1 h
  refine ⟨h1, fun p hp => ?_⟩
  obtain ⟨i, hi⟩ := List.mem_iff_getElem?.1 hp
  exact (h2 i p hi).small
theorem encI_one {n : Nat} (h : n < 128) : (encI n).length = 1 := by rw [encI_small h]; rfl
theorem Small.length {p : Pr} (h : Small p) : (encP p).length ≤ 42 := by
  obtain ⟨h1, h2, _, _⟩ := h
  rw [encP_length, encT_length, encI_one (by omega), encI_one (by omega)]
  omega
theorem catP_le : ∀ l : List Pr, (∀ p ∈ l, Small p) → (catP l).length ≤ 42 * l.length
  | [], _ => by simp [catP]
  | p :: l, h => by
    have h1 := (h p (by simp)).length
    have h2 := catP_le l (fun q hq => h q (by simp [hq]))
    simp only [catP, List.length_append, List.length_cons]
    omega
theorem encS_le {l : List Pr} (h : checkP l = 0) : 1 ≤ (encS l).length ∧ (encS l).length ≤ 2689 := by
  obtain ⟨h1, h2⟩ := check_small h
  have := catP_le l h2
  rw [encS, List.length_append, encI_one (by omega)]
  omega
theorem Small.bytes {p : Pr} (h : Small p) : ∀ x ∈ encP p, 0 ≤ x ∧ x < 256 := by
  obtain ⟨h1, h2, h3, h4⟩ := h
  intro x hx
  rw [encP] at hx
  rcases List.mem_append.1 hx with hx | hx
  · exact encT_bytes (by omega) h3 x hx
  · rcases List.mem_append.1 hx with hx | hx
    · exact encI_bytes (by omega) x hx
    · exact h4 x hx
theorem catP_bytes : ∀ l : List Pr, (∀ p ∈ l, Small p) → ∀ x ∈ catP l, 0 ≤ x ∧ x < 256
  | [], _, x, hx => by simp [catP] at hx
  | p :: l, h, x, hx => by
    rw [catP] at hx
    rcases List.mem_append.1 hx with hx | hx
    · exact (h p (by simp)).bytes x hx
    · exact catP_bytes l (fun q hq => h q (by simp [hq])) x hx
theorem encS_bytes {l : List Pr} (h : checkP l = 0) : ∀ x ∈ encS l, 0 ≤ x ∧ x < 256 := by
  obtain ⟨h1, h2⟩ := check_small h
  intro x hx
  rw [encS] at hx
  rcases List.mem_append.1 hx with hx | hx
  · exact encI_bytes (by omega) x hx
  · exact catP_bytes l h2 x hx
end Go.Proofs.YtohibmjjhifggaaGreat

namespace Go.Proofs.YtohibmjjhifggaaGreat
open Go.RowKit
/-- The byte at a place of such a text. -/
theorem str_at (xs : List Int) (hb : ∀ x ∈ xs, 0 ≤ x ∧ x < 256) (k : Nat) (hk : k < xs.length) (h : k < (strOfNums xs).size) : ((strOfNums xs)[k].toNat : Int) = xs.getD k 0 := by
  have e : (strOfNums xs)[k] = UInt8.ofNat (xs.getD k 0).toNat := by
    show (strOfNums xs).data[k] = _
    simp [strOfNums, List.getD, List.getElem?_eq_getElem hk]
  have hx : xs.getD k 0 ∈ xs := by rw [List.getD, List.getElem?_eq_getElem hk]; simp
  have := hb _ hx
  rw [e, UInt8.toNat_ofNat']
  omega
end Go.Proofs.YtohibmjjhifggaaGreat
namespace Go.Proofs.YtohibmjjhifggaaGreat
open Go.RowKit
/-- The slice value v reads as the bytes xs; they lie in a block below B. -/
def Row (w : World) (B : Nat) (v : Value) (xs : List Int) : Prop :=
  ∃ A c, v = .slice A xs.length c ∧ xs.length ≤ c ∧ c ≤ maxLen ∧ (A = none → c = 0) ∧
    (0 < xs.length → ∃ b o, A = some ⟨b, o, none⟩ ∧ b < B ∧ ∀ i, i < xs.length → w.cell? ⟨b, o + i, none⟩ = some (.int .u8 (xs.getD i 0)))
section
variable {w w' : World} {B B' : Nat} {v : Value} {xs : List Int}
theorem Row.keep (h : Row w B v xs) (hk : ∀ p : Addr, p.block < B → w'.cell? p = w.cell? p) : Row w' B v xs := by
  obtain ⟨A, c, hv, h1, h2, h3, h4⟩ := h
  refine ⟨A, c, hv, h1, h2, h3, fun hn => ?_⟩
  obtain ⟨b, o, e, hb, hc⟩ := h4 hn
  exact ⟨b, o, e, hb, fun i hi => (hk ⟨b, o + i, none⟩ hb).trans (hc i hi)⟩
theorem Row.below (h : Row w B v xs) (hb : Below B w w') : Row w' B v xs := h.keep fun _ hp => hb.cell hp
theorem Row.more (h : Row w B v xs) (hB : B ≤ B') : Row w B' v xs := by
  obtain ⟨A, c, hv, h1, h2, h3, h4⟩ := h
  refine ⟨A, c, hv, h1, h2, h3, fun hn => ?_⟩
  obtain ⟨b, o, e, hb, hc⟩ := h4 hn
  exact ⟨b, o, e, by omega, hc⟩
theorem Row.nil (w : World) (B : Nat) : Row w B (.slice none 0 0) [] := ⟨none, 0, rfl, Nat.le_refl _, Nat.zero_le _, fun _ => rfl, fun h => absurd h (by simp)⟩
theorem Row.of_own {base : Nat} {e : TypeId} {n : Nat} (h : w.ownsRow base e 1 v n (xs.map (.int .u8))) : Row w w.heap.size v xs := by
  have hl : xs.length = n := by have := h.1; simpa using this
  subst hl
  have h' := h
  rcases h.2 with ⟨rfl, h0⟩ | ⟨g, cap, cur, rfl, _, hg, hnc, hcm, _, _⟩
  · obtain rfl : xs = [] := List.eq_nil_of_length_eq_zero h0
    exact Row.nil _ _
  · refine ⟨some ⟨g, 0, none⟩, cap, rfl, hnc, hcm, by simp, fun _ => ⟨g, 0, rfl, (Array.getElem?_eq_some_iff.1 hg).1, fun i hi => ?_⟩⟩
    rw [show 0 + i = i by omega, h'.cellAt i (by omega)]
    simp [List.getElem?_map, List.getElem?_eq_getElem hi, List.getD]
theorem Row.bytesIn (h : Row w B v xs) : ∃ A c, v = .slice A xs.length c ∧ Lib.BytesIn w A xs.length xs := by
  obtain ⟨A, c, hv, _, _, _, h4⟩ := h
  exact ⟨A, c, hv, fun hn => by obtain ⟨b, o, e, _, hc⟩ := h4 hn; exact ⟨b, o, e, hc⟩⟩
theorem Row.convert {P : Program} (h : Row w B v xs) (src e dst : TypeId) (hs : P.underlying src = some (.slice e)) (he : P.underlying e = some (.int .u8)) (hd : P.underlying dst = some .string) :
    (convert src dst v).run P w = .ok (.string (strOfNums xs)) w := by
  obtain ⟨A, c, rfl, hb⟩ := h.bytesIn
  exact hb.convert rfl c src e dst hs he hd
end
/-- append, of what such a slice reads as, behind a row of the call's own. -/
theorem run_append_row {P : Program} (w : World) (base : Nat) (t ty e : TypeId) (i : TypeInfo) (z : Value) (ht : P.underlying t = some (.slice e)) (hi : P.info? e = some i) (hz : i.zero = some z)
    (hsize : i.size = 1) (hby : i.bytes = 1) (hzs : z.cells.size = 1)
    (v : Value) (n : Nat) (us : List Value) (hown : w.ownsRow base e 1 v n us) (B : Nat) (sv : Value) (xs : List Int) (hr : Row w B sv xs)
    (hlen : n + xs.length ≤ 140737488355328) (hbase : base ≤ w.heap.size) :
    ∃ v' w', (Builtin.append_ #[t, t] ty #[v, sv]).run P w = .ok v' w' ∧ w'.ownsRow base e 1 v' (n + xs.length) (us ++ xs.map (.int .u8)) ∧ w.grownBy w' v.ownBlock ∧ (v' = .slice none 0 0 ↔ v = .slice none 0 0 ∧ xs.length = 0) := by
  obtain ⟨A, c, rfl, h1, h2, h3, h4⟩ := hr
  rcases A with _ | ad
  · have hx : xs = [] := by
      rcases Nat.eq_zero_or_pos xs.length with h0 | h0
      · exact List.eq_nil_of_length_eq_zero h0
      · obtain ⟨b, o, he, _⟩ := h4 h0
        cases he
    subst hx
    obtain rfl := h3 rfl
    exact ⟨v, w, run_append_owned_none w base t ty e i 1 ht hi v n us hown, by simpa using hown, World.grownBy.refl w _, by simp⟩
  · refine run_append_own w base t ty e i z 1 1 ht hi hz hsize hby hzs (by omega) v n us hown ad xs.length c (xs.map (.int .u8)) (by simp) (fun j u hu => ?_) (fun u hu => ?_) (by simp only [maxLen]; omega) (by omega) hbase
    · have hj : j < xs.length := by
        have := (List.getElem?_eq_some_iff.1 hu).1
        simpa using this
      obtain ⟨b, o, he, _, hc⟩ := h4 (by omega)
      obtain rfl : ad = ⟨b, o, none⟩ := by injection he
      have hu' : u = .int .u8 (xs.getD j 0) := by
        rw [List.getElem?_map, List.getElem?_eq_getElem hj] at hu
        simp at hu
        simp [List.getD, List.getElem?_eq_getElem hj, hu]
      rw [hu', ← hc j hj, Go.WideShapes.add_plain]
    · obtain ⟨x, _, rfl⟩ := List.mem_map.1 hu
      simp [Value.oneCell']
/-- The same as a step of a walk inside a fence. -/
theorem wpListIn_append_row {F : Fence} {n : Nat} {P : Program} (w : World) {ops : Array Oper} {rest : List Oper} {o : Oper} {a : Act} {Q : Exit → Act → World → Prop}
    (hg : o.guard = none) (s x : Operand) (t : TypeId) (hop : o.op = Op.call { callee := Callee.builtin Builtin.append, args := #[s, x], argTypes := #[t, t] })
    (base : Nat) (e : TypeId) (i : TypeInfo) (z : Value) (h1 : P.underlying t = some (.slice e)) (h2 : P.info? e = some i) (h3 : i.zero = some z) (h4 : i.size = 1) (h5 : i.bytes = 1) (h6 : z.cells.size = 1)
    (v : Value) (k : Nat) (us : List Value) (hs : a.eval s = v) (hown : w.ownsRow base e 1 v k us) (B : Nat) (sv : Value) (xs : List Int) (hx : a.eval x = sv) (hr : Row w B sv xs)
    (b2 : k + xs.length ≤ 140737488355328) (b3 : base ≤ w.heap.size)
    (hK : ∀ v' w', w'.ownsRow base e 1 v' (k + xs.length) (us ++ xs.map (.int .u8)) → w.grownBy w' v.ownBlock → (v' = .slice none 0 0 ↔ v = .slice none 0 0 ∧ xs.length = 0) → wpListIn F n P ops Q rest (a.put o.dst v') w') :
    wpListIn F n P ops Q (o :: rest) a w := by
  refine wpListIn_plain hg fun K hK' => ?_
  obtain ⟨v', w', hrun, r1, r2, r3⟩ := run_append_row (P := P) w base t o.type e i z h1 h2 h3 h4 h5 h6 v k us hown B sv xs hr b2 b3
  unfold Oper.wpIn
  refine ⟨?_, ?_⟩
  · simp [Oper.about, hop, resolve, Target.leads, Sem.run_pure]
  · rw [Oper.semAt_plain F _ _ (by rw [hop]; intro c hc'; cases hc')]
    simp [execOp, hop, resolve, invoke, builtin, hs, hx, hrun, Result.andThen]
    exact hK' _ _ (hK v' w' r1 r2 r3)
/-- A variable's box, and the slice in it, behind an append of what another slice reads as, stored back. -/
theorem boxed_grown {W w1 : World} {n₀ B : Nat} {t e : TypeId} {size : Nat} {v v' : Value} {k m : Nat} {xs ys : List Value}
    (hv : Boxed W B t v) (hte : t ≠ e) (hrow : W.ownsRow n₀ e size v k xs) (hn₀ : n₀ ≤ W.heap.size) (hB : n₀ ≤ B)
    (hown' : w1.ownsRow n₀ e size v' m ys) (hgrow : W.grownBy w1 v.ownBlock) :
    Boxed w1 B t v ∧ Boxed (w1.setCell ⟨B, 0, none⟩ v') B t v' ∧ (w1.setCell ⟨B, 0, none⟩ v').ownsRow n₀ e size v' m ys ∧ Below n₀ W (w1.setCell ⟨B, 0, none⟩ v') := by
  have hv1 : Boxed w1 B t v := hv.kept hgrow (hv.not_row hte hrow)
  refine ⟨hv1, hv1.set v', hown'.kept (grownBy_setCell' w1 B v') (.inr (hv1.not_row hte hown').symm), ?_⟩
  refine ((Below.refl n₀ W).grown hgrow hn₀ fun j ej => ?_).setCell (p := ⟨B, 0, none⟩) hB v'
  exact (hrow.lt j ej).1
/-- A slice that owns a row, and isn't nil, is written out. -/
theorem ownsRow_some {W : World} {base : Nat} {e : TypeId} {size : Nat} {v : Value} {k : Nat} {xs : List Value} (h : W.ownsRow base e size v k xs) (hne : v ≠ .slice none 0 0) : ∃ g cap, v = .slice (some ⟨g, 0, none⟩) k cap := by
  rcases h.2 with ⟨h0, _⟩ | ⟨g, cap, _, rfl, _⟩
  · exact absurd h0 hne
  · exact ⟨g, cap, rfl⟩
end Go.Proofs.YtohibmjjhifggaaGreat
namespace Go.Proofs.YtohibmjjhifggaaGreat
open Go.RowKit
/-- A slice of integers that came in: it is nil, or it leads to cells. -/
def IsRow (k : IntKind) (w : World) (a : Option Addr) (len cap : Nat) (zs : List Int) : Prop :=
  (a = none ∧ len = 0 ∧ cap = 0 ∧ zs = []) ∨
  ∃ x, a = some x ∧ len ≤ cap ∧ cap ≤ maxLen ∧ zs.length = cap ∧ (∀ i, i < zs.length → w.cell? (x.add i) = some (.int k (zs.getD i 0))) ∧ ∀ n ∈ zs, (Lit.int k n).wf = true
/-- []byte(s). -/
theorem conv_bytes {P : Program} (w : World) (src dst e : TypeId) (hs : P.underlying src = some .string) (hd : P.underlying dst = some (.slice e)) (he : P.underlying e = some (.int .u8))
    (xs : List Int) (hb : ∀ x ∈ xs, 0 ≤ x ∧ x < 256) (hl : xs.length ≤ 9223372036854775807) :
    ∃ A c W', (convert src dst (.string (strOfNums xs))).run P w = .ok (.slice A xs.length c) W' ∧ Row W' W'.heap.size (.slice A xs.length c) xs ∧ Below w.heap.size w W' := by
  have h := Lib.run_convert_string_bytes (P := P) w src dst e (strOfNums xs) hs hd he
  have hsz := strOfNums_size xs
  rw [hsz] at h
  refine ⟨_, _, _, h, ⟨_, _, rfl, grownCap_ge _ _ _ _, grownCap_le_maxLen _ _ _ _ (by simp only [maxLen]; omega), by simp, fun hn => ?_⟩, ?_⟩
  · refine ⟨w.heap.size, 0, rfl, by rw [Lib.bytesWorld_size]; omega, fun i hi => ?_⟩
    rw [Nat.zero_add, Lib.bytesWorld_cell w e _ i (by omega)]
    have hx : xs.getD i 0 ∈ xs := by rw [List.getD, List.getElem?_eq_getElem hi]; simp
    have hx' := hb _ hx
    have e1 : (strOfNums xs).data.toList.getD i 0 = UInt8.ofNat (xs.getD i 0).toNat := by
      rw [strOfNums_data]
      simp [List.getD, List.getElem?_map, List.getElem?_eq_getElem hi]
    have e2 : ((UInt8.ofNat (xs.getD i 0).toNat).toNat : Int) = xs.getD i 0 := by rw [UInt8.toNat_ofNat']; omega
    rw [e1, e2]
  · exact ⟨rfl, rfl, rfl, by rw [Lib.bytesWorld_size]; omega, fun i hi => Lib.bytesWorld_at_old w e _ i hi⟩
theorem str_append (k l : List Int) : strOfNums k ++ strOfNums l = strOfNums (k ++ l) := by
  apply ByteArray.ext
  simp [strOfNums]
/-- '+' of two such texts. -/
theorem add_strs {P : Program} (W : World) (k l : List Int) (h : k.length + l.length ≤ 9223372036854775807) : (Op.stringOp .add (strOfNums k) (strOfNums l)).run P W = .ok (.string (strOfNums (k ++ l))) W := by
  rw [run_string_add_sum (P := P) (w := W) _ _ (by rw [strOfNums_size, strOfNums_size]; exact h), str_append]
end Go.Proofs.YtohibmjjhifggaaGreat
namespace Go.Proofs.YtohibmjjhifggaaGreat
open Go.RowKit
/-- A text's bytes as numbers. -/
def numsOf (s : ByteArray) : List Int := s.data.toList.map fun b => (b.toNat : Int)
theorem numsOf_length (s : ByteArray) : (numsOf s).length = s.size := by rw [numsOf, List.length_map, Array.length_toList]; rfl
theorem numsOf_bytes (s : ByteArray) : ∀ x ∈ numsOf s, 0 ≤ x ∧ x < 256 := by
  intro x hx
  obtain ⟨b, _, rfl⟩ := List.mem_map.1 hx
  have := b.toNat_lt
  omega
theorem str_numsOf (s : ByteArray) : strOfNums (numsOf s) = s := by
  apply ByteArray.ext
  apply Array.ext'
  rw [strOfNums_data]
  simp only [numsOf, List.map_map]
  conv => rhs; rw [← List.map_id s.data.toList]
  apply List.map_congr_left
  intro b _
  simp
theorem text_of (s : ByteArray) : ∃ xs : List Int, s = strOfNums xs ∧ xs.length = s.size ∧ ∀ x ∈ xs, 0 ≤ x ∧ x < 256 := ⟨numsOf s, (str_numsOf s).symm, numsOf_length s, numsOf_bytes s⟩
theorem nums_str (xs : List Int) (hb : ∀ x ∈ xs, 0 ≤ x ∧ x < 256) : numsOf (strOfNums xs) = xs := by
  rw [numsOf, strOfNums_data, List.map_map]
  conv => rhs; rw [← List.map_id xs]
  apply List.map_congr_left
  intro x hx
  have := hb x hx
  simp only [Function.comp, id]
  rw [UInt8.toNat_ofNat']
  omega
theorem str_inj {xs ys : List Int} (hx : ∀ x ∈ xs, 0 ≤ x ∧ x < 256) (hy : ∀ y ∈ ys, 0 ≤ y ∧ y < 256) (h : strOfNums xs = strOfNums ys) : xs = ys := by
  rw [← nums_str xs hx, ← nums_str ys hy, h]
theorem strCells_nums (xs : List Int) (hb : ∀ x ∈ xs, 0 ≤ x ∧ x < 256) : Lib.strCells (strOfNums xs) = xs.map (.int .u8) := by
  have h : Lib.strCells (strOfNums xs) = (numsOf (strOfNums xs)).map (.int .u8) := by simp [Lib.strCells, numsOf]
  rw [h, nums_str xs hb]
/-- A slice without its front. -/
theorem Row.drop {w : World} {B : Nat} {A : Option Addr} {n c : Nat} {xs : List Int} (h : Row w B (.slice A n c) xs) {k : Nat} (hk : k ≤ xs.length) :
    Row w B (.slice (if c = k then A else A.map (·.add k)) (xs.drop k).length (c - k)) (xs.drop k) := by
  obtain ⟨A', c', hv, h1, h2, h3, h4⟩ := h
  injection hv with e1 e2 e3
  subst e1 e3
  have hl : (xs.drop k).length = xs.length - k := by simp
  refine ⟨_, _, rfl, by omega, by omega, fun h => ?_, fun hn => ?_⟩
  · by_cases e : c = k
    · omega
    · rw [if_neg e] at h
      cases A with
      | none => have := h3 rfl; omega
      | some a => simp at h
  · obtain ⟨b, o, rfl, hb, hc⟩ := h4 (by omega)
    rw [if_neg (by omega)]
    refine ⟨b, o + k, ?_, hb, fun i hi => ?_⟩
    · rw [Option.map_some, Go.WideShapes.add_plain]
    · rw [Nat.add_assoc, hc (k + i) (by omega)]
      simp [List.getD, List.getElem?_drop]
end Go.Proofs.YtohibmjjhifggaaGreat
namespace Go.Proofs.YtohibmjjhifggaaGreat
open Go.RowKit
/-- The slice value v reads as the cells us; they lie in a block below B. -/
def VRow (w : World) (B : Nat) (v : Value) (us : List Value) : Prop :=
  ∃ A c, v = .slice A us.length c ∧ us.length ≤ c ∧ c ≤ maxLen ∧ (A = none → c = 0) ∧
    (0 < us.length → ∃ b o, A = some ⟨b, o, none⟩ ∧ b < B ∧ ∀ i u, us[i]? = some u → w.cell? ⟨b, o + i, none⟩ = some u)
section
variable {w w' : World} {B B' : Nat} {v : Value} {us : List Value}
theorem VRow.keep (h : VRow w B v us) (hk : ∀ p : Addr, p.block < B → w'.cell? p = w.cell? p) : VRow w' B v us := by
  obtain ⟨A, c, hv, h1, h2, h3, h4⟩ := h
  refine ⟨A, c, hv, h1, h2, h3, fun hn => ?_⟩
  obtain ⟨b, o, e, hb, hc⟩ := h4 hn
  exact ⟨b, o, e, hb, fun i u hi => (hk ⟨b, o + i, none⟩ hb).trans (hc i u hi)⟩
theorem VRow.below (h : VRow w B v us) (hb : Below B w w') : VRow w' B v us := h.keep fun _ hp => hb.cell hp
theorem VRow.more (h : VRow w B v us) (hB : B ≤ B') : VRow w B' v us := by
  obtain ⟨A, c, hv, h1, h2, h3, h4⟩ := h
  refine ⟨A, c, hv, h1, h2, h3, fun hn => ?_⟩
  obtain ⟨b, o, e, hb, hc⟩ := h4 hn
  exact ⟨b, o, e, by omega, hc⟩
theorem VRow.nil (w : World) (B : Nat) : VRow w B (.slice none 0 0) [] := ⟨none, 0, rfl, Nat.le_refl _, Nat.zero_le _, fun _ => rfl, fun h => absurd h (by simp)⟩
theorem VRow.of_own {base : Nat} {e : TypeId} {n : Nat} (h : w.ownsRow base e 1 v n us) : VRow w w.heap.size v us := by
  have hl : us.length = n := by have := h.1; simpa using this
  subst hl
  have h' := h
  rcases h.2 with ⟨rfl, h0⟩ | ⟨g, cap, cur, rfl, _, hg, hnc, hcm, _, _⟩
  · obtain rfl : us = [] := List.eq_nil_of_length_eq_zero h0
    exact VRow.nil _ _
  · refine ⟨some ⟨g, 0, none⟩, cap, rfl, hnc, hcm, by simp, fun _ => ⟨g, 0, rfl, (Array.getElem?_eq_some_iff.1 hg).1, fun i u hi => ?_⟩⟩
    have hlt := (List.getElem?_eq_some_iff.1 hi).1
    rw [show 0 + i = i by omega, h'.cellAt i (by omega), hi]
end
/-- A row of the call's own is kept where what lay in memory is. -/
theorem own_below {w w' : World} {base : Nat} {e : TypeId} {size n : Nat} {v : Value} {us : List Value} (h : w.ownsRow base e size v n us) (hb : Below w.heap.size w w') : w'.ownsRow base e size v n us :=
  h.kept (row := none) ⟨hb.os, hb.tape, hb.output, hb.size, fun k hk _ => hb.block k hk⟩ (Classical.em _)
/-- A text as a cell. -/
def strV (t : List Int) : Value := .string (strOfNums t)
/-- Texts as cells. -/
def strVs (l : List (List Int)) : List Value := l.map strV
theorem strVs_length (l : List (List Int)) : (strVs l).length = l.length := by simp [strVs]
theorem strVs_take (l : List (List Int)) (k : Nat) : (strVs l).take k = strVs (l.take k) := by simp [strVs, List.map_take]
theorem strVs_at (l : List (List Int)) {k : Nat} {t : List Int} (h : l[k]? = some t) : (strVs l)[k]? = some (.string (strOfNums t)) := by simp [strVs, strV, h]
theorem strVs_snoc (l : List (List Int)) (t : List Int) : strVs (l ++ [t]) = strVs l ++ [.string (strOfNums t)] := by simp [strVs, strV]
/-- A slice whose cells lie in a block that is known. -/
theorem Row.of_cells {w : World} {B g : Nat} {xs : List Int} (hl : xs.length ≤ 9223372036854775807) (hg : g < B) (hc : ∀ i, i < xs.length → w.cell? ⟨g, i, none⟩ = some (.int .u8 (xs.getD i 0))) : Row w B (.slice (some ⟨g, 0, none⟩) xs.length xs.length) xs :=
  ⟨_, _, rfl, Nat.le_refl _, by unfold maxLen; exact hl, by simp, fun _ => ⟨g, 0, rfl, hg, fun i hi => by rw [Nat.zero_add]; exact hc i hi⟩⟩
end Go.Proofs.YtohibmjjhifggaaGreat

namespace Go.Proofs.YtohibmjjhifggaaGreat
open Go.RowKit
/-- Block g holds just these cells, of type t, none frozen. -/
def Held (w : World) (g : Nat) (t : TypeId) (cs : Array Value) : Prop := w.heap[g]? = some (.cells cs t (0, 0))
section
variable {w w' : World} {g : Nat} {t : TypeId} {cs : Array Value}
theorem Held.lt (h : Held w g t cs) : g < w.heap.size := (Array.getElem?_eq_some_iff.1 h).1
theorem Held.cell (h : Held w g t cs) (i : Nat) : w.cell? ⟨g, i, none⟩ = cs[i]? := by simp [World.cell?, show w.heap[g]? = _ from h]
theorem Held.frozen (h : Held w g t cs) (i : Nat) : w.frozen? ⟨g, i, none⟩ = false := by simp [World.frozen?, show w.heap[g]? = _ from h]
theorem Held.put (h : Held w g t cs) (i : Nat) (u : Value) : Held (w.setCell ⟨g, i, none⟩ u) g t (cs.setIfInBounds i u) := by
  have h' : w.heap[g]? = _ := h
  show (w.setCell ⟨g, i, none⟩ u).heap[g]? = _
  simp [World.setCell, Array.getElem?_modify, h']
theorem Held.grown {row : Option Nat} (h : Held w g t cs) (hg : w.grownBy w' row) (hne : some g ≠ row) : Held w' g t cs := (hg.block g h.lt hne).trans h
theorem Held.below {B : Nat} (h : Held w g t cs) (hb : Below B w w') (hlt : g < B) : Held w' g t cs := (hb.block g hlt).trans h
end
theorem Held.other_put {W : World} {q b i : Nat} {t : TypeId} {vs : Array Value} (h : Held W q t vs) (hne : q ≠ b) (u : Value) : Held (W.setCell ⟨b, i, none⟩ u) q t vs := (Below.heap_setCell _ _ _ _ (by simpa using hne)).trans h
theorem grown_trans {a b c : World} {row : Option Nat} (h : a.grownBy b row) (k : b.grownBy c row) : a.grownBy c row :=
  ⟨k.os.trans h.os, k.tape.trans h.tape, k.output.trans h.output, Nat.le_trans h.size k.size, fun i hi hn => (k.block i (Nat.lt_of_lt_of_le hi h.size) hn).trans (h.block i hi hn)⟩
theorem grown_put (w : World) (g i : Nat) (u : Value) : w.grownBy (w.setCell ⟨g, i, none⟩ u) (some g) :=
  ⟨rfl, rfl, rfl, by simp [World.setCell], fun k _ hn => Below.heap_setCell w ⟨g, i, none⟩ u k (fun e => hn (by rw [e]))⟩
end Go.Proofs.YtohibmjjhifggaaGreat
namespace Go.Proofs.YtohibmjjhifggaaGreat
open Go.RowKit
/-- append, as a step of a walk: of what a slice reads as, behind a row of the call's own. -/
theorem wpList_append_row {P : Program} (w : World) {ops : Array Oper} {rest : List Oper} {o : Oper} {a : Act} {Q : Exit → Act → World → Prop}
    (hg : o.guard = none) (s x : Operand) (t : TypeId) (hop : o.op = Op.call { callee := Callee.builtin Builtin.append, args := #[s, x], argTypes := #[t, t] })
    (base : Nat) (e : TypeId) (i : TypeInfo) (z : Value) (h1 : P.underlying t = some (.slice e)) (h2 : P.info? e = some i) (h3 : i.zero = some z) (h4 : i.size = 1) (h5 : i.bytes = 1) (h6 : z.cells.size = 1)
    (v : Value) (k : Nat) (us : List Value) (hs : a.eval s = v) (hown : w.ownsRow base e 1 v k us) (B : Nat) (sv : Value) (xs : List Int) (hx : a.eval x = sv) (hr : Row w B sv xs)
    (b2 : k + xs.length ≤ 140737488355328) (b3 : base ≤ w.heap.size)
    (hK : ∀ v' w', w'.ownsRow base e 1 v' (k + xs.length) (us ++ xs.map (.int .u8)) → w.grownBy w' v.ownBlock → (v' = .slice none 0 0 ↔ v = .slice none 0 0 ∧ xs.length = 0) → wpList P ops Q rest (a.put o.dst v') w') :
    wpList P ops Q (o :: rest) a w := by
  obtain ⟨v', w', hrun, r1, r2, r3⟩ := run_append_row (P := P) w base t o.type e i z h1 h2 h3 h4 h5 h6 v k us hown B sv xs hr b2 b3
  refine wpList_plain hg fun K hK' => ?_
  unfold Oper.wp
  simp [execOp, hop, resolve, invoke, builtin, hs, hx, hrun, Result.andThen]
  exact hK' _ _ (hK v' w' r1 r2 r3)
/-- A slice of no bytes, newly made. -/
theorem own_none1 (w : World) (base : Nat) (e : TypeId) (hb : base ≤ w.heap.size) : (w.alloc (.cells #[] e)).ownsRow base e 1 (.slice (some ⟨w.heap.size, 0, none⟩) 0 0) 0 [] :=
  ⟨rfl, .inr ⟨w.heap.size, 0, #[], rfl, hb, heap_alloc_new w _, Nat.le_refl _, Nat.zero_le _, rfl, rfl⟩⟩
end Go.Proofs.YtohibmjjhifggaaGreat
namespace Go.Proofs.YtohibmjjhifggaaGreat
open Go.RowKit
/-- What turns block g, and the block of a row, alone. -/
structure But (w w' : World) (row : Option Nat) (g : Nat) : Prop where
  os : w'.os = w.os
  tape : w'.tape = w.tape
  output : w'.output = w.output
  size : w.heap.size ≤ w'.heap.size
  block : ∀ k, k < w.heap.size → k ≠ g → some k ≠ row → w'.heap[k]? = w.heap[k]?
section
variable {w w' w2 : World} {row row' : Option Nat} {g : Nat}
theorem But.of_one (h : w.grownBy w' (some g)) (row : Option Nat) : But w w' row g := ⟨h.os, h.tape, h.output, h.size, fun k hk hn _ => h.block k hk (fun e => hn (by injection e))⟩
theorem But.of_row (h : w.grownBy w' row) (g : Nat) : But w w' row g := ⟨h.os, h.tape, h.output, h.size, fun k hk _ hn => h.block k hk hn⟩
theorem But.of_below (h : Below w.heap.size w w') (row : Option Nat) (g : Nat) : But w w' row g := ⟨h.os, h.tape, h.output, h.size, fun k hk _ _ => h.block k hk⟩
theorem But.trans (h : But w w' row g) (k : But w' w2 row' g) (hr : ∀ j, row' = some j → row = some j ∨ w.heap.size ≤ j) : But w w2 row g :=
  ⟨k.os.trans h.os, k.tape.trans h.tape, k.output.trans h.output, Nat.le_trans h.size k.size, fun i hi hn hn2 =>
    (k.block i (Nat.lt_of_lt_of_le hi h.size) hn (fun e => (hr i e.symm).elim (fun e2 => hn2 e2.symm) (fun h => by omega))).trans (h.block i hi hn hn2)⟩
/-- All below a bound but block g, where the row lies above. -/
theorem But.low {n : Nat} (h : But w w' row g) (hn : n ≤ w.heap.size) (hg : n ≤ g) (hr : ∀ j, row = some j → n ≤ j) : Below n w w' :=
  ⟨h.os, h.tape, h.output, h.size, fun k hk => h.block k (by omega) (by omega) (fun e => by have := hr k e.symm; omega)⟩
theorem But.held {k : Nat} {t : TypeId} {cs : Array Value} (h : But w w' row g) (hk : Held w k t cs) (h1 : k ≠ g) (h2 : some k ≠ row) : Held w' k t cs := (h.block k hk.lt h1 h2).trans hk
end
/-- A row of the call's own, behind what turns another block and another row. -/
theorem own_but {w w' : World} {row : Option Nat} {g base : Nat} {e : TypeId} {size n : Nat} {v : Value} {us : List Value} (h : w.ownsRow base e size v n us) (hb : But w w' row g) (h1 : v.ownBlock = none ∨ v.ownBlock ≠ some g) (h2 : v.ownBlock = none ∨ v.ownBlock ≠ row) : w'.ownsRow base e size v n us := by
  refine ⟨h.1, ?_⟩
  rcases h.2 with h3 | ⟨b, cap, cur, rfl, hbb, hgb, r⟩
  · exact .inl h3
  · refine .inr ⟨b, cap, cur, rfl, hbb, ?_, r⟩
    refine (hb.block b (Array.getElem?_eq_some_iff.1 hgb).1 (fun e2 => ?_) (fun e2 => ?_)).trans hgb
    · exact h1.elim (fun h => by simp [Value.ownBlock] at h) (fun h => h (by simp [Value.ownBlock, e2]))
    · exact h2.elim (fun h => by simp [Value.ownBlock] at h) (fun h => h (by rw [← e2]; rfl))
end Go.Proofs.YtohibmjjhifggaaGreat

namespace Go.Proofs.YtohibmjjhifggaaGreat
open Go.RowKit Go.ChangeShapes Go.WideShapes
/-- The slice value v reads as the numbers xs. -/
def IRow (w : World) (B : Nat) (v : Value) (xs : List Int) : Prop := VRow w B v (xs.map (.int .i64))
theorem IRow.below {w w' : World} {B : Nat} {v : Value} {xs : List Int} (h : IRow w B v xs) (hb : Below B w w') : IRow w' B v xs := VRow.below h hb
theorem IRow.more {w : World} {B B' : Nat} {v : Value} {xs : List Int} (h : IRow w B v xs) (hB : B ≤ B') : IRow w B' v xs := VRow.more h hB
/-- The cell of the number at a place. -/
theorem IRow.at {w : World} {B n c : Nat} {A : Option Addr} {xs : List Int} (h : IRow w B (.slice A n c) xs) {i : Nat} (hi : i < xs.length) : ∃ b o, A = some ⟨b, o, none⟩ ∧ b < B ∧ w.cell? ⟨b, o + i, none⟩ = some (.int .i64 (xs.getD i 0)) := by
  obtain ⟨A', c', hv, _, _, _, h4⟩ := h
  injection hv with e1 _ _
  obtain ⟨b, o, e, hb, hc⟩ := h4 (by rw [List.length_map]; omega)
  exact ⟨b, o, e1.trans e, hb, hc i _ (by rw [List.getElem?_map, List.getElem?_eq_getElem hi]; simp [List.getD, List.getElem?_eq_getElem hi])⟩
theorem irow_of_arg {w : World} {a : Option Addr} {len cap : Nat} {zs : List Int} (h : IsRow .i64 w a len cap zs) :
    ∃ xs : List Int, xs.length = len ∧ IRow w w.heap.size (.slice a len cap) xs ∧ ∀ x ∈ xs, -9223372036854775808 ≤ x ∧ x ≤ 9223372036854775807 := by
  rcases h with ⟨rfl, rfl, rfl, rfl⟩ | ⟨x, rfl, hl, hm, hz, hc, hw⟩
  · exact ⟨[], rfl, VRow.nil _ _, by simp⟩
  · have hlen : (zs.take len).length = len := by simp; omega
    refine ⟨zs.take len, hlen, ⟨some x, cap, by rw [List.length_map, hlen], by rw [List.length_map, hlen]; exact hl, hm, by simp, fun hn => ?_⟩, fun y hy => ?_⟩
    · rw [List.length_map, hlen] at hn
      obtain ⟨b, o, sp⟩ := x
      have h0 := hc 0 (by omega)
      have hs : sp = none := by simpa [Addr.add] using World.cell?_spot h0
      subst hs
      refine ⟨b, o, rfl, World.block_lt_of_cell? w ⟨b, o, none⟩ (by simpa [Addr.add] using h0), fun i u hi => ?_⟩
      have hlt := (List.getElem?_eq_some_iff.1 hi).1
      rw [List.length_map, hlen] at hlt
      have hi' := hc i (by omega)
      rw [Go.WideShapes.add_plain] at hi'
      rw [hi']
      have hget : zs[i]? = some (zs[i]'(by omega)) := List.getElem?_eq_getElem (by omega)
      simp only [List.getElem?_map, List.getElem?_take, if_pos hlt, hget, Option.map_some, Option.some.injEq] at hi
      rw [← hi, List.getD, hget]
      rfl
    · have := bounds_i64 (hw y (List.mem_of_mem_take hy))
      omega
/-- A predicate, and where its arguments' types lie. -/
structure Pd where
  p : Pr
  A : Option Addr
  c : Nat
/-- What it is made of is what the machine can hold. -/
def Pd.Fits (d : Pd) : Prop := d.p.name.length ≤ maxLen ∧ (∀ x ∈ d.p.name, 0 ≤ x ∧ x < 256) ∧ ∀ x ∈ d.p.args, -9223372036854775808 ≤ x ∧ x ≤ 9223372036854775807
/-- The slice value reads as these predicates; they lie in a block below B. -/
def PredRow (w : World) (B : Nat) (v : Value) (ds : List Pd) : Prop :=
  ∃ A c, v = .slice A ds.length c ∧ ds.length ≤ c ∧ c ≤ maxLen ∧ (A = none → c = 0) ∧
    (0 < ds.length → ∃ b o, A = some ⟨b, o, none⟩ ∧ b < B ∧ ∀ (i : Nat) (d : Pd), ds[i]? = some d → w.cell? ⟨b, o + i * 2, none⟩ = some (.string (strOfNums d.p.name)) ∧ w.cell? ⟨b, o + i * 2 + 1, none⟩ = some (.slice d.A d.p.args.length d.c)) ∧
    ∀ d ∈ ds, IRow w B (.slice d.A d.p.args.length d.c) d.p.args ∧ d.Fits
section
variable {w w' : World} {B B' : Nat} {v : Value} {ds : List Pd}
theorem PredRow.below (h : PredRow w B v ds) (hb : Below B w w') : PredRow w' B v ds := by
  obtain ⟨A, c, hv, h1, h2, h3, h4, h5⟩ := h
  refine ⟨A, c, hv, h1, h2, h3, fun hn => ?_, fun d hd => ⟨(h5 d hd).1.below hb, (h5 d hd).2⟩⟩
  obtain ⟨b, o, e, hlt, hc⟩ := h4 hn
  exact ⟨b, o, e, hlt, fun i d hd => ⟨(hb.cell (p := ⟨b, o + i * 2, none⟩) hlt).trans (hc i d hd).1, (hb.cell (p := ⟨b, o + i * 2 + 1, none⟩) hlt).trans (hc i d hd).2⟩⟩
theorem PredRow.more (h : PredRow w B v ds) (hB : B ≤ B') : PredRow w B' v ds := by
  obtain ⟨A, c, hv, h1, h2, h3, h4, h5⟩ := h
  refine ⟨A, c, hv, h1, h2, h3, fun hn => ?_, fun d hd => ⟨(h5 d hd).1.more hB, (h5 d hd).2⟩⟩
  obtain ⟨b, o, e, hlt, hc⟩ := h4 hn
  exact ⟨b, o, e, Nat.lt_of_lt_of_le hlt hB, hc⟩
theorem PredRow.nil (w : World) (B : Nat) : PredRow w B (.slice none 0 0) [] := ⟨none, 0, rfl, Nat.le_refl _, Nat.zero_le _, fun _ => rfl, fun h => absurd h (by simp), by simp⟩
theorem PredRow.form (h : PredRow w B v ds) : ∃ A c, v = .slice A ds.length c ∧ ds.length ≤ c ∧ c ≤ 9223372036854775807 := by
  obtain ⟨A, c, hv, h1, h2, _⟩ := h
  unfold maxLen at h2
  exact ⟨A, c, hv, h1, by omega⟩
/-- The cells of the predicate at a place. -/
theorem PredRow.at {A : Option Addr} {n c : Nat} (h : PredRow w B (.slice A n c) ds) {i : Nat} {d : Pd} (hd : ds[i]? = some d) : ∃ b o, A = some ⟨b, o, none⟩ ∧ b < B ∧
    w.cell? ⟨b, o + i * 2, none⟩ = some (.string (strOfNums d.p.name)) ∧ w.cell? ⟨b, o + i * 2 + 1, none⟩ = some (.slice d.A d.p.args.length d.c) ∧ IRow w B (.slice d.A d.p.args.length d.c) d.p.args ∧ d.Fits ∧ d.p.args.length ≤ d.c ∧ d.c ≤ 9223372036854775807 := by
  obtain ⟨A', c', hv, h1, h2, h3, h4, h5⟩ := h
  injection hv with e1 _ _
  have hlt := (List.getElem?_eq_some_iff.1 hd).1
  obtain ⟨b, o, e, hb, hc⟩ := h4 (by omega)
  obtain ⟨q1, q2⟩ := h5 d (List.mem_of_getElem? hd)
  obtain ⟨_, _, ev, r1, r2, _⟩ := id q1
  injection ev with _ _ e3
  rw [List.length_map] at r1
  unfold maxLen at r2
  exact ⟨b, o, e1.trans e, hb, (hc i d hd).1, (hc i d hd).2, q1, q2, by omega, by omega⟩
end
theorem at_pr {ds : List Pd} {i : Nat} {d : Pd} (h : ds[i]? = some d) : (ds.map (·.p))[i]? = some d.p := by rw [List.getElem?_map, h]; rfl
theorem pr_at {ds : List Pd} {i : Nat} {p : Pr} (h : (ds.map (·.p))[i]? = some p) : ∃ d, ds[i]? = some d ∧ d.p = p := by
  rw [List.getElem?_map] at h
  cases hd : ds[i]? with
  | none => rw [hd] at h; cases h
  | some d => rw [hd] at h; exact ⟨d, rfl, by simpa using h⟩
set_option maxRecDepth 100000 in
/-- A slice of predicates that came in. -/
theorem preds_of {H : Type} {enc : TypeId × Value → H} {w : World} {fuel : Nat} {a : Option Addr} {len cap : Nat} {x : DataW H × List MemPlace}
    (h : DataW.trod enc Tryz.prog w 0 (fun _ => true) true fuel 22 [.slice a len cap] = some x) : ∃ ds : List Pd, ds.length = len ∧ PredRow w w.heap.size (.slice a len cap) ds := by
  rcases Go.Deep.open_slice_pairs Tryz.underlying22 Tryz.underlying51 (by kernel_rfl) rfl rfl (by kernel_rfl) (by kernel_rfl) h with ⟨hcs, _⟩ | ⟨ad, len', cap', m, n, V0, V1, D0, D1, P0, P1, hcs, hb, hl, hm, hmm, _, hi⟩
  · simp at hcs
    obtain ⟨rfl, rfl, rfl⟩ := hcs
    exact ⟨[], rfl, PredRow.nil _ _⟩
  · simp at hcs
    obtain ⟨rfl, rfl, rfl⟩ := hcs
    have hlm : len ≤ m := by rw [hmm]; split <;> omega
    have each : ∀ i, i < len → ∃ d : Pd, w.cell? (ad.add (i * 2)) = some (.string (strOfNums d.p.name)) ∧ w.cell? (ad.add (i * 2 + 1)) = some (.slice d.A d.p.args.length d.c) ∧ IRow w w.heap.size (.slice d.A d.p.args.length d.c) d.p.args ∧ d.Fits := by
      intro i hlt
      obtain ⟨g0, g1, t0, t1⟩ := hi i (by omega)
      obtain ⟨s0, e0, _, hsz⟩ := DataW.trod_string Tryz.underlying9 t0
      injection e0 with e0
      obtain ⟨A, ln, cp, zs, ev, hz⟩ : ∃ a0 len0 cap0 zs, V1 i = .slice a0 len0 cap0 ∧ IsRow .i64 w a0 len0 cap0 zs := by
        rcases open_ints Tryz.underlying49 Tryz.underlying3 (by kernel_rfl) t1 with ⟨hcs, _⟩ | ⟨x, l, c, zs, hcs, _, hl, hm, hz, _, hcell, hwz⟩
        · simp at hcs
          exact ⟨none, 0, 0, [], hcs, .inl ⟨rfl, rfl, rfl, rfl⟩⟩
        · simp at hcs
          exact ⟨some x, l, c, zs, hcs, .inr ⟨_, rfl, hl, hm, by simpa using hz, hcell, hwz⟩⟩
      obtain ⟨xs, rfl, hr, hby⟩ := irow_of_arg hz
      obtain ⟨nm, rfl, hnl, hnb⟩ := text_of s0
      exact ⟨⟨⟨nm, xs⟩, A, cp⟩, by rw [g0, e0], by rw [g1, ev], hr, by rw [hnl]; exact hsz, hnb, hby⟩
    let f : Nat → Pd := fun i => if h : i < len then Classical.choose (each i h) else ⟨⟨[], []⟩, none, 0⟩
    have hf : ∀ i, i < len → w.cell? (ad.add (i * 2)) = some (.string (strOfNums (f i).p.name)) ∧ w.cell? (ad.add (i * 2 + 1)) = some (.slice (f i).A (f i).p.args.length (f i).c) ∧ IRow w w.heap.size (.slice (f i).A (f i).p.args.length (f i).c) (f i).p.args ∧ (f i).Fits := by
      intro i hlt
      have := Classical.choose_spec (each i hlt)
      simp only [f, dif_pos hlt]
      exact this
    have hlen : ((List.range len).map f).length = len := by simp
    refine ⟨(List.range len).map f, hlen, some ad, cap, by rw [hlen], by omega, hm, by simp, fun hn => ?_, fun d hd => ?_⟩
    · rw [hlen] at hn
      obtain ⟨b, o, sp⟩ := ad
      have h0 := (hf 0 hn).1
      have hs : sp = none := by simpa [Addr.add] using World.cell?_spot h0
      subst hs
      refine ⟨b, o, rfl, World.block_lt_of_cell? w ⟨b, o, none⟩ (by simpa [Addr.add] using h0), fun i d hd => ?_⟩
      have hlt : i < len := by have := (List.getElem?_eq_some_iff.1 hd).1; simpa using this
      have hd' : f i = d := by simpa [List.getElem?_map, List.getElem?_range, hlt] using hd
      subst hd'
      obtain ⟨g0, g1, _⟩ := hf i hlt
      rw [Go.WideShapes.add_plain] at g0 g1
      exact ⟨g0, g1⟩
    · obtain ⟨i, hi', rfl⟩ := List.mem_map.1 hd
      obtain ⟨_, _, q1, q2⟩ := hf i (List.mem_range.1 hi')
      exact ⟨q1, q2⟩
end Go.Proofs.YtohibmjjhifggaaGreat

namespace Go.Proofs.YtohibmjjhifggaaGreat
open Go.RowKit
theorem in_any (c low high : Int) (w : World) : Calls Tryz.prog 39 #[.int .u8 c, .int .u8 low, .int .u8 high] w fun e w' => e = .returned (.bool (inB c low high)) ∧ w = w' := by
  by_cases h1 : low ≤ c
  · by_cases h2 : c ≤ high
    · have e : inB c low high = true := by simp [inB, h1, h2]
      rw [e]
      go_enter Tryz.func39, Tryz.ntmps39
      go_wp2_with fail
      go_ret
      exact ⟨rfl, rfl⟩
    · have e : inB c low high = false := by simp [inB, h2]
      rw [e]
      go_enter Tryz.func39, Tryz.ntmps39
      go_wp2_with fail
      go_ret
      exact ⟨rfl, rfl⟩
  · have e : inB c low high = false := by simp [inB, h1]
    rw [e]
    go_enter Tryz.func39, Tryz.ntmps39
    go_wp2_with fail
    go_ret
    exact ⟨rfl, rfl⟩
theorem str_empty (xs : List Int) : (strOfNums xs).toList.isEmpty = xs.isEmpty := by
  rw [Lib.toList_data, strOfNums_data]
  cases xs <;> rfl
/-- What '==' of two texts comes to. -/
theorem str_eq_dec {xs ys : List Int} (hx : ∀ x ∈ xs, 0 ≤ x ∧ x < 256) (hy : ∀ y ∈ ys, 0 ≤ y ∧ y < 256) : ((strOfNums xs).toList == (strOfNums ys).toList) = decide (xs = ys) := by
  by_cases h : xs = ys
  · subst h; simp
  · rw [decide_eq_false h, beq_eq_false_iff_ne]
    intro e
    rw [Lib.toList_data, Lib.toList_data] at e
    refine h (str_inj hx hy ?_)
    rw [← Lib.mk_data (strOfNums xs), ← Lib.mk_data (strOfNums ys), e]
theorem str_ne {xs ys : List Int} (hx : ∀ x ∈ xs, 0 ≤ x ∧ x < 256) (hy : ∀ y ∈ ys, 0 ≤ y ∧ y < 256) (h : xs ≠ ys) : ((strOfNums xs).toList == (strOfNums ys).toList) = false := by rw [str_eq_dec hx hy, decide_eq_false h]
theorem nameB_all {s : List Int} (h : ∀ k, k < s.length → nameB (s.getD k 0) = true) : s.all nameB = true := by
  rw [List.all_eq_true]
  intro x hx
  obtain ⟨k, hk, e⟩ := List.getElem_of_mem hx
  have := h k hk
  rw [List.getD, List.getElem?_eq_getElem hk] at this
  simpa [e] using this
set_option maxRecDepth 100000 in
set_option maxHeartbeats 1000000 in
theorem rname_any (xs : List Int) (hb : ∀ x ∈ xs, 0 ≤ x ∧ x < 256) (hl : xs.length ≤ 9223372036854775807) (w : World) :
    Calls Tryz.prog 21 #[.string (strOfNums xs)] w fun e w' => e = .returned (.bool (okName xs)) ∧ w = w' := by
  have hsz := strOfNums_size xs
  have hemp := str_empty xs
  by_cases h0 : xs = []
  · subst h0
    rw [show ([] : List Int).isEmpty = true from rfl] at hemp
    have e : okName [] = false := rfl
    rw [e]
    clear e
    go_enter Tryz.func21, Tryz.ntmps21
    go_wp2_with fail
    go_ret
    exact ⟨rfl, rfl⟩
  · have hpos : 0 < xs.length := by cases xs with | nil => exact absurd rfl h0 | cons _ _ => simp
    have hne : (strOfNums xs).toList.isEmpty = false := by rw [hemp]; cases xs with | nil => exact absurd rfl h0 | cons _ _ => rfl
    clear hemp h0
    by_cases h32 : 32 < xs.length
    · have h32i : (32 : Int) < (xs.length : Int) := by omega
      have e : okName xs = false := by simp [okName, show ¬ xs.length ≤ 32 by omega]
      rw [e]
      clear e
      go_enter Tryz.func21, Tryz.ntmps21
      go_wp2_with fail
      go_ret
      exact ⟨rfl, rfl⟩
    · have hat0 := str_at xs hb 0 hpos (by omega)
      have hle : (xs.length : Int) ≤ 32 := by omega
      obtain ⟨y, hy⟩ : ∃ y, xs.getD 0 0 = y := ⟨_, rfl⟩
      rw [hy] at hat0
      cases hd : inB y 48 57 with
      | true =>
        have e : okName xs = false := by unfold okName; rw [hy, hd]; simp
        rw [e]
        clear e hy
        have HI := Lib.hid (fun w => in_any y 48 57 w)
        rw [hd] at HI
        clear hd
        go_enter Tryz.func21, Tryz.ntmps21
        go_wp2_with fail
        refine (HI.out _).mono ?_
        rintro e w1 ⟨rfl, rfl⟩
        go_wp2_with fail
        go_ret
        exact ⟨rfl, rfl⟩
      | false =>
        have HOK := Lib.hid (show okName xs = xs.all nameB by unfold okName; rw [hy, hd]; simp [hpos, show xs.length ≤ 32 by omega])
        have HI := Lib.hid (fun w => in_any y 48 57 w)
        rw [hd] at HI
        clear hd hy
        have HB := Lib.hid hb
        clear hb
        go_enter Tryz.func21, Tryz.ntmps21
        go_wp2_with fail
        refine (HI.out _).mono ?_
        rintro e w1 ⟨rfl, rfl⟩
        clear hat0
        go_wp2_with fail
        go_loopw [3] (fun i wr => ∃ k : Nat, k ≤ xs.length ∧ i = .int .i64 k ∧ Hid (∀ j, j < k → nameB (xs.getD j 0) = true) ∧ w = wr) (fun i _ => xs.length - (intOf i).toNat)
        case atStart => exact ⟨0, Nat.zero_le _, rfl, Lib.hid (fun j h => absurd h (Nat.not_lt_zero _)), rfl⟩
        case round =>
          obtain ⟨k, hk, rfl, HJ, rfl⟩ := hrel
          by_cases hlt : k < xs.length
          · have hat := str_at xs HB.out k hlt (by omega)
            obtain ⟨z, hz⟩ : ∃ z, xs.getD k 0 = z := ⟨_, rfl⟩
            rw [hz] at hat
            have HZ := Lib.hid hz
            clear hz
            have H1 := Lib.hid (fun w => in_any z 65 90 w)
            have H2 := Lib.hid (fun w => in_any z 97 122 w)
            have H3 := Lib.hid (fun w => in_any z 48 57 w)
            have hall : nameB z = true → Hid (∀ j, j < k + 1 → nameB (xs.getD j 0) = true) := fun h => Lib.hid (fun j hj => by
              rcases Nat.lt_or_ge j k with q | q
              · exact HJ.out j q
              · obtain rfl : j = k := by omega
                rw [HZ.out]; exact h)
            cases h1 : inB z 65 90 with
            | true =>
              have HJ2 := hall (by simp [nameB, h1])
              rw [h1] at H1
              clear h1 hall
              go_wp2_with fail
              refine (H1.out _).mono ?_
              rintro e w1 ⟨rfl, rfl⟩
              go_wp2_with fail
              go_roundw
              case rel => exact ⟨k + 1, by omega, by go_num, HJ2, trivial⟩
              case measure => simp [intOf]; omega
            | false =>
              cases h2 : inB z 97 122 with
              | true =>
                have HJ2 := hall (by simp [nameB, h2])
                rw [h1] at H1
                rw [h2] at H2
                clear h1 h2 hall
                go_wp2_with fail
                refine (H1.out _).mono ?_
                rintro e w1 ⟨rfl, rfl⟩
                go_wp2_with fail
                refine (H2.out _).mono ?_
                rintro e w1 ⟨rfl, rfl⟩
                go_wp2_with fail
                go_roundw
                case rel => exact ⟨k + 1, by omega, by go_num, HJ2, trivial⟩
                case measure => simp [intOf]; omega
              | false =>
                cases h3 : inB z 48 57 with
                | true =>
                  have HJ2 := hall (by simp [nameB, h3])
                  rw [h1] at H1
                  rw [h2] at H2
                  rw [h3] at H3
                  clear h1 h2 h3 hall
                  go_wp2_with fail
                  refine (H1.out _).mono ?_
                  rintro e w1 ⟨rfl, rfl⟩
                  go_wp2_with fail
                  refine (H2.out _).mono ?_
                  rintro e w1 ⟨rfl, rfl⟩
                  go_wp2_with fail
                  refine (H3.out _).mono ?_
                  rintro e w1 ⟨rfl, rfl⟩
                  go_wp2_with fail
                  go_roundw
                  case rel => exact ⟨k + 1, by omega, by go_num, HJ2, trivial⟩
                  case measure => simp [intOf]; omega
                | false =>
                  by_cases h4 : z = 95
                  · have HJ2 := hall (by simp [nameB, h4])
                    rw [h1] at H1
                    rw [h2] at H2
                    rw [h3] at H3
                    have hb4 : (z != 95) = false := by simp [h4]
                    clear h1 h2 h3 h4 hall
                    go_wp2_with fail
                    refine (H1.out _).mono ?_
                    rintro e w1 ⟨rfl, rfl⟩
                    go_wp2_with fail
                    refine (H2.out _).mono ?_
                    rintro e w1 ⟨rfl, rfl⟩
                    go_wp2_with fail
                    refine (H3.out _).mono ?_
                    rintro e w1 ⟨rfl, rfl⟩
                    go_wp2_with fail
                    go_roundw
                    case rel => exact ⟨k + 1, by omega, by go_num, HJ2, trivial⟩
                    case measure => simp [intOf]; omega
                  · have hn : nameB z = false := by simp [nameB, h1, h2, h3, h4]
                    have HE := Lib.hid (HOK.out.trans (show xs.all nameB = false from by
                      rw [← Bool.not_eq_true, List.all_eq_true]
                      intro h
                      have := h z (by rw [← HZ.out, List.getD, List.getElem?_eq_getElem hlt]; simp)
                      rw [hn] at this
                      cases this))
                    rw [h1] at H1
                    rw [h2] at H2
                    rw [h3] at H3
                    have hb4 : (z != 95) = true := by simp [h4]
                    clear h1 h2 h3 h4 hall hn
                    go_wp2_with fail
                    refine (H1.out _).mono ?_
                    rintro e w1 ⟨rfl, rfl⟩
                    go_wp2_with fail
                    refine (H2.out _).mono ?_
                    rintro e w1 ⟨rfl, rfl⟩
                    go_wp2_with fail
                    refine (H3.out _).mono ?_
                    rintro e w1 ⟨rfl, rfl⟩
                    go_wp2_with fail
                    go_ret
                    exact ⟨by rw [HE.out]; rfl, rfl⟩
          · obtain rfl : k = xs.length := by omega
            have e : xs.all nameB = true := nameB_all HJ.out
            have HE := Lib.hid (HOK.out.trans e)
            clear e
            go_wp2_with fail
            go_ret
            exact ⟨by rw [HE.out]; rfl, rfl⟩
end Go.Proofs.YtohibmjjhifggaaGreat
namespace Go.Proofs.YtohibmjjhifggaaGreat
open Go.RowKit
set_option maxRecDepth 100000 in
set_option maxHeartbeats 1000000 in
theorem rfind_any (A : Option Addr) (c : Nat) (ds : List Pd) (nm : List Int) (hnb : ∀ x ∈ nm, 0 ≤ x ∧ x < 256) (w : World) (hrow : PredRow w w.heap.size (.slice A ds.length c) ds) :
    Calls Tryz.prog 22 #[.slice A ds.length c, .string (strOfNums nm)] w fun e w' => e = .returned (.int .i64 (findP (ds.map (·.p)) nm)) ∧ w = w' := by
  obtain ⟨_, hc1, hc2⟩ : ∃ _ : True, ds.length ≤ c ∧ c ≤ 9223372036854775807 := by
    obtain ⟨A', c', hv, q1, q2⟩ := hrow.form
    injection hv with _ _ e3
    exact ⟨trivial, by omega, by omega⟩
  have hfound := fun (r : Nat) (p : Pr) => @findP_found (ds.map (·.p)) nm r p
  have hnone := @findP_none (ds.map (·.p)) nm
  generalize findP (ds.map (·.p)) nm = R at hfound hnone ⊢
  have HF := Lib.hid hfound
  have HN := Lib.hid hnone
  have HROW := Lib.hid hrow
  clear hfound hnone hrow
  go_enter Tryz.func22, Tryz.ntmps22
  go_wp2_with fail
  go_loopw [5] (fun i wr => ∃ k : Nat, k ≤ ds.length ∧ i = .int .i64 k ∧ Hid (∀ (j : Nat) (q : Pr), j < k → (ds.map (·.p))[j]? = some q → q.name ≠ nm) ∧ w = wr) (fun i _ => ds.length - (intOf i).toNat)
  case atStart => exact ⟨0, Nat.zero_le _, rfl, Lib.hid (fun j q h => absurd h (Nat.not_lt_zero _)), rfl⟩
  case round =>
    obtain ⟨k, hk, rfl, HJ, rfl⟩ := hrel
    by_cases hlt : k < ds.length
    · obtain ⟨d, hd⟩ : ∃ d, ds[k]? = some d := ⟨_, List.getElem?_eq_getElem hlt⟩
      obtain ⟨b, o, rfl, hb, x0, x1, hir, hfit, ha1, ha2⟩ := HROW.out.at hd
      by_cases he : d.p.name = nm
      · have HR := Lib.hid (HF.out k d.p (at_pr hd) HJ.out he)
        rw [he] at x0
        clear hir hfit hd
        go_wp2_with fail
        go_ret
        exact ⟨by rw [HR.out]; rfl, rfl⟩
      · have hne := str_ne hfit.2.1 hnb he
        have HJ2 := Lib.hid (fun (j : Nat) (q : Pr) (hj : j < k + 1) (hq : (ds.map (·.p))[j]? = some q) => (show q.name ≠ nm from by
          rcases Nat.lt_or_ge j k with h | h
          · exact HJ.out j q h hq
          · obtain rfl : j = k := by omega
            rw [at_pr hd] at hq
            injection hq with hq
            rw [← hq]; exact he))
        clear hir hfit hd he
        go_wp2_with fail
        go_roundw
        case rel => exact ⟨k + 1, by omega, by go_num, HJ2, trivial⟩
        case measure => simp [intOf]; omega
    · obtain rfl : k = ds.length := by omega
      have HR := Lib.hid (HN.out (fun j q hj => HJ.out j q (by have := (List.getElem?_eq_some_iff.1 hj).1; simpa using this) hj))
      go_wp2_with fail
      go_ret
      exact ⟨by rw [HR.out]; rfl, rfl⟩
section
variable {l : List Pr} {i : Nat} {p : Pr}
theorem getD_pr (hp : l[i]? = some p) : l.getD i default = p := by simp [List.getD, hp]
theorem whyP_9 (hp : l[i]? = some p) (h : okName p.name = false ∨ findP l p.name < i) : whyP l i = 9 := by
  unfold whyP
  rw [getD_pr hp, if_pos h]
theorem whyP_6 (hp : l[i]? = some p) (h1 : okName p.name = true) (h2 : ¬ findP l p.name < i) (h3 : 8 < p.args.length) : whyP l i = 6 := by
  unfold whyP
  rw [getD_pr hp, if_neg (by rw [h1]; simp [h2]), if_pos h3]
theorem whyP_7 (hp : l[i]? = some p) (h1 : okName p.name = true) (h2 : ¬ findP l p.name < i) (h3 : ¬ 8 < p.args.length) {m : Nat} (hm : m < p.args.length) (h4 : inB (p.args.getD m 0) 1 2 = false) : whyP l i = 7 := by
  unfold whyP
  rw [getD_pr hp, if_neg (by rw [h1]; simp [h2]), if_neg h3, if_pos]
  rw [← Bool.not_eq_true, List.all_eq_true]
  intro h
  have := h (p.args.getD m 0) (by rw [List.getD, List.getElem?_eq_getElem hm]; simp)
  rw [h4] at this
  cases this
theorem whyP_0 (hp : l[i]? = some p) (h1 : okName p.name = true) (h2 : ¬ findP l p.name < i) (h3 : ¬ 8 < p.args.length) (h4 : ∀ m, m < p.args.length → inB (p.args.getD m 0) 1 2 = true) : whyP l i = 0 := by
  unfold whyP
  rw [getD_pr hp, if_neg (by rw [h1]; simp [h2]), if_neg h3, if_neg]
  rw [Bool.not_eq_false, List.all_eq_true]
  intro x hx
  obtain ⟨k, hk, e⟩ := List.getElem_of_mem hx
  have := h4 k hk
  rw [List.getD, List.getElem?_eq_getElem hk] at this
  simpa [e] using this
end
theorem step_lt {P : Nat → Prop} {k : Nat} (h : ∀ j, j < k → P j) (hk : P k) : ∀ j, j < k + 1 → P j := fun j hj => by
  rcases Nat.lt_or_ge j k with q | q
  · exact h j q
  · obtain rfl : j = k := by omega
    exact hk
set_option maxRecDepth 100000 in
set_option maxHeartbeats 2000000 in
theorem rcheck_any (A : Option Addr) (c : Nat) (ds : List Pd) (w : World) (hrow : PredRow w w.heap.size (.slice A ds.length c) ds) :
    Calls Tryz.prog 7 #[.slice A ds.length c] w fun e w' => e = .returned (.int .i64 (checkP (ds.map (·.p)))) ∧ w = w' := by
  obtain ⟨_, hc1, hc2⟩ : ∃ _ : True, ds.length ≤ c ∧ c ≤ 9223372036854775807 := by
    obtain ⟨A', c', hv, q1, q2⟩ := hrow.form
    injection hv with _ _ e3
    exact ⟨trivial, by omega, by omega⟩
  have hml : (ds.map (·.p)).length = ds.length := List.length_map _
  by_cases hgt : 64 < ds.length
  · have hgi : (64 : Int) < (ds.length : Int) := by omega
    rw [checkP_many (by omega)]
    go_enter Tryz.func7, Tryz.ntmps7
    go_wp2_with fail
    go_ret
    exact ⟨rfl, rfl⟩
  have hfound := fun (r : Nat) (hr : r < ds.length) => @checkP_found (ds.map (·.p)) (by omega) r (by omega)
  have hnone := fun h => @checkP_none (ds.map (·.p)) (by omega) h
  generalize checkP (ds.map (·.p)) = R at hfound hnone ⊢
  have hle : (ds.length : Int) ≤ 64 := by omega
  have HF := Lib.hid hfound
  have HN := Lib.hid hnone
  have HROW := Lib.hid hrow
  have HML := Lib.hid hml
  clear hfound hnone hrow hml hgt
  go_enter Tryz.func7, Tryz.ntmps7
  go_wp2_with fail
  go_loopg [3] ds.length (fun gk i wr => ∃ k : Nat, k ≤ ds.length ∧ i = .int .i64 k ∧ Hid (ds.length - k = gk) ∧ Hid (∀ j, j < k → whyP (ds.map (·.p)) j = 0) ∧ w = wr)
  case atStart => exact ⟨0, Nat.zero_le _, rfl, Lib.hid rfl, Lib.hid (fun j h => absurd h (Nat.not_lt_zero _)), rfl⟩
  case round =>
    obtain ⟨k, hk, rfl, HGK, HJ, rfl⟩ := hrel
    by_cases hlt : k < ds.length
    · obtain ⟨d, hd⟩ : ∃ d, ds[k]? = some d := ⟨_, List.getElem?_eq_getElem hlt⟩
      have HD := Lib.hid (at_pr hd)
      have HRF := Lib.hid (fun (h : PredRow w w.heap.size (.slice A ds.length c) ds) => rfind_any A c ds d.p.name (HROW.out.at hd).choose_spec.choose_spec.2.2.2.2.2.1.2.1 w h)
      obtain ⟨b, o, rfl, hb, x0, x1, hir, hfit, ha1, ha2⟩ := HROW.out.at hd
      have HNM := Lib.hid (rname_any d.p.name hfit.2.1 (by have := hfit.1; unfold maxLen at this; omega) w)
      have HFD := Lib.hid (HRF.out HROW.out)
      obtain ⟨dA, hdA⟩ : ∃ dA, d.A = dA := ⟨_, rfl⟩
      rw [hdA] at x1 hir
      have HIR := Lib.hid hir
      clear HRF hd hir hfit hdA
      cases h1 : okName d.p.name with
      | false =>
        have hw := whyP_9 HD.out (.inl h1)
        have HR := Lib.hid ((HF.out k hlt HJ.out (by rw [hw]; decide)).trans hw)
        rw [h1] at HNM
        clear h1 hw
        go_wp2_with fail
        refine HNM.out.mono ?_
        rintro e w1 ⟨rfl, rfl⟩
        go_wp2_with fail
        go_ret
        exact ⟨by rw [HR.out]; rfl, rfl⟩
      | true =>
        by_cases h2 : findP (ds.map (·.p)) d.p.name < k
        · have hw := whyP_9 HD.out (.inr h2)
          have HR := Lib.hid ((HF.out k hlt HJ.out (by rw [hw]; decide)).trans hw)
          rw [h1] at HNM
          clear h1 hw
          generalize findP (ds.map (·.p)) d.p.name = F at h2 HFD
          go_wp2_with fail
          refine HNM.out.mono ?_
          rintro e w1 ⟨rfl, rfl⟩
          go_wp2_with fail
          refine HFD.out.mono ?_
          rintro e w1 ⟨rfl, rfl⟩
          go_wp2_with fail
          go_ret
          exact ⟨by rw [HR.out]; rfl, rfl⟩
        · by_cases h3 : 8 < d.p.args.length
          · have hw := whyP_6 HD.out h1 h2 h3
            have HR := Lib.hid ((HF.out k hlt HJ.out (by rw [hw]; decide)).trans hw)
            rw [h1] at HNM
            clear h1 hw
            have h3i : (8 : Int) < (d.p.args.length : Int) := by omega
            generalize findP (ds.map (·.p)) d.p.name = F at h2 HFD
            go_wp2_with fail
            refine HNM.out.mono ?_
            rintro e w1 ⟨rfl, rfl⟩
            go_wp2_with fail
            refine HFD.out.mono ?_
            rintro e w1 ⟨rfl, rfl⟩
            go_wp2_with fail
            go_ret
            exact ⟨by rw [HR.out]; rfl, rfl⟩
          · have HW7 := Lib.hid (fun m (hm : m < d.p.args.length) h4 => (HF.out k hlt HJ.out (by rw [whyP_7 HD.out h1 h2 h3 hm h4]; decide)).trans (whyP_7 HD.out h1 h2 h3 hm h4))
            have HW0 := Lib.hid (fun h4 => step_lt HJ.out (whyP_0 HD.out h1 h2 h3 h4))
            rw [h1] at HNM
            clear h1
            have h3i : (d.p.args.length : Int) ≤ 8 := by omega
            generalize findP (ds.map (·.p)) d.p.name = F at h2 HFD
            go_wp2_with fail
            refine HNM.out.mono ?_
            rintro e w1 ⟨rfl, rfl⟩
            go_wp2_with fail
            refine HFD.out.mono ?_
            rintro e w1 ⟨rfl, rfl⟩
            go_wp2_with fail
            go_loopg [4] d.p.args.length (fun gm i wr => ∃ m : Nat, m ≤ d.p.args.length ∧ i = .int .i64 m ∧ Hid (d.p.args.length - m = gm) ∧ Hid (∀ j, j < m → inB (d.p.args.getD j 0) 1 2 = true) ∧ w = wr)
            case atStart => exact ⟨0, Nat.zero_le _, rfl, Lib.hid rfl, Lib.hid (fun j h => absurd h (Nat.not_lt_zero _)), rfl⟩
            case round =>
              obtain ⟨m, hm, rfl, HGM, HI, rfl⟩ := hrel
              by_cases hml : m < d.p.args.length
              · obtain ⟨b2, o2, rfl, hb2, ht⟩ := HIR.out.at hml
                obtain ⟨t, hT⟩ : ∃ t, d.p.args.getD m 0 = t := ⟨_, rfl⟩
                rw [hT] at ht
                cases h4 : inB t 1 2 with
                | true =>
                  have HI2 := Lib.hid (step_lt (P := fun j => inB (d.p.args.getD j 0) 1 2 = true) HI.out (by rw [hT]; exact h4))
                  obtain ⟨t1, t2⟩ : 1 ≤ t ∧ t ≤ 2 := by simpa [inB] using h4
                  clear h4 hT
                  go_wp2_with fail
                  go_roundg (d.p.args.length - (m + 1))
                  case measure => have := HGM.out; omega
                  case rel => exact ⟨m + 1, by omega, by go_num, Lib.hid rfl, HI2, rfl⟩
                | false =>
                  have HR := Lib.hid (HW7.out m hml (by rw [hT]; exact h4))
                  clear hT
                  by_cases t1 : t < 1
                  · clear h4
                    go_wp2_with fail
                    go_ret
                    exact ⟨by rw [HR.out]; rfl, rfl⟩
                  · have t2 : 2 < t := by
                      have : ¬ (1 ≤ t ∧ t ≤ 2) := fun h => by rw [show inB t 1 2 = true by simp [inB, h.1, h.2]] at h4; cases h4
                      omega
                    clear h4
                    go_wp2_with fail
                    go_ret
                    exact ⟨by rw [HR.out]; rfl, rfl⟩
              · obtain rfl : m = d.p.args.length := by omega
                have HJ2 := Lib.hid (HW0.out HI.out)
                go_wp2_with fail
                go_roundg (ds.length - (k + 1))
                case measure => have := HGK.out; omega
                case rel => exact ⟨k + 1, by omega, by go_num, Lib.hid rfl, HJ2, rfl⟩
    · obtain rfl : k = ds.length := by omega
      have HR := Lib.hid (HN.out (fun j hj => HJ.out j (by rw [HML.out] at hj; exact hj)))
      go_wp2_with fail
      go_ret
      exact ⟨by rw [HR.out]; rfl, rfl⟩
end Go.Proofs.YtohibmjjhifggaaGreat

namespace Go.Proofs.YtohibmjjhifggaaGreat
open Go.RowKit
/-- A slice of predicates that lies in blocks from n on, and may be written into. -/
def FreshP (n : Nat) (w : World) (A : Option Addr) (c : Nat) (es : List Pd) : Prop :=
  PredRow w w.heap.size (.slice A es.length c) es ∧ (∀ a, A = some a → n ≤ a.block) ∧ (∀ d ∈ es, ∀ a, d.A = some a → n ≤ a.block) ∧
  (∀ b o, A = some ⟨b, o, none⟩ → ∀ i, i < es.length → w.frozen? ⟨b, o + i * 2, none⟩ = false) ∧ (∀ d ∈ es, ∀ b o, d.A = some ⟨b, o, none⟩ → ∀ k, k < d.p.args.length → w.frozen? ⟨b, o + k, none⟩ = false)
end Go.Proofs.YtohibmjjhifggaaGreat
namespace Go.Proofs.YtohibmjjhifggaaGreat
open Go.RowKit
theorem Tryz.infoIntB : (Tryz.prog.info? 3).map (fun i => (i.zero, i.size, i.bytes)) = some (some (.int .i64 0), 1, 8) := by kernel_rfl
theorem Tryz.infoPred : (Tryz.prog.info? 51).map (fun i => (i.zero, i.size, i.bytes)) = some (some (.agg #[.string ⟨#[]⟩, .slice none 0 0]), 2, 40) := by kernel_rfl
/-- The cells of predicates, one behind the other. -/
def flatD : List Pd → List Value
  | [] => []
  | d :: l => .string (strOfNums d.p.name) :: .slice d.A d.p.args.length d.c :: flatD l
theorem flatD_length : ∀ l : List Pd, (flatD l).length = l.length * 2
  | [] => rfl
  | d :: l => by
    rw [flatD, List.length_cons, List.length_cons, flatD_length l, List.length_cons]
    omega
theorem flatD_append : ∀ l m : List Pd, flatD (l ++ m) = flatD l ++ flatD m
  | [], _ => rfl
  | d :: l, m => by rw [List.cons_append, flatD, flatD, flatD_append l m, List.cons_append, List.cons_append]
theorem flatD_at : ∀ (l : List Pd) (i : Nat) (d : Pd), l[i]? = some d → (flatD l)[i * 2]? = some (.string (strOfNums d.p.name)) ∧ (flatD l)[i * 2 + 1]? = some (.slice d.A d.p.args.length d.c)
  | [], i, d, h => by simp at h
  | e :: l, 0, d, h => by
    simp only [List.getElem?_cons_zero, Option.some.injEq] at h
    subst h
    exact ⟨rfl, rfl⟩
  | e :: l, i + 1, d, h => by
    rw [List.getElem?_cons_succ] at h
    rw [flatD, show (i + 1) * 2 = i * 2 + 1 + 1 by omega, List.getElem?_cons_succ, List.getElem?_cons_succ, List.getElem?_cons_succ, List.getElem?_cons_succ]
    exact flatD_at l i d h
/-- The arguments of a predicate of the call's own. -/
def OwnA (w : World) (n : Nat) (d : Pd) : Prop := w.ownsRow n 3 1 (.slice d.A d.p.args.length d.c) d.p.args.length (d.p.args.map (.int .i64))
/-- A slice of predicates of the call's own. -/
def OwnP (w : World) (n : Nat) (v : Value) (es : List Pd) : Prop := w.ownsRow n 51 2 v es.length (flatD es) ∧ ∀ d ∈ es, OwnA w n d ∧ d.Fits
section
variable {w w' : World} {n : Nat} {v : Value} {es : List Pd}
theorem OwnP.nil (w : World) (n : Nat) : OwnP w n (.slice none 0 0) [] := ⟨World.ownsRow_nil _ _ _ _, by simp⟩
theorem OwnA.below {d : Pd} (h : OwnA w n d) (hb : Below w.heap.size w w') : OwnA w' n d := own_below h hb
theorem OwnP.below (h : OwnP w n v es) (hb : Below w.heap.size w w') : OwnP w' n v es := ⟨own_below h.1 hb, fun d hd => ⟨(h.2 d hd).1.below hb, (h.2 d hd).2⟩⟩
theorem OwnP.form (h : OwnP w n v es) : ∃ A c, v = .slice A es.length c ∧ es.length ≤ c ∧ c ≤ 9223372036854775807 := by
  rcases h.1.2 with ⟨rfl, h0⟩ | ⟨g, cap, cur, rfl, _, _, h1, h2, _⟩
  · exact ⟨none, 0, by rw [h0], by omega, by omega⟩
  · unfold maxLen at h2
    exact ⟨_, cap, rfl, h1, by omega⟩
/-- A predicate's arguments lie in another block than a row of predicates. -/
theorem own_parts {n m k : Nat} {u : Value} {us vs : List Value} {j : Nat} (h : w.ownsRow n 3 1 u k us) (h2 : w.ownsRow m 51 2 v j vs) : u.ownBlock = none ∨ u.ownBlock ≠ v.ownBlock := by
  rcases h.2 with ⟨rfl, _⟩ | ⟨g, cap, cur, rfl, _, hg, _⟩
  · exact .inl rfl
  · refine .inr fun e => ?_
    rcases h2.2 with ⟨rfl, _⟩ | ⟨g2, cap2, cur2, rfl, _, hg2, _⟩
    · simp [Value.ownBlock] at e
    · obtain rfl : g = g2 := by simpa [Value.ownBlock] using e
      rw [hg] at hg2
      injection hg2 with hg2
      injection hg2 with _ e3 _
      exact absurd e3 (by decide)
theorem OwnA.grown {d : Pd} {m j : Nat} {vs : List Value} (h : OwnA w n d) (h2 : w.ownsRow m 51 2 v j vs) (hg : w.grownBy w' v.ownBlock) : OwnA w' n d := World.ownsRow.kept h hg (own_parts h h2)
/-- What it is, read. -/
theorem OwnP.fresh {A : Option Addr} {c : Nat} (h : OwnP w n (.slice A es.length c) es) : FreshP n w A c es := by
  obtain ⟨h1, h2⟩ := h
  have hargs : ∀ d ∈ es, IRow w w.heap.size (.slice d.A d.p.args.length d.c) d.p.args ∧ d.Fits := fun d hd => ⟨VRow.of_own (h2 d hd).1, (h2 d hd).2⟩
  have hb2 : ∀ d ∈ es, ∀ a, d.A = some a → n ≤ a.block := fun d hd a e => (World.ownsRow.lt (h2 d hd).1 a.block (by rw [e]; rfl)).1
  have hfz : ∀ d ∈ es, ∀ b o, d.A = some ⟨b, o, none⟩ → ∀ k, k < d.p.args.length → w.frozen? ⟨b, o + k, none⟩ = false := by
    intro d hd b o e k _
    have h3 := (h2 d hd).1
    unfold OwnA at h3
    rw [e] at h3
    rcases h3.2 with ⟨e4, _⟩ | ⟨g, cap, cur, e4, _⟩
    · simp at e4
    · injection e4 with e5 _ e6
      injection e5 with e5
      injection e5 with e7 e8 _
      subst e7 e8 e6
      exact World.ownsRow.frozenAt h3 _
  rcases h1.2 with ⟨e, h0⟩ | ⟨g, cap, cur, e, hng, hg, q1, q2, q3, q4⟩
  · injection e with e1 e2 e3
    subst e1 e3
    have h0' : es = [] := List.eq_nil_of_length_eq_zero h0
    subst h0'
    exact ⟨PredRow.nil _ _, (fun a e => by cases e), hb2, (fun b o e => by cases e), hfz⟩
  · injection e with e1 _ e3
    subst e1 e3
    refine ⟨⟨_, _, rfl, q1, q2, by simp, fun _ => ⟨g, 0, rfl, (Array.getElem?_eq_some_iff.1 hg).1, fun i d hd => ?_⟩, hargs⟩, (fun a e => by injection e with e; subst e; exact hng), hb2, fun b o e i _ => ?_, hfz⟩
    · obtain ⟨f1, f2⟩ := flatD_at es i d hd
      have hl := (List.getElem?_eq_some_iff.1 hd).1
      rw [Nat.zero_add, World.ownsRow.cellAt h1 _ (by omega), World.ownsRow.cellAt h1 _ (by omega)]
      exact ⟨f1, f2⟩
    · injection e with e
      injection e with e1 e2 _
      subst e1 e2
      exact World.ownsRow.frozenAt h1 _
end
/-- append of numbers behind nil. -/
theorem run_append_ints {P : Program} (w : World) (base : Nat) (t ty : TypeId) (i : TypeInfo) (z : Value) (ht : P.underlying t = some (.slice 3)) (hi : P.info? 3 = some i) (hz : i.zero = some z)
    (hsize : i.size = 1) (hby : i.bytes = 8) (hzs : z.cells.size = 1) (B : Nat) (sv : Value) (xs : List Int) (hr : IRow w B sv xs) (hlen : xs.length ≤ 1000000000) (hbase : base ≤ w.heap.size) :
    ∃ A c w', (Builtin.append_ #[t, t] ty #[.slice none 0 0, sv]).run P w = .ok (.slice A xs.length c) w' ∧ w'.ownsRow base 3 1 (.slice A xs.length c) xs.length (xs.map (.int .i64)) ∧ Below w.heap.size w w' := by
  obtain ⟨A, c, rfl, h1, h2, h3, h4⟩ := hr
  rw [List.length_map] at h1 h4 ⊢
  rcases A with _ | ad
  · have hx : xs = [] := by
      rcases Nat.eq_zero_or_pos xs.length with h0 | h0
      · exact List.eq_nil_of_length_eq_zero h0
      · obtain ⟨b, o, he, _⟩ := h4 h0
        cases he
    subst hx
    obtain rfl := h3 rfl
    exact ⟨none, 0, w, run_append_owned_none w base t ty _ i 1 ht hi _ 0 [] (World.ownsRow_nil _ _ _ _), World.ownsRow_nil _ _ _ _, Below.refl _ _⟩
  · obtain ⟨v', w', q1, q2, q3, _, _⟩ := run_append_own_at (P := P) w base t ty _ i z 1 8 ht hi hz hsize hby hzs (by omega) (.slice none 0 0) 0 [] (World.ownsRow_nil _ _ _ _) ad xs.length c (xs.map (.int .i64)) (by simp) (fun j u hu => by
      have hj : j < xs.length := by
        have := (List.getElem?_eq_some_iff.1 hu).1
        simpa using this
      obtain ⟨b, o, he, _, hc⟩ := h4 (by omega)
      obtain rfl : ad = ⟨b, o, none⟩ := by injection he
      rw [← hc j u hu, Go.WideShapes.add_plain]) (fun u hu => by
      obtain ⟨x, _, rfl⟩ := List.mem_map.1 hu
      simp [Value.oneCell']) (by simp only [maxLen]; omega) (by omega) hbase
    rw [Nat.zero_add, List.nil_append] at q2
    have hform : ∃ A c, v' = .slice A xs.length c := by
      rcases q2.2 with ⟨e, h0⟩ | ⟨g, cap, cur, e, _⟩
      · exact ⟨none, 0, by rw [e, h0]⟩
      · exact ⟨_, _, e⟩
    obtain ⟨A', c', rfl⟩ := hform
    exact ⟨A', c', w', q1, q2, q3.os, q3.tape, q3.output, q3.size, fun k hk => q3.block k hk (by simp [Value.ownBlock])⟩
/-- append of a predicate behind a slice of the call's own. -/
theorem run_append_pred {P : Program} (w : World) (t ty : TypeId) (i : TypeInfo) (z : Value) (ht : P.underlying t = some (.slice 51)) (hi : P.info? 51 = some i) (hz : i.zero = some z)
    (hsize : i.size = 2) (hby : i.bytes = 40) (hzs : z.cells.size = 2) (n : Nat) (v : Value) (es : List Pd) (hs : OwnP w n v es) (ad : Addr) (c : Nat) (d : Pd)
    (hc0 : w.cell? (ad.add 0) = some (.string (strOfNums d.p.name))) (hc1 : w.cell? (ad.add 1) = some (.slice d.A d.p.args.length d.c)) (hd : OwnA w n d) (hf : d.Fits) (hlen : es.length + 1 ≤ 1000000001) (hbase : n ≤ w.heap.size) :
    ∃ v' w', (Builtin.append_ #[t, t] ty #[v, .slice (some ad) 1 c]).run P w = .ok v' w' ∧ OwnP w' n v' (es ++ [d]) ∧ w.grownBy w' v.ownBlock := by
  obtain ⟨v', w', q1, q2, q3, _, _⟩ := run_append_own_at (P := P) w n t ty _ i z 2 40 ht hi hz hsize hby hzs (by omega) v es.length (flatD es) hs.1 ad 1 c (flatD [d]) (by rw [flatD_length]; rfl) (fun j u hu => by
    match j with
    | 0 => rw [hc0]; simpa [flatD] using hu
    | 1 => rw [hc1]; simpa [flatD] using hu
    | j + 2 => simp [flatD] at hu) (fun u hu => by
    simp only [flatD, List.mem_cons, List.not_mem_nil, or_false] at hu
    rcases hu with rfl | rfl <;> rfl) (by simp only [maxLen]; omega) (by omega) hbase
  refine ⟨v', w', q1, ⟨by rw [flatD_append, List.length_append]; exact q2, fun e he => ?_⟩, q3⟩
  rcases List.mem_append.1 he with h | h
  · exact ⟨(hs.2 e h).1.grown hs.1 q3, (hs.2 e h).2⟩
  · obtain rfl : e = d := by simpa using h
    exact ⟨hd.grown hs.1 q3, hf⟩
section
variable {P : Program} {w : World} {ops : Array Oper} {o : Oper} {a : Act} {Q : Exit → Act → World → Prop} {K : Act → World → Prop} {E : Prop}
/-- The same as steps of a region that draws its order. -/
theorem step_append_ints (hgd : o.guard = none) (s x : Operand) (t : TypeId) (ho : o.op = .call { callee := .builtin .append, args := #[s, x], argTypes := #[t, t] })
    (base : Nat) (i : TypeInfo) (z : Value) (ht : P.underlying t = some (.slice 3)) (hi : P.info? 3 = some i) (hz : i.zero = some z) (hsize : i.size = 1) (hby : i.bytes = 8) (hzs : z.cells.size = 1)
    (hs : a.eval s = .slice none 0 0) (B : Nat) (sv : Value) (xs : List Int) (hx : a.eval x = sv) (hr : IRow w B sv xs) (hlen : xs.length ≤ 1000000000) (hbase : base ≤ w.heap.size) (N : Nat) (hN : xs.length = N)
    (h : ∀ A c w', w'.ownsRow base 3 1 (.slice A N c) N (xs.map (.int .i64)) → Below w.heap.size w w' → K (a.put o.dst (.slice A N c)) w') : if Region.wanted o (yielded ops a.tmps) = true then Oper.wp P o a w K Q else E := by
  have hw : Region.wanted o (yielded ops a.tmps) = true := by simp [Region.wanted, hgd]
  subst hN
  obtain ⟨A, c, w', hr, h2, h3⟩ := run_append_ints (P := P) w base t o.type i z ht hi hz hsize hby hzs B sv xs hr hlen hbase
  rw [if_pos hw]
  unfold Oper.wp execOp
  simp only [ho, resolve, invoke, builtin, Sem.run_bind, Sem.run_pure, Result.andThen_ok, List.map_toArray, List.map_cons, List.map_nil, hs, hx, hr]
  exact h A c w' h2 h3
theorem step_append_pred (hgd : o.guard = none) (s x : Operand) (t : TypeId) (ho : o.op = .call { callee := .builtin .append, args := #[s, x], argTypes := #[t, t] })
    (i : TypeInfo) (z : Value) (ht : P.underlying t = some (.slice 51)) (hi : P.info? 51 = some i) (hz : i.zero = some z) (hsize : i.size = 2) (hby : i.bytes = 40) (hzs : z.cells.size = 2)
    (n : Nat) (v : Value) (es : List Pd) (hs : a.eval s = v) (hown : OwnP w n v es) (ad : Addr) (c : Nat) (d : Pd) (hx : a.eval x = .slice (some ad) 1 c)
    (hc0 : w.cell? (ad.add 0) = some (.string (strOfNums d.p.name))) (hc1 : w.cell? (ad.add 1) = some (.slice d.A d.p.args.length d.c)) (hd : OwnA w n d) (hf : d.Fits) (hlen : es.length + 1 ≤ 1000000001) (hbase : n ≤ w.heap.size)
    (h : ∀ v' w', OwnP w' n v' (es ++ [d]) → w.grownBy w' v.ownBlock → K (a.put o.dst v') w') : if Region.wanted o (yielded ops a.tmps) = true then Oper.wp P o a w K Q else E := by
  have hw : Region.wanted o (yielded ops a.tmps) = true := by simp [Region.wanted, hgd]
  obtain ⟨v', w', hr, h2, h3⟩ := run_append_pred (P := P) w t o.type i z ht hi hz hsize hby hzs n v es hown ad c d hc0 hc1 hd hf hlen hbase
  rw [if_pos hw]
  unfold Oper.wp execOp
  simp only [ho, resolve, invoke, builtin, Sem.run_bind, Sem.run_pure, Result.andThen_ok, List.map_toArray, List.map_cons, List.map_nil, hs, hx, hr]
  exact h v' w' h2 h3
end
end Go.Proofs.YtohibmjjhifggaaGreat
namespace Go.Proofs.YtohibmjjhifggaaGreat
open Go.RowKit
theorem own_form {w : World} {n k : Nat} {e : TypeId} {size : Nat} {v : Value} {us : List Value} (h : w.ownsRow n e size v k us) : ∃ A c, v = .slice A k c := by
  rcases h.2 with ⟨rfl, rfl⟩ | ⟨g, cap, cur, rfl, _⟩
  · exact ⟨none, 0, rfl⟩
  · exact ⟨_, _, rfl⟩
theorem own_base {w : World} {n m k : Nat} {e : TypeId} {size : Nat} {v : Value} {us : List Value} (h : w.ownsRow n e size v k us) (hm : m ≤ n) : w.ownsRow m e size v k us := by
  refine ⟨h.1, ?_⟩
  rcases h.2 with h2 | ⟨g, cap, cur, q1, q2, q3⟩
  · exact .inl h2
  · exact .inr ⟨g, cap, cur, q1, Nat.le_trans hm q2, q3⟩
theorem own_low {w : World} {n m k : Nat} {e : TypeId} {size : Nat} {v : Value} {us : List Value} (h : w.ownsRow n e size v k us) (hm : m < n) : v.ownBlock ≠ some m := fun e => by
  have := (World.ownsRow.lt h m e).1
  omega
theorem own_put1 {w : World} {n m k i : Nat} {e : TypeId} {size : Nat} {v u : Value} {us : List Value} (h : w.ownsRow n e size v k us) (hm : m < n) : (w.setCell ⟨m, i, none⟩ u).ownsRow n e size v k us :=
  World.ownsRow.kept h (grown_put w m i u) (.inr (own_low h hm))
theorem below_put {w : World} {B m i : Nat} (u : Value) (hm : B ≤ m) : Below B w (w.setCell ⟨m, i, none⟩ u) := (Below.refl _ _).setCell (p := ⟨m, i, none⟩) hm u
/-- A slice of one predicate. -/
theorem row_one {w : World} {g : Nat} {d : Pd} (h : Held w g 51 #[.string (strOfNums d.p.name), .slice d.A d.p.args.length d.c]) (hr : IRow w w.heap.size (.slice d.A d.p.args.length d.c) d.p.args) (hf : d.Fits) :
    PredRow w w.heap.size (.slice (some ⟨g, 0, none⟩) [d].length 1) [d] := by
  refine ⟨_, _, rfl, Nat.le_refl _, by unfold maxLen; omega, by simp, fun _ => ⟨g, 0, rfl, h.lt, fun i e he => ?_⟩, fun e he => ?_⟩
  · match i with
    | 0 =>
      simp only [List.getElem?_cons_zero, Option.some.injEq] at he
      subst he
      exact ⟨h.cell 0, h.cell 1⟩
    | i + 1 => simp at he
  · obtain rfl : e = d := by simpa using he
    exact ⟨hr, hf⟩
end Go.Proofs.YtohibmjjhifggaaGreat
namespace Go.Proofs.YtohibmjjhifggaaGreat
open Go.RowKit
theorem drewN_low (w : World) (n : Nat) (B : Nat) : Below B w (w.drewN n) := ⟨rfl, rfl, rfl, Nat.le_refl _, fun _ _ => rfl⟩
end Go.Proofs.YtohibmjjhifggaaGreat
