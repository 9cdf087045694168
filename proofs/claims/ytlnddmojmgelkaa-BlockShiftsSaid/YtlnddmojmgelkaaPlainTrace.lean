/-
  Traces in plain numbers: why one isn't of a signature, and where; how much one has. No program here.
-/
import Derived.Test.YtlnddmojmgelkaaPlainSigs
namespace Go.Proofs.Ytlnddmojmgelkaa

/-- An argument: its type, its number, its text's bytes. -/
structure Ag where
  t : Int
  n : Int
  s : List Int
  deriving DecidableEq
instance : Inhabited Ag := ⟨⟨0, 0, []⟩⟩
/-- An event: its predicate's number, its arguments. -/
structure Ev where
  p : Int
  args : List Ag
  deriving DecidableEq
instance : Inhabited Ev := ⟨⟨0, []⟩⟩
/-- A point: its time, its events. -/
structure Pn where
  tm : Int
  evs : List Ev
  deriving DecidableEq
instance : Inhabited Pn := ⟨⟨0, []⟩⟩

/-- Why an argument may not stand where a type is asked for; 0. -/
def whyG (t : Int) (a : Ag) : Int := if a.t ≠ t then 7 else if t = 1 ∧ a.s ≠ [] then 1 else if t = 2 ∧ a.n ≠ 0 then 1 else if 200 < a.s.length then 6 else 0
/-- Why an event isn't of a signature; 0. -/
def eventT (sig : List Pr) (e : Ev) : Int :=
  if e.p < 0 ∨ (sig.length : Int) ≤ e.p then 9
  else if e.args.length ≠ (sig.getD e.p.toNat default).args.length then 1
  else firstWhy (fun i => whyG ((sig.getD e.p.toNat default).args.getD i 0) (e.args.getD i default)) e.args.length 0
/-- Why a point may not have its events; 0. -/
def whyE (sig : List Pr) (l : List Ev) : Int := if 1024 < l.length then 6 else firstWhy (fun k => eventT sig (l.getD k default)) l.length 0
def whyT (sig : List Pr) (t : List Pn) (i : Nat) : Int :=
  if 0 < i ∧ (t.getD i default).tm < (t.getD (i - 1) default).tm then 8 else whyE sig (t.getD i default).evs
/-- The first of n places from a on at which something is wrong: what, and where; (0, 0). -/
def firstBad (f : Nat → Int) : Nat → Nat → Int × Int
  | 0, _ => (0, 0)
  | n + 1, a => if f a = 0 then firstBad f n (a + 1) else (f a, (a : Int))
def checkT (sig : List Pr) (t : List Pn) : Int × Int := if checkP sig = 0 then firstBad (whyT sig t) t.length 0 else (checkP sig, 0)

theorem eventT_name {sig : List Pr} {e : Ev} (h : e.p < 0 ∨ (sig.length : Int) ≤ e.p) : eventT sig e = 9 := if_pos h
section
variable {sig : List Pr} {e : Ev} {k : Nat} {p : Pr}
theorem eventT_has (hk : e.p = (k : Int)) (hp : sig[k]? = some p) : eventT sig e = if e.args.length ≠ p.args.length then 1 else firstWhy (fun i => whyG (p.args.getD i 0) (e.args.getD i default)) e.args.length 0 := by
  have hl := (List.getElem?_eq_some_iff.1 hp).1
  unfold eventT
  rw [if_neg (by omega), hk, Int.toNat_natCast, show sig.getD k default = p by simp [List.getD, hp]]
theorem eventT_arg (hk : e.p = (k : Int)) (hp : sig[k]? = some p) (h : e.args.length ≠ p.args.length) : eventT sig e = 1 := by rw [eventT_has hk hp, if_pos h]
theorem eventT_found (hk : e.p = (k : Int)) (hp : sig[k]? = some p) (h : e.args.length = p.args.length) {r : Nat} (hr : r < e.args.length) (h3 : ∀ j, j < r → whyG (p.args.getD j 0) (e.args.getD j default) = 0) (h4 : whyG (p.args.getD r 0) (e.args.getD r default) ≠ 0) :
    eventT sig e = whyG (p.args.getD r 0) (e.args.getD r default) := by
  rw [eventT_has hk hp, if_neg (by omega)]
  exact firstWhy_found _ _ r (Nat.zero_le _) (by omega) (fun j _ hj => h3 j hj) h4
theorem eventT_none (hk : e.p = (k : Int)) (hp : sig[k]? = some p) (h : e.args.length = p.args.length) (h3 : ∀ j, j < e.args.length → whyG (p.args.getD j 0) (e.args.getD j default) = 0) : eventT sig e = 0 := by
  rw [eventT_has hk hp, if_neg (by omega)]
  exact firstWhy_none _ _ (fun j _ hj => h3 j (by omega))
end
theorem whyE_many {sig : List Pr} {l : List Ev} (h : 1024 < l.length) : whyE sig l = 6 := if_pos h
theorem whyE_found {sig : List Pr} {l : List Ev} (h : l.length ≤ 1024) {r : Nat} (hr : r < l.length) (h3 : ∀ j, j < r → eventT sig (l.getD j default) = 0) (h4 : eventT sig (l.getD r default) ≠ 0) : whyE sig l = eventT sig (l.getD r default) := by
  unfold whyE
  rw [if_neg (by omega)]
  exact firstWhy_found _ _ r (Nat.zero_le _) (by omega) (fun j _ hj => h3 j hj) h4
theorem whyE_none {sig : List Pr} {l : List Ev} (h : l.length ≤ 1024) (h3 : ∀ j, j < l.length → eventT sig (l.getD j default) = 0) : whyE sig l = 0 := by
  unfold whyE
  rw [if_neg (by omega)]
  exact firstWhy_none _ _ (fun j _ hj => h3 j (by omega))
theorem firstBad_none {f : Nat → Int} : ∀ (n a : Nat), (∀ j, a ≤ j → j < a + n → f j = 0) → firstBad f n a = (0, 0)
  | 0, _, _ => rfl
  | n + 1, a, h => by
    rw [firstBad, if_pos (h a (Nat.le_refl _) (by omega))]
    exact firstBad_none n (a + 1) fun j h1 h2 => h j (by omega) (by omega)
theorem firstBad_found {f : Nat → Int} : ∀ (n a r : Nat), a ≤ r → r < a + n → (∀ j, a ≤ j → j < r → f j = 0) → f r ≠ 0 → firstBad f n a = (f r, (r : Int))
  | 0, a, r, h1, h2, _, _ => by omega
  | n + 1, a, r, h1, h2, h3, h4 => by
    by_cases he : r = a
    · subst he
      rw [firstBad, if_neg h4]
    · rw [firstBad, if_pos (h3 a (Nat.le_refl _) (by omega))]
      exact firstBad_found n (a + 1) r (by omega) (by omega) (fun j h5 h6 => h3 j (by omega) h6) h4
theorem firstBad_zero {f : Nat → Int} : ∀ (n a : Nat), (firstBad f n a).1 = 0 → ∀ j, a ≤ j → j < a + n → f j = 0
  | 0, a, _, j, h1, h2 => by omega
  | n + 1, a, h, j, h1, h2 => by
    unfold firstBad at h
    by_cases hf : f a = 0
    · rw [if_pos hf] at h
      by_cases he : j = a
      · rw [he]; exact hf
      · exact firstBad_zero n (a + 1) h j (by omega) (by omega)
    · rw [if_neg hf] at h
      exact absurd h hf
section
variable {sig : List Pr} {t : List Pn}
theorem checkT_sig (h : checkP sig ≠ 0) : checkT sig t = (checkP sig, 0) := if_neg h
theorem checkT_found (h : checkP sig = 0) {r : Nat} (hr : r < t.length) (h3 : ∀ j, j < r → whyT sig t j = 0) (h4 : whyT sig t r ≠ 0) : checkT sig t = (whyT sig t r, (r : Int)) := by
  unfold checkT
  rw [if_pos h]
  exact firstBad_found _ _ r (Nat.zero_le _) (by omega) (fun j _ hj => h3 j hj) h4
theorem checkT_none (h : checkP sig = 0) (h3 : ∀ j, j < t.length → whyT sig t j = 0) : checkT sig t = (0, 0) := by
  unfold checkT
  rw [if_pos h]
  exact firstBad_none _ _ (fun j _ hj => h3 j (by omega))
theorem whyT_order {r : Nat} (h : 0 < r ∧ (t.getD r default).tm < (t.getD (r - 1) default).tm) : whyT sig t r = 8 := if_pos h
theorem whyT_else {r : Nat} (h : ¬ (0 < r ∧ (t.getD r default).tm < (t.getD (r - 1) default).tm)) : whyT sig t r = whyE sig (t.getD r default).evs := if_neg h
/-- A trace is of a signature just if all is right at each place. -/
theorem checkT_zero : (checkT sig t).1 = 0 ↔ checkP sig = 0 ∧ ∀ j, j < t.length → whyT sig t j = 0 := by
  constructor
  · intro h
    by_cases hs : checkP sig = 0
    · unfold checkT at h
      rw [if_pos hs] at h
      exact ⟨hs, fun j hj => firstBad_zero _ _ h j (Nat.zero_le _) (by omega)⟩
    · rw [checkT_sig hs] at h
      exact absurd h hs
  · rintro ⟨hs, h⟩
    rw [checkT_none hs h]
/-- Its first points are. -/
theorem checkT_take (h : (checkT sig t).1 = 0) (k : Nat) : checkT sig (t.take k) = (0, 0) := by
  obtain ⟨hs, ha⟩ := checkT_zero.1 h
  refine checkT_none hs fun j hj => ?_
  rw [List.length_take] at hj
  have := ha j (by omega)
  unfold whyT at this ⊢
  have e : ∀ i, i < k → (t.take k).getD i default = t.getD i default := fun i hi => by simp [List.getD, hi]
  rwa [e j (by omega), e (j - 1) (by omega)]
/-- So are its last ones. -/
theorem checkT_drop (h : (checkT sig t).1 = 0) (k : Nat) : checkT sig (t.drop k) = (0, 0) := by
  obtain ⟨hs, ha⟩ := checkT_zero.1 h
  refine checkT_none hs fun j hj => ?_
  rw [List.length_drop] at hj
  have := ha (k + j) (by omega)
  have e : ∀ i, (t.drop k).getD i default = t.getD (k + i) default := fun i => by simp [List.getD, List.getElem?_drop]
  by_cases h0 : 0 < j
  · unfold whyT at this ⊢
    rw [e j, e (j - 1), show k + (j - 1) = k + j - 1 by omega]
    by_cases hc : (t.getD (k + j) default).tm < (t.getD (k + j - 1) default).tm
    · rw [if_pos ⟨by omega, hc⟩] at this
      cases this
    · rw [if_neg (by omega)] at this ⊢
      exact this
  · rw [whyT_else (by omega), e j]
    by_cases hc : 0 < k + j ∧ (t.getD (k + j) default).tm < (t.getD (k + j - 1) default).tm
    · rw [whyT_order hc] at this
      cases this
    · rw [whyT_else hc] at this
      exact this
/-- With a point whose time is below the last one's it isn't. -/
theorem checkT_less (h : (checkT sig t).1 = 0) {q : Pn} (hp : 0 < t.length) (hq : q.tm < (t.getD (t.length - 1) default).tm) : checkT sig (t ++ [q]) = (8, (t.length : Int)) := by
  obtain ⟨hs, ha⟩ := checkT_zero.1 h
  have e : ∀ i, i < t.length → (t ++ [q]).getD i default = t.getD i default := fun i hi => by simp [List.getD, List.getElem?_append_left hi]
  have e2 : (t ++ [q]).getD t.length default = q := by simp [List.getD]
  have h8 : whyT sig (t ++ [q]) t.length = 8 := whyT_order ⟨hp, by rw [e2, e _ (by omega)]; exact hq⟩
  rw [checkT_found hs (r := t.length) (by simp) (fun j hj => ?_) (by rw [h8]; decide), h8]
  have := ha j hj
  unfold whyT at this ⊢
  rwa [e j hj, e (j - 1) (by omega)]
end

/-- All events, all arguments, all bytes. -/
def evsL (t : List Pn) : List Ev := t.flatMap (·.evs)
def agsL (l : List Ev) : List Ag := l.flatMap (·.args)
def sumS : List Ag → Nat
  | [] => 0
  | a :: l => a.s.length + sumS l
theorem sumS_append : ∀ l m : List Ag, sumS (l ++ m) = sumS l + sumS m
  | [], m => by simp [sumS]
  | a :: l, m => by simp only [List.cons_append, sumS, sumS_append l m]; omega
theorem evsL_append (t u : List Pn) : evsL (t ++ u) = evsL t ++ evsL u := by simp [evsL]
theorem agsL_append (t u : List Ev) : agsL (t ++ u) = agsL t ++ agsL u := by simp [agsL]
theorem parts_count (t : List Pn) (k : Nat) : (evsL (t.take k)).length + (evsL (t.drop k)).length = (evsL t).length ∧ (agsL (evsL (t.take k))).length + (agsL (evsL (t.drop k))).length = (agsL (evsL t)).length ∧
    sumS (agsL (evsL (t.take k))) + sumS (agsL (evsL (t.drop k))) = sumS (agsL (evsL t)) := by
  have e := List.take_append_drop k t
  have e1 : evsL t = evsL (t.take k) ++ evsL (t.drop k) := by rw [← evsL_append, e]
  have e2 : agsL (evsL t) = agsL (evsL (t.take k)) ++ agsL (evsL (t.drop k)) := by rw [e1, agsL_append]
  refine ⟨by rw [e1, List.length_append], by rw [e2, List.length_append], by rw [e2, sumS_append]⟩
#print axioms checkT_less
end Go.Proofs.Ytlnddmojmgelkaa
