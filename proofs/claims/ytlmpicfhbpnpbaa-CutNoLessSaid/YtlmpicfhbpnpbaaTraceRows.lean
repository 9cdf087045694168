/-
  Traces in plain numbers: why one isn't of a signature, and where; how much one has. Traces in memory: what a slice of points, of events, of arguments reads as, and how that is kept; one that came in. No program here.
-/
import Derived.Test.YtlmpicfhbpnpbaaPlainSigs
import Derived.Test.YtlmpicfhbpnpbaaPreds
import Derived.Test.YtlmpicfhbpnpbaaPredRows
namespace Go.Proofs.Ytlmpicfhbpnpbaa

/-- An argument: its type, its number, its text's bytes. -/
structure Ag where
  t : Int
  n : Int
  s : List Int
  deriving DecidableEq
instance : Inhabited Ag := ⟨⟨0, 0, []⟩⟩
/-- An event: its predicate's number, its arguments. -/
structure Ev where
  p : Int
  args : List Ag
  deriving DecidableEq
instance : Inhabited Ev := ⟨⟨0, []⟩⟩
/-- A point: its time, its events. -/
structure Pn where
  tm : Int
  evs : List Ev
  deriving DecidableEq
instance : Inhabited Pn := ⟨⟨0, []⟩⟩

/-- Why an argument may not stand where a type is asked for; 0. -/
def whyG (t : Int) (a : Ag) : Int := if a.t ≠ t then 7 else if t = 1 ∧ a.s ≠ [] then 1 else if t = 2 ∧ a.n ≠ 0 then 1 else if 200 < a.s.length then 6 else 0
/-- Why an event isn't of a signature; 0. -/
def eventT (sig : List Pr) (e : Ev) : Int :=
  if e.p < 0 ∨ (sig.length : Int) ≤ e.p then 9
  else if e.args.length ≠ (sig.getD e.p.toNat default).args.length then 1
  else firstWhy (fun i => whyG ((sig.getD e.p.toNat default).args.getD i 0) (e.args.getD i default)) e.args.length 0
/-- Why a point may not have its events; 0. -/
def whyE (sig : List Pr) (l : List Ev) : Int := if 1024 < l.length then 6 else firstWhy (fun k => eventT sig (l.getD k default)) l.length 0
def whyT (sig : List Pr) (t : List Pn) (i : Nat) : Int :=
  if 0 < i ∧ (t.getD i default).tm < (t.getD (i - 1) default).tm then 8 else whyE sig (t.getD i default).evs
/-- The first of n places from a on at which something is wrong: what, and where; (0, 0). -/
def firstBad (f : Nat → Int) : Nat → Nat → Int × Int
  | 0, _ => (0, 0)
  | n + 1, a => if f a = 0 then firstBad f n (a + 1) else (f a, (a : Int))
def checkT (sig : List Pr) (t : List Pn) : Int × Int := if checkP sig = 0 then firstBad (whyT sig t) t.length 0 else (checkP sig, 0)

theorem eventT_name {sig : List Pr} {e : Ev} (h : e.p < 0 ∨ (sig.length : Int) ≤ e.p) : eventT sig e = 9 := if_pos h
section
variable {sig : List Pr} {e : Ev} {k : Nat} {p : Pr}
theorem eventT_has (hk : e.p = (k : Int)) (hp : sig[k]? = some p) : eventT sig e = if e.args.length ≠ p.args.length then 1 else firstWhy (fun i => whyG (p.args.getD i 0) (e.args.getD i default)) e.args.length 0 := by
  have hl := (List.getElem?_eq_some_iff.1 hp).1
  unfold eventT
  rw [if_neg (by omega), hk, Int.toNat_natCast, show sig.getD k default = p by simp [List.getD, hp]]
theorem eventT_arg (hk : e.p = (k : Int)) (hp : sig[k]? = some p) (h : e.args.length ≠ p.args.length) : eventT sig e = 1 := by rw [eventT_has hk hp, if_pos h]
theorem eventT_found (hk : e.p = (k : Int)) (hp : sig[k]? = some p) (h : e.args.length = p.args.length) {r : Nat} (hr : r < e.args.length) (h3 : ∀ j, j < r → whyG (p.args.getD j 0) (e.args.getD j default) = 0) (h4 : whyG (p.args.getD r 0) (e.args.getD r default) ≠ 0) :
    eventT sig e = whyG (p.args.getD r 0) (e.args.getD r default) := by
  rw [eventT_has hk hp, if_neg (by omega)]
  exact firstWhy_found _ _ r (Nat.zero_le _) (by omega) (fun j _ hj => h3 j hj) h4
theorem eventT_none (hk : e.p = (k : Int)) (hp : sig[k]? = some p) (h : e.args.length = p.args.length) (h3 : ∀ j, j < e.args.length → whyG (p.args.getD j 0) (e.args.getD j default) = 0) : eventT sig e = 0 := by
  rw [eventT_has hk hp, if_neg (by omega)]
  exact firstWhy_none _ _ (fun j _ hj => h3 j (by omega))
end
theorem whyE_many {sig : List Pr} {l : List Ev} (h : 1024 < l.length) : whyE sig l = 6 := if_pos h
theorem whyE_found {sig : List Pr} {l : List Ev} (h : l.length ≤ 1024) {r : Nat} (hr : r < l.length) (h3 : ∀ j, j < r → eventT sig (l.getD j default) = 0) (h4 : eventT sig (l.getD r default) ≠ 0) : whyE sig l = eventT sig (l.getD r default) := by
  unfold whyE
  rw [if_neg (by omega)]
  exact firstWhy_found _ _ r (Nat.zero_le _) (by omega) (fun j _ hj => h3 j hj) h4
theorem whyE_none {sig : List Pr} {l : List Ev} (h : l.length ≤ 1024) (h3 : ∀ j, j < l.length → eventT sig (l.getD j default) = 0) : whyE sig l = 0 := by
  unfold whyE
  rw [if_neg (by omega)]
  exact firstWhy_none _ _ (fun j _ hj => h3 j (by omega))
theorem firstBad_none {f : Nat → Int} : ∀ (n a : Nat), (∀ j, a ≤ j → j < a + n → f j = 0) → firstBad f n a = (0, 0)
  | 0, _, _ => rfl
  | n + 1, a, h => by
    rw [firstBad, if_pos (h a (Nat.le_refl _) (by omega))]
    exact firstBad_none n (a + 1) fun j h1 h2 => h j (by omega) (by omega)
theorem firstBad_found {f : Nat → Int} : ∀ (n a r : Nat), a ≤ r → r < a + n → (∀ j, a ≤ j → j < r → f j = 0) → f r ≠ 0 → firstBad f n a = (f r, (r : Int))
  | 0, a, r, h1, h2, _, _ => by omega
  | n + 1, a, r, h1, h2, h3, h4 => by
    by_cases he : r = a
    · subst he
      rw [firstBad, if_neg h4]
    · rw [firstBad, if_pos (h3 a (Nat.le_refl _) (by omega))]
      exact firstBad_found n (a + 1) r (by omega) (by omega) (fun j h5 h6 => h3 j (by omega) h6) h4
theorem firstBad_zero {f : Nat → Int} : ∀ (n a : Nat), (firstBad f n a).1 = 0 → ∀ j, a ≤ j → j < a + n → f j = 0
  | 0, a, _, j, h1, h2 => by omega
  | n + 1, a, h, j, h1, h2 => by
    unfold firstBad at h
    by_cases hf : f a = 0
    · rw [if_pos hf] at h
      by_cases he : j = a
      · rw [he]; exact hf
      · exact firstBad_zero n (a + 1) h j (by omega) (by omega)
    · rw [if_neg hf] at h
      exact absurd h hf
section
variable {sig : List Pr} {t : List Pn}
theorem checkT_sig (h : checkP sig ≠ 0) : checkT sig t = (checkP sig, 0) := if_neg h
theorem checkT_found (h : checkP sig = 0) {r : Nat} (hr : r < t.length) (h3 : ∀ j, j < r → whyT sig t j = 0) (h4 : whyT sig t r ≠ 0) : checkT sig t = (whyT sig t r, (r : Int)) := by
  unfold checkT
  rw [if_pos h]
  exact firstBad_found _ _ r (Nat.zero_le _) (by omega) (fun j _ hj => h3 j hj) h4
theorem checkT_none (h : checkP sig = 0) (h3 : ∀ j, j < t.length → whyT sig t j = 0) : checkT sig t = (0, 0) := by
  unfold checkT
  rw [if_pos h]
  exact firstBad_none _ _ (fun j _ hj => h3 j (by omega))
theorem whyT_order {r : Nat} (h : 0 < r ∧ (t.getD r default).tm < (t.getD (r - 1) default).tm) : whyT sig t r = 8 := if_pos h
theorem whyT_else {r : Nat} (h : ¬ (0 < r ∧ (t.getD r default).tm < (t.getD (r - 1) default).tm)) : whyT sig t r = whyE sig (t.getD r default).evs := if_neg h
/-- A trace is of a signature just if all is right at each place. -/
theorem checkT_zero : (checkT sig t).1 = 0 ↔ checkP sig = 0 ∧ ∀ j, j < t.length → whyT sig t j = 0 := by
  constructor
  · intro h
    by_cases hs : checkP sig = 0
    · unfold checkT at h
      rw [if_pos hs] at h
      exact ⟨hs, fun j hj => firstBad_zero _ _ h j (Nat.zero_le _) (by omega)⟩
    · rw [checkT_sig hs] at h
      exact absurd h hs
  · rintro ⟨hs, h⟩
    rw [checkT_none hs h]
/-- Its first points are. -/
theorem checkT_take (h : (checkT sig t).1 = 0) (k : Nat) : checkT sig (t.take k) = (0, 0) := by
  obtain ⟨hs, ha⟩ := checkT_zero.1 h
  refine checkT_none hs fun j hj => ?_
  rw [List.length_take] at hj
  have := ha j (by omega)
  unfold whyT at this ⊢
  have e : ∀ i, i < k → (t.take k).getD i default = t.getD i default := fun i hi => by simp [List.getD, hi]
  rwa [e j (by omega), e (j - 1) (by omega)]
/-- So are its last ones. -/
theorem checkT_drop (h : (checkT sig t).1 = 0) (k : Nat) : checkT sig (t.drop k) = (0, 0) := by
  obtain ⟨hs, ha⟩ := checkT_zero.1 h
  refine checkT_none hs fun j hj => ?_
  rw [List.length_drop] at hj
  have := ha (k + j) (by omega)
  have e : ∀ i, (t.drop k).getD i default = t.getD (k + i) default := fun i => by simp [List.getD, List.getElem?_drop]
  by_cases h0 : 0 < j
  · unfold whyT at this ⊢
    rw [e j, e (j - 1), show k + (j - 1) = k + j - 1 by omega]
    by_cases hc : (t.getD (k + j) default).tm < (t.getD (k + j - 1) default).tm
    · rw [if_pos ⟨by omega, hc⟩] at this
      cases this
    · rw [if_neg (by omega)] at this ⊢
      exact this
  · rw [whyT_else (by omega), e j]
    by_cases hc : 0 < k + j ∧ (t.getD (k + j) default).tm < (t.getD (k + j - 1) default).tm
    · rw [whyT_order hc] at this
      cases this
    · rw [whyT_else hc] at this
      exact this
/-- With a point whose time is below the last one's it isn't. -/
theorem checkT_less (h : (checkT sig t).1 = 0) {q : Pn} (hp : 0 < t.length) (hq : q.tm < (t.getD (t.length - 1) default).tm) : checkT sig (t ++ [q]) = (8, (t.length : Int)) := by
  obtain ⟨hs, ha⟩ := checkT_zero.1 h
  have e : ∀ i, i < t.length → (t ++ [q]).getD i default = t.getD i default := fun i hi => by simp [List.getD, List.getElem?_append_left hi]
  have e2 : (t ++ [q]).getD t.length default = q := by simp [List.getD]
  have h8 : whyT sig (t ++ [q]) t.length = 8 := whyT_order ⟨hp, by rw [e2, e _ (by omega)]; exact hq⟩
  rw [checkT_found hs (r := t.length) (by simp) (fun j hj => ?_) (by rw [h8]; decide), h8]
  have := ha j hj
  unfold whyT at this ⊢
  rwa [e j hj, e (j - 1) (by omega)]
end

/-- All events, all arguments, all bytes. -/
def evsL (t : List Pn) : List Ev := t.flatMap (·.evs)
def agsL (l : List Ev) : List Ag := l.flatMap (·.args)
def sumS : List Ag → Nat
  | [] => 0
  | a :: l => a.s.length + sumS l
theorem sumS_append : ∀ l m : List Ag, sumS (l ++ m) = sumS l + sumS m
  | [], m => by simp [sumS]
  | a :: l, m => by simp only [List.cons_append, sumS, sumS_append l m]; omega
theorem evsL_append (t u : List Pn) : evsL (t ++ u) = evsL t ++ evsL u := by simp [evsL]
theorem agsL_append (t u : List Ev) : agsL (t ++ u) = agsL t ++ agsL u := by simp [agsL]
theorem parts_count (t : List Pn) (k : Nat) : (evsL (t.take k)).length + (evsL (t.drop k)).length = (evsL t).length ∧ (agsL (evsL (t.take k))).length + (agsL (evsL (t.drop k))).length = (agsL (evsL t)).length ∧
    sumS (agsL (evsL (t.take k))) + sumS (agsL (evsL (t.drop k))) = sumS (agsL (evsL t)) := by
  have e := List.take_append_drop k t
  have e1 : evsL t = evsL (t.take k) ++ evsL (t.drop k) := by rw [← evsL_append, e]
  have e2 : agsL (evsL t) = agsL (evsL (t.take k)) ++ agsL (evsL (t.drop k)) := by rw [e1, agsL_append]
  refine ⟨by rw [e1, List.length_append], by rw [e2, List.length_append], by rw [e2, sumS_append]⟩
#print axioms checkT_less
end Go.Proofs.Ytlmpicfhbpnpbaa

namespace Go.Proofs.Ytlmpicfhbpnpbaa
open Go.RowKit Go.ChangeShapes Go.WideShapes

/-- The slice value v has n elements, whose cells are us, one behind the other. -/
def ERow (w : World) (B : Nat) (v : Value) (n : Nat) (us : List Value) : Prop :=
  ∃ A c, v = .slice A n c ∧ n ≤ c ∧ c ≤ maxLen ∧ (A = none → c = 0) ∧ (0 < n → ∃ b o, A = some ⟨b, o, none⟩ ∧ b < B ∧ ∀ i u, us[i]? = some u → w.cell? ⟨b, o + i, none⟩ = some u)
section
variable {w w' : World} {B B' n : Nat} {v : Value} {us : List Value}
theorem ERow.keep (h : ERow w B v n us) (hk : ∀ p : Addr, p.block < B → w'.cell? p = w.cell? p) : ERow w' B v n us := by
  obtain ⟨A, c, hv, h1, h2, h3, h4⟩ := h
  refine ⟨A, c, hv, h1, h2, h3, fun hn => ?_⟩
  obtain ⟨b, o, e, hlt, hc⟩ := h4 hn
  exact ⟨b, o, e, hlt, fun i u hi => (hk ⟨b, o + i, none⟩ hlt).trans (hc i u hi)⟩
theorem ERow.below (h : ERow w B v n us) (hb : Below B w w') : ERow w' B v n us := h.keep fun _ hp => hb.cell hp
theorem ERow.more (h : ERow w B v n us) (hB : B ≤ B') : ERow w B' v n us := by
  obtain ⟨A, c, hv, h1, h2, h3, h4⟩ := h
  refine ⟨A, c, hv, h1, h2, h3, fun hn => ?_⟩
  obtain ⟨b, o, e, hlt, hc⟩ := h4 hn
  exact ⟨b, o, e, Nat.lt_of_lt_of_le hlt hB, hc⟩
theorem ERow.nil (w : World) (B : Nat) : ERow w B (.slice none 0 0) 0 [] := ⟨none, 0, rfl, Nat.le_refl _, Nat.zero_le _, fun _ => rfl, fun h => absurd h (by simp)⟩
theorem ERow.form (h : ERow w B v n us) : ∃ A c, v = .slice A n c ∧ n ≤ c ∧ c ≤ 9223372036854775807 := by
  obtain ⟨A, c, hv, h1, h2, _⟩ := h
  unfold maxLen at h2
  exact ⟨A, c, hv, h1, by omega⟩
theorem ERow.len {A : Option Addr} {m c : Nat} (h : ERow w B (.slice A m c) n us) : m = n ∧ n ≤ c ∧ c ≤ 9223372036854775807 := by
  obtain ⟨A', c', hv, h1, h2⟩ := h.form
  injection hv with _ e2 e3
  exact ⟨e2, by omega, by omega⟩
theorem ERow.block {A : Option Addr} {m c : Nat} (h : ERow w B (.slice A m c) n us) (hn : 0 < n) : ∃ b o, A = some ⟨b, o, none⟩ ∧ b < B ∧ ∀ i u, us[i]? = some u → w.cell? ⟨b, o + i, none⟩ = some u := by
  obtain ⟨A', c', hv, _, _, _, h4⟩ := h
  injection hv with e1 _ _
  obtain ⟨b, o, e, r⟩ := h4 hn
  exact ⟨b, o, e1.trans e, r⟩
theorem ERow.of_own {base k : Nat} {e : TypeId} (h : w.ownsRow base e k v n us) : ERow w w.heap.size v n us := by
  rcases h.2 with ⟨rfl, rfl⟩ | ⟨g, cap, cur, rfl, _, hg, q1, q2, _⟩
  · exact ⟨none, 0, rfl, Nat.le_refl _, Nat.zero_le _, fun _ => rfl, fun h => absurd h (by simp)⟩
  · refine ⟨_, cap, rfl, q1, q2, by simp, fun _ => ⟨g, 0, rfl, (Array.getElem?_eq_some_iff.1 hg).1, fun i u hi => ?_⟩⟩
    have hl := (List.getElem?_eq_some_iff.1 hi).1
    rw [h.1] at hl
    rw [Nat.zero_add, World.ownsRow.cellAt h i hl]
    exact hi
end

def cellsG (a : Ag) : List Value := [.int .i64 a.t, .int .i64 a.n, .string (strOfNums a.s)]
def flatG : List Ag → List Value
  | [] => []
  | a :: l => .int .i64 a.t :: .int .i64 a.n :: .string (strOfNums a.s) :: flatG l
/-- An event, and where its arguments lie. -/
structure Em where
  p : Int
  args : List Ag
  A : Option Addr
  c : Nat
abbrev Em.e (d : Em) : Ev := ⟨d.p, d.args⟩
abbrev Em.val (d : Em) : Value := .agg #[.int .i64 d.p, .slice d.A d.args.length d.c]
def flatE : List Em → List Value
  | [] => []
  | d :: l => .int .i64 d.p :: .slice d.A d.args.length d.c :: flatE l
/-- A point, and where its events lie. -/
structure Pm where
  tm : Int
  evs : List Em
  A : Option Addr
  c : Nat
abbrev Pm.p (d : Pm) : Pn := ⟨d.tm, d.evs.map (·.e)⟩
abbrev Pm.val (d : Pm) : Value := .agg #[.int .u64 d.tm, .slice d.A d.evs.length d.c]
def flatN : List Pm → List Value
  | [] => []
  | d :: l => .int .u64 d.tm :: .slice d.A d.evs.length d.c :: flatN l
abbrev Ag.val (a : Ag) : Value := .agg #[.int .i64 a.t, .int .i64 a.n, .string (strOfNums a.s)]

theorem flatG_length : ∀ l : List Ag, (flatG l).length = l.length * 3
  | [] => rfl
  | a :: l => by simp only [flatG, List.length_cons, flatG_length l]; omega
theorem flatE_length : ∀ l : List Em, (flatE l).length = l.length * 2
  | [] => rfl
  | a :: l => by simp only [flatE, List.length_cons, flatE_length l]; omega
theorem flatN_length : ∀ l : List Pm, (flatN l).length = l.length * 2
  | [] => rfl
  | a :: l => by simp only [flatN, List.length_cons, flatN_length l]; omega
theorem flatG_append : ∀ l m : List Ag, flatG (l ++ m) = flatG l ++ flatG m
  | [], _ => rfl
  | a :: l, m => by simp only [List.cons_append, flatG, flatG_append l m]
theorem flatE_append : ∀ l m : List Em, flatE (l ++ m) = flatE l ++ flatE m
  | [], _ => rfl
  | a :: l, m => by simp only [List.cons_append, flatE, flatE_append l m]
theorem flatN_append : ∀ l m : List Pm, flatN (l ++ m) = flatN l ++ flatN m
  | [], _ => rfl
  | a :: l, m => by simp only [List.cons_append, flatN, flatN_append l m]
theorem flatG_at : ∀ (l : List Ag) (i : Nat) (a : Ag), l[i]? = some a → (flatG l)[i * 3]? = some (.int .i64 a.t) ∧ (flatG l)[i * 3 + 1]? = some (.int .i64 a.n) ∧ (flatG l)[i * 3 + 2]? = some (.string (strOfNums a.s))
  | [], i, d, h => by simp at h
  | e :: l, 0, d, h => by
    simp only [List.getElem?_cons_zero, Option.some.injEq] at h
    subst h
    exact ⟨rfl, rfl, rfl⟩
  | e :: l, i + 1, d, h => by
    rw [List.getElem?_cons_succ] at h
    rw [flatG, show (i + 1) * 3 = i * 3 + 1 + 1 + 1 by omega]
    simp only [List.getElem?_cons_succ]
    exact flatG_at l i d h
theorem flatE_at : ∀ (l : List Em) (i : Nat) (d : Em), l[i]? = some d → (flatE l)[i * 2]? = some (.int .i64 d.p) ∧ (flatE l)[i * 2 + 1]? = some (.slice d.A d.args.length d.c)
  | [], i, d, h => by simp at h
  | e :: l, 0, d, h => by
    simp only [List.getElem?_cons_zero, Option.some.injEq] at h
    subst h
    exact ⟨rfl, rfl⟩
  | e :: l, i + 1, d, h => by
    rw [List.getElem?_cons_succ] at h
    rw [flatE, show (i + 1) * 2 = i * 2 + 1 + 1 by omega, List.getElem?_cons_succ, List.getElem?_cons_succ, List.getElem?_cons_succ, List.getElem?_cons_succ]
    exact flatE_at l i d h
theorem flatN_at : ∀ (l : List Pm) (i : Nat) (d : Pm), l[i]? = some d → (flatN l)[i * 2]? = some (.int .u64 d.tm) ∧ (flatN l)[i * 2 + 1]? = some (.slice d.A d.evs.length d.c)
  | [], i, d, h => by simp at h
  | e :: l, 0, d, h => by
    simp only [List.getElem?_cons_zero, Option.some.injEq] at h
    subst h
    exact ⟨rfl, rfl⟩
  | e :: l, i + 1, d, h => by
    rw [List.getElem?_cons_succ] at h
    rw [flatN, show (i + 1) * 2 = i * 2 + 1 + 1 by omega, List.getElem?_cons_succ, List.getElem?_cons_succ, List.getElem?_cons_succ, List.getElem?_cons_succ]
    exact flatN_at l i d h

def Ag.Fits (a : Ag) : Prop := a.s.length ≤ maxLen ∧ (∀ x ∈ a.s, 0 ≤ x ∧ x < 256) ∧ (-9223372036854775808 ≤ a.t ∧ a.t ≤ 9223372036854775807) ∧ (-9223372036854775808 ≤ a.n ∧ a.n ≤ 9223372036854775807)
/-- The slice value reads as these arguments. -/
def GRow (w : World) (B : Nat) (v : Value) (l : List Ag) : Prop := ERow w B v l.length (flatG l) ∧ ∀ a ∈ l, a.Fits
def Em.Fits (d : Em) : Prop := -9223372036854775808 ≤ d.p ∧ d.p ≤ 9223372036854775807
/-- What an event's parts are in memory. -/
def Em.Ok (w : World) (B : Nat) (d : Em) : Prop := GRow w B (.slice d.A d.args.length d.c) d.args ∧ d.Fits
/-- The slice value reads as these events. -/
def EvRow (w : World) (B : Nat) (v : Value) (l : List Em) : Prop := ERow w B v l.length (flatE l) ∧ ∀ d ∈ l, d.Ok w B
def Pm.Fits (d : Pm) : Prop := 0 ≤ d.tm ∧ d.tm < 18446744073709551616
def Pm.Ok (w : World) (B : Nat) (d : Pm) : Prop := EvRow w B (.slice d.A d.evs.length d.c) d.evs ∧ d.Fits
/-- The slice value reads as these points. -/
def TrRow (w : World) (B : Nat) (v : Value) (l : List Pm) : Prop := ERow w B v l.length (flatN l) ∧ ∀ d ∈ l, d.Ok w B

section
variable {w w' : World} {B B' : Nat} {v : Value}
theorem GRow.below {l : List Ag} (h : GRow w B v l) (hb : Below B w w') : GRow w' B v l := ⟨h.1.below hb, h.2⟩
theorem GRow.more {l : List Ag} (h : GRow w B v l) (hB : B ≤ B') : GRow w B' v l := ⟨h.1.more hB, h.2⟩
theorem Em.Ok.below {d : Em} (h : d.Ok w B) (hb : Below B w w') : d.Ok w' B := ⟨h.1.below hb, h.2⟩
theorem Em.Ok.more {d : Em} (h : d.Ok w B) (hB : B ≤ B') : d.Ok w B' := ⟨h.1.more hB, h.2⟩
theorem EvRow.below {l : List Em} (h : EvRow w B v l) (hb : Below B w w') : EvRow w' B v l := ⟨h.1.below hb, fun d hd => (h.2 d hd).below hb⟩
theorem EvRow.more {l : List Em} (h : EvRow w B v l) (hB : B ≤ B') : EvRow w B' v l := ⟨h.1.more hB, fun d hd => (h.2 d hd).more hB⟩
theorem Pm.Ok.below {d : Pm} (h : d.Ok w B) (hb : Below B w w') : d.Ok w' B := ⟨h.1.below hb, h.2⟩
theorem Pm.Ok.more {d : Pm} (h : d.Ok w B) (hB : B ≤ B') : d.Ok w B' := ⟨h.1.more hB, h.2⟩
theorem TrRow.below {l : List Pm} (h : TrRow w B v l) (hb : Below B w w') : TrRow w' B v l := ⟨h.1.below hb, fun d hd => (h.2 d hd).below hb⟩
theorem TrRow.more {l : List Pm} (h : TrRow w B v l) (hB : B ≤ B') : TrRow w B' v l := ⟨h.1.more hB, fun d hd => (h.2 d hd).more hB⟩
theorem TrRow.nil (w : World) (B : Nat) : TrRow w B (.slice none 0 0) [] := ⟨ERow.nil _ _, by simp⟩
theorem TrRow.form {l : List Pm} (h : TrRow w B v l) : ∃ A c, v = .slice A l.length c ∧ l.length ≤ c ∧ c ≤ 9223372036854775807 := h.1.form
/-- The cells of an argument, of an event, of a point. -/
theorem GRow.at {A : Option Addr} {n c : Nat} {l : List Ag} (h : GRow w B (.slice A n c) l) {i : Nat} {a : Ag} (ha : l[i]? = some a) : ∃ b o, A = some ⟨b, o, none⟩ ∧ b < B ∧
    w.cell? ⟨b, o + i * 3, none⟩ = some (.int .i64 a.t) ∧ w.cell? ⟨b, o + i * 3 + 1, none⟩ = some (.int .i64 a.n) ∧ w.cell? ⟨b, o + i * 3 + 2, none⟩ = some (.string (strOfNums a.s)) ∧ a.Fits := by
  have hlt := (List.getElem?_eq_some_iff.1 ha).1
  obtain ⟨b, o, e, hb, hc⟩ := h.1.block (by omega)
  obtain ⟨f0, f1, f2⟩ := flatG_at l i a ha
  exact ⟨b, o, e, hb, hc _ _ f0, hc _ _ f1, hc _ _ f2, h.2 a (List.mem_of_getElem? ha)⟩
theorem EvRow.at {A : Option Addr} {n c : Nat} {l : List Em} (h : EvRow w B (.slice A n c) l) {i : Nat} {d : Em} (hd : l[i]? = some d) : ∃ b o, A = some ⟨b, o, none⟩ ∧ b < B ∧
    w.cell? ⟨b, o + i * 2, none⟩ = some (.int .i64 d.p) ∧ w.cell? ⟨b, o + i * 2 + 1, none⟩ = some (.slice d.A d.args.length d.c) ∧ d.Ok w B ∧ d.args.length ≤ d.c ∧ d.c ≤ 9223372036854775807 := by
  have hlt := (List.getElem?_eq_some_iff.1 hd).1
  obtain ⟨b, o, e, hb, hc⟩ := h.1.block (by omega)
  obtain ⟨f0, f1⟩ := flatE_at l i d hd
  have hk := h.2 d (List.mem_of_getElem? hd)
  obtain ⟨_, l1, l2⟩ := hk.1.1.len
  exact ⟨b, o, e, hb, hc _ _ f0, hc _ _ f1, hk, l1, l2⟩
theorem TrRow.at {A : Option Addr} {n c : Nat} {l : List Pm} (h : TrRow w B (.slice A n c) l) {i : Nat} {d : Pm} (hd : l[i]? = some d) : ∃ b o, A = some ⟨b, o, none⟩ ∧ b < B ∧
    w.cell? ⟨b, o + i * 2, none⟩ = some (.int .u64 d.tm) ∧ w.cell? ⟨b, o + i * 2 + 1, none⟩ = some (.slice d.A d.evs.length d.c) ∧ d.Ok w B ∧ d.evs.length ≤ d.c ∧ d.c ≤ 9223372036854775807 := by
  have hlt := (List.getElem?_eq_some_iff.1 hd).1
  obtain ⟨b, o, e, hb, hc⟩ := h.1.block (by omega)
  obtain ⟨f0, f1⟩ := flatN_at l i d hd
  have hk := h.2 d (List.mem_of_getElem? hd)
  obtain ⟨_, l1, l2⟩ := hk.1.1.len
  exact ⟨b, o, e, hb, hc _ _ f0, hc _ _ f1, hk, l1, l2⟩
theorem flatN_take : ∀ (l : List Pm) (k : Nat), flatN (l.take k) = (flatN l).take (k * 2)
  | [], k => by simp [flatN]
  | d :: l, 0 => by simp [flatN]
  | d :: l, k + 1 => by rw [List.take_succ_cons, flatN, flatN, flatN_take l k, show (k + 1) * 2 = k * 2 + 1 + 1 by omega, List.take_succ_cons, List.take_succ_cons]
theorem flatN_drop : ∀ (l : List Pm) (k : Nat), flatN (l.drop k) = (flatN l).drop (k * 2)
  | [], k => by simp [flatN]
  | d :: l, 0 => by simp
  | d :: l, k + 1 => by rw [List.drop_succ_cons, flatN, flatN_drop l k, show (k + 1) * 2 = k * 2 + 1 + 1 by omega, List.drop_succ_cons, List.drop_succ_cons]
theorem TrRow.take {A : Option Addr} {n c : Nat} {l : List Pm} (h : TrRow w B (.slice A n c) l) {k : Nat} (hk : k ≤ l.length) : TrRow w B (.slice A (l.take k).length c) (l.take k) := by
  obtain ⟨⟨A', c', hv, h1, h2, h3, h4⟩, h5⟩ := h
  injection hv with e1 e2 e3
  subst e1 e3
  have hl : (l.take k).length = k := by simp; omega
  refine ⟨⟨A, c, rfl, by omega, h2, h3, fun hn => ?_⟩, fun d hd => h5 d (List.mem_of_mem_take hd)⟩
  obtain ⟨b, o, e, hb, hc⟩ := h4 (by omega)
  refine ⟨b, o, e, hb, fun i u hi => hc i u ?_⟩
  rw [flatN_take] at hi
  rw [List.getElem?_take] at hi
  split at hi
  · exact hi
  · cases hi
end
theorem at_pn {l : List Pm} {i : Nat} {d : Pm} (h : l[i]? = some d) : (l.map (·.p))[i]? = some d.p := by rw [List.getElem?_map, h]; rfl
theorem at_ev {l : List Em} {i : Nat} {d : Em} (h : l[i]? = some d) : (l.map (·.e))[i]? = some d.e := by rw [List.getElem?_map, h]; rfl
theorem getD_of {α : Type} [Inhabited α] {l : List α} {i : Nat} {a : α} (h : l[i]? = some a) : l.getD i default = a := by simp [List.getD, h]
#print axioms TrRow.take
end Go.Proofs.Ytlmpicfhbpnpbaa
