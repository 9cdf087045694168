/-
  What the theorem of ReadRight rests on, part 2 of 12.
-/
import Derived.RangeFuncNested
import Derived.RangeFuncBox
import Derived.RangeFuncLeaves
import Derived.WalkKit
import Derived.OrdersIn
import Derived.Deep.RegionHeld3
import Derived.TacticsIn
import Derived.Laws.StructEq
import Derived.MapKept
import Derived.Carry
import Derived.Test.YtimihhcidbeonaaGreatReadRightZ1
namespace Go.Proofs.YtimihhcidbeonaaGreat
/-- An argument: its type, its number, its text's bytes. -/
structure Ag where
  t : Int
  n : Int
  s : List Int
  deriving DecidableEq
instance : Inhabited Ag := ⟨⟨0, 0, []⟩⟩
/-- An event: its predicate's number, its arguments. -/
structure Ev where
  p : Int
  args : List Ag
  deriving DecidableEq
instance : Inhabited Ev := ⟨⟨0, []⟩⟩
/-- A point: its time, its events. -/
structure Pn where
  tm : Int
  evs : List Ev
  deriving DecidableEq
instance : Inhabited Pn := ⟨⟨0, []⟩⟩
/-- Why an argument may not stand where a type is asked for; 0. -/
def whyG (t : Int) (a : Ag) : Int := if a.t ≠ t then 7 else if t = 1 ∧ a.s ≠ [] then 1 else if t = 2 ∧ a.n ≠ 0 then 1 else if 200 < a.s.length then 6 else 0
/-- Why an event isn't of a signature; 0. -/
def eventT (sig : List Pr) (e : Ev) : Int :=
  if e.p < 0 ∨ (sig.length : Int) ≤ e.p then 9
  else if e.args.length ≠ (sig.getD e.p.toNat default).args.length then 1
  else firstWhy (fun i => whyG ((sig.getD e.p.toNat default).args.getD i 0) (e.args.getD i default)) e.args.length 0
/-- Why a point may not have its events; 0. -/
def whyE (sig : List Pr) (l : List Ev) : Int := if 1024 < l.length then 6 else firstWhy (fun k => eventT sig (l.getD k default)) l.length 0
def whyT (sig : List Pr) (t : List Pn) (i : Nat) : Int :=
  if 0 < i ∧ (t.getD i default).tm < (t.getD (i - 1) default).tm then 8 else whyE sig (t.getD i default).evs
/-- The first of n places from a on at which something is wrong: what, and where; (0, 0). -/
def firstBad (f : Nat → Int) : Nat → Nat → Int × Int
  | 0, _ => (0, 0)
  | n + 1, a => if f a = 0 then firstBad f n (a + 1) else (f a, (a : Int))
def checkT (sig : List Pr) (t : List Pn) : Int × Int := if checkP sig = 0 then firstBad (whyT sig t) t.length 0 else (checkP sig, 0)
theorem eventT_name {sig : List Pr} {e : Ev} (h : e.p < 0 ∨ (sig.length : Int) ≤ e.p) : eventT sig e = 9 := if_pos h
section
variable {sig : List Pr} {e : Ev} {k : Nat} {p : Pr}
theorem eventT_has (hk : e.p = (k : Int)) (hp : sig[k]? = some p) : eventT sig e = if e.args.length ≠ p.args.length then 1 else firstWhy (fun i => whyG (p.args.getD i 0) (e.args.getD i default)) e.args.length 0 := by
  have hl := (List.getElem?_eq_some_iff.1 hp).1
  unfold eventT
  rw [if_neg (by omega), hk, Int.toNat_natCast, show sig.getD k default = p by simp [List.getD, hp]]
theorem eventT_arg (hk : e.p = (k : Int)) (hp : sig[k]? = some p) (h : e.args.length ≠ p.args.length) : eventT sig e = 1 := by rw [eventT_has hk hp, if_pos h]
theorem eventT_found (hk : e.p = (k : Int)) (hp : sig[k]? = some p) (h : e.args.length = p.args.length) {r : Nat} (hr : r < e.args.length) (h3 : ∀ j, j < r → whyG (p.args.getD j 0) (e.args.getD j default) = 0) (h4 : whyG (p.args.getD r 0) (e.args.getD r default) ≠ 0) :
    eventT sig e = whyG (p.args.getD r 0) (e.args.getD r default) := by
  rw [eventT_has hk hp, if_neg (by omega)]
  exact firstWhy_found _ _ r (Nat.zero_le _) (by omega) (fun j _ hj => h3 j hj) h4
theorem eventT_none (hk : e.p = (k : Int)) (hp : sig[k]? = some p) (h : e.args.length = p.args.length) (h3 : ∀ j, j < e.args.length → whyG (p.args.getD j 0) (e.args.getD j default) = 0) : eventT sig e = 0 := by
  rw [eventT_has hk hp, if_neg (by omega)]
  exact firstWhy_none _ _ (fun j _ hj => h3 j (by omega))
end
theorem whyE_many {sig : List Pr} {l : List Ev} (h : 1024 < l.length) : whyE sig l = 6 := if_pos h
theorem whyE_found {sig : List Pr} {l : List Ev} (h : l.length ≤ 1024) {r : Nat} (hr : r < l.length) (h3 : ∀ j, j < r → eventT sig (l.getD j default) = 0) (h4 : eventT sig (l.getD r default) ≠ 0) : whyE sig l = eventT sig (l.getD r default) := by
  unfold whyE
  rw [if_neg (by omega)]
  exact firstWhy_found _ _ r (Nat.zero_le _) (by omega) (fun j _ hj => h3 j hj) h4
theorem whyE_none {sig : List Pr} {l : List Ev} (h : l.length ≤ 1024) (h3 : ∀ j, j < l.length → eventT sig (l.getD j default) = 0) : whyE sig l = 0 := by
  unfold whyE
  rw [if_neg (by omega)]
  exact firstWhy_none _ _ (fun j _ hj => h3 j (by omega))
theorem firstBad_none {f : Nat → Int} : ∀ (n a : Nat), (∀ j, a ≤ j → j < a + n → f j = 0) → firstBad f n a = (0, 0)
  | 0, _, _ => rfl
  | n + 1, a, h => by
    rw [firstBad, if_pos (h a (Nat.le_refl _) (by omega))]
    exact firstBad_none n (a + 1) fun j h1 h2 => h j (by omega) (by omega)
theorem firstBad_found {f : Nat → Int} : ∀ (n a r : Nat), a ≤ r → r < a + n → (∀ j, a ≤ j → j < r → f j = 0) → f r ≠ 0 → firstBad f n a = (f r, (r : Int))
  | 0, a, r, h1, h2, _, _ => by omega
  | n + 1, a, r, h1, h2, h3, h4 => by
    by_cases he : r = a
    · subst he
      rw [firstBad, if_neg h4]
    · rw [firstBad, if_pos (h3 a (Nat.le_refl _) (by omega))]
      exact firstBad_found n (a + 1) r (by omega) (by omega) (fun j h5 h6 => h3 j (by omega) h6) h4
theorem firstBad_zero {f : Nat → Int} : ∀ (n a : Nat), (firstBad f n a).1 = 0 → ∀ j, a ≤ j → j < a + n → f j = 0
  | 0, a, _, j, h1, h2 => by omega
  | n + 1, a, h, j, h1, h2 => by
    unfold firstBad at h
    by_cases hf : f a = 0
    · rw [if_pos hf] at h
      by_cases he : j = a
      · rw [he]; exact hf
      · exact firstBad_zero n (a + 1) h j (by omega) (by omega)
    · rw [if_neg hf] at h
      exact absurd h hf
section
variable {sig : List Pr} {t : List Pn}
theorem checkT_sig (h : checkP sig ≠ 0) : checkT sig t = (checkP sig, 0) := if_neg h
theorem checkT_found (h : checkP sig = 0) {r : Nat} (hr : r < t.length) (h3 : ∀ j, j < r → whyT sig t j = 0) (h4 : whyT sig t r ≠ 0) : checkT sig t = (whyT sig t r, (r : Int)) := by
  unfold checkT
  rw [if_pos h]
  exact firstBad_found _ _ r (Nat.zero_le _) (by omega) (fun j _ hj => h3 j hj) h4
theorem checkT_none (h : checkP sig = 0) (h3 : ∀ j, j < t.length → whyT sig t j = 0) : checkT sig t = (0, 0) := by
  unfold checkT
  rw [if_pos h]
  exact firstBad_none _ _ (fun j _ hj => h3 j (by omega))
theorem whyT_order {r : Nat} (h : 0 < r ∧ (t.getD r default).tm < (t.getD (r - 1) default).tm) : whyT sig t r = 8 := if_pos h
theorem whyT_else {r : Nat} (h : ¬ (0 < r ∧ (t.getD r default).tm < (t.getD (r - 1) default).tm)) : whyT sig t r = whyE sig (t.getD r default).evs := if_neg h
/-- A trace is of a signature just if all is right at each place. -/
theorem checkT_zero : (checkT sig t).1 = 0 ↔ checkP sig = 0 ∧ ∀ j, j < t.length → whyT sig t j = 0 := by
  constructor
  · intro h
    by_cases hs : checkP sig = 0
    · unfold checkT at h
      rw [if_pos hs] at h
      exact ⟨hs, fun j hj => firstBad_zero _ _ h j (Nat.zero_le _) (by omega)⟩
    · rw [checkT_sig hs] at h
      exact absurd h hs
  · rintro ⟨hs, h⟩
    rw [checkT_none hs h]
end
def sumS : List Ag → Nat
  | [] => 0
  | a :: l => a.s.length + sumS l
theorem sumS_append : ∀ l m : List Ag, sumS (l ++ m) = sumS l + sumS m
  | [], m => by simp [sumS]
  | a :: l, m => by simp only [List.cons_append, sumS, sumS_append l m]; omega
end Go.Proofs.YtimihhcidbeonaaGreat
namespace Go.Proofs.YtimihhcidbeonaaGreat
open Go.RowKit Go.ChangeShapes Go.WideShapes
/-- The slice value v has n elements, whose cells are us, one behind the other. -/
def ERow (w : World) (B : Nat) (v : Value) (n : Nat) (us : List Value) : Prop :=
  ∃ A c, v = .slice A n c ∧ n ≤ c ∧ c ≤ maxLen ∧ (A = none → c = 0) ∧ (0 < n → ∃ b o, A = some ⟨b, o, none⟩ ∧ b < B ∧ ∀ i u, us[i]? = some u → w.cell? ⟨b, o + i, none⟩ = some u)
section
variable {w w' : World} {B B' n : Nat} {v : Value} {us : List Value}
theorem ERow.keep (h : ERow w B v n us) (hk : ∀ p : Addr, p.block < B → w'.cell? p = w.cell? p) : ERow w' B v n us := by
  obtain ⟨A, c, hv, h1, h2, h3, h4⟩ := h
  refine ⟨A, c, hv, h1, h2, h3, fun hn => ?_⟩
  obtain ⟨b, o, e, hlt, hc⟩ := h4 hn
  exact ⟨b, o, e, hlt, fun i u hi => (hk ⟨b, o + i, none⟩ hlt).trans (hc i u hi)⟩
theorem ERow.below (h : ERow w B v n us) (hb : Below B w w') : ERow w' B v n us := h.keep fun _ hp => hb.cell hp
theorem ERow.more (h : ERow w B v n us) (hB : B ≤ B') : ERow w B' v n us := by
  obtain ⟨A, c, hv, h1, h2, h3, h4⟩ := h
  refine ⟨A, c, hv, h1, h2, h3, fun hn => ?_⟩
  obtain ⟨b, o, e, hlt, hc⟩ := h4 hn
  exact ⟨b, o, e, Nat.lt_of_lt_of_le hlt hB, hc⟩
theorem ERow.nil (w : World) (B : Nat) : ERow w B (.slice none 0 0) 0 [] := ⟨none, 0, rfl, Nat.le_refl _, Nat.zero_le _, fun _ => rfl, fun h => absurd h (by simp)⟩
theorem ERow.form (h : ERow w B v n us) : ∃ A c, v = .slice A n c ∧ n ≤ c ∧ c ≤ 9223372036854775807 := by
  obtain ⟨A, c, hv, h1, h2, _⟩ := h
  unfold maxLen at h2
  exact ⟨A, c, hv, h1, by omega⟩
theorem ERow.len {A : Option Addr} {m c : Nat} (h : ERow w B (.slice A m c) n us) : m = n ∧ n ≤ c ∧ c ≤ 9223372036854775807 := by
  obtain ⟨A', c', hv, h1, h2⟩ := h.form
  injection hv with _ e2 e3
  exact ⟨e2, by omega, by omega⟩
theorem ERow.block {A : Option Addr} {m c : Nat} (h : ERow w B (.slice A m c) n us) (hn : 0 < n) : ∃ b o, A = some ⟨b, o, none⟩ ∧ b < B ∧ ∀ i u, us[i]? = some u → w.cell? ⟨b, o + i, none⟩ = some u := by
  obtain ⟨A', c', hv, _, _, _, h4⟩ := h
  injection hv with e1 _ _
  obtain ⟨b, o, e, r⟩ := h4 hn
  exact ⟨b, o, e1.trans e, r⟩
theorem ERow.of_own {base k : Nat} {e : TypeId} (h : w.ownsRow base e k v n us) : ERow w w.heap.size v n us := by
  rcases h.2 with ⟨rfl, rfl⟩ | ⟨g, cap, cur, rfl, _, hg, q1, q2, _⟩
  · exact ⟨none, 0, rfl, Nat.le_refl _, Nat.zero_le _, fun _ => rfl, fun h => absurd h (by simp)⟩
  · refine ⟨_, cap, rfl, q1, q2, by simp, fun _ => ⟨g, 0, rfl, (Array.getElem?_eq_some_iff.1 hg).1, fun i u hi => ?_⟩⟩
    have hl := (List.getElem?_eq_some_iff.1 hi).1
    rw [h.1] at hl
    rw [Nat.zero_add, World.ownsRow.cellAt h i hl]
    exact hi
end
def flatG : List Ag → List Value
  | [] => []
  | a :: l => .int .i64 a.t :: .int .i64 a.n :: .string (strOfNums a.s) :: flatG l
/-- An event, and where its arguments lie. -/
structure Em where
  p : Int
  args : List Ag
  A : Option Addr
  c : Nat
abbrev Em.e (d : Em) : Ev := ⟨d.p, d.args⟩
abbrev Em.val (d : Em) : Value := .agg #[.int .i64 d.p, .slice d.A d.args.length d.c]
def flatE : List Em → List Value
  | [] => []
  | d :: l => .int .i64 d.p :: .slice d.A d.args.length d.c :: flatE l
/-- A point, and where its events lie. -/
structure Pm where
  tm : Int
  evs : List Em
  A : Option Addr
  c : Nat
abbrev Pm.p (d : Pm) : Pn := ⟨d.tm, d.evs.map (·.e)⟩
abbrev Pm.val (d : Pm) : Value := .agg #[.int .u64 d.tm, .slice d.A d.evs.length d.c]
def flatN : List Pm → List Value
  | [] => []
  | d :: l => .int .u64 d.tm :: .slice d.A d.evs.length d.c :: flatN l
abbrev Ag.val (a : Ag) : Value := .agg #[.int .i64 a.t, .int .i64 a.n, .string (strOfNums a.s)]
theorem flatG_length : ∀ l : List Ag, (flatG l).length = l.length * 3
  | [] => rfl
  | a :: l => by simp only [flatG, List.length_cons, flatG_length l]; omega
theorem flatE_length : ∀ l : List Em, (flatE l).length = l.length * 2
  | [] => rfl
  | a :: l => by simp only [flatE, List.length_cons, flatE_length l]; omega
theorem flatN_length : ∀ l : List Pm, (flatN l).length = l.length * 2
  | [] => rfl
  | a :: l => by simp only [flatN, List.length_cons, flatN_length l]; omega
theorem flatG_append : ∀ l m : List Ag, flatG (l ++ m) = flatG l ++ flatG m
  | [], _ => rfl
  | a :: l, m => by simp only [List.cons_append, flatG, flatG_append l m]
theorem flatE_append : ∀ l m : List Em, flatE (l ++ m) = flatE l ++ flatE m
  | [], _ => rfl
  | a :: l, m => by simp only [List.cons_append, flatE, flatE_append l m]
theorem flatN_append : ∀ l m : List Pm, flatN (l ++ m) = flatN l ++ flatN m
  | [], _ => rfl
  | a :: l, m => by simp only [List.cons_append, flatN, flatN_append l m]
theorem flatG_at : ∀ (l : List Ag) (i : Nat) (a : Ag), l[i]? = some a → (flatG l)[i * 3]? = some (.int .i64 a.t) ∧ (flatG l)[i * 3 + 1]? = some (.int .i64 a.n) ∧ (flatG l)[i * 3 + 2]? = some (.string (strOfNums a.s))
  | [], i, d, h => by simp at h
  | e :: l, 0, d, h => by
    simp only [List.getElem?_cons_zero, Option.some.injEq] at h
    subst h
    exact ⟨rfl, rfl, rfl⟩
  | e :: l, i + 1, d, h => by
    rw [List.getElem?_cons_succ] at h
    rw [flatG, show (i + 1) * 3 = i * 3 + 1 + 1 + 1 by omega]
    simp only [List.getElem?_cons_succ]
    exact flatG_at l i d h
theorem flatE_at : ∀ (l : List Em) (i : Nat) (d : Em), l[i]? = some d → (flatE l)[i * 2]? = some (.int .i64 d.p) ∧ (flatE l)[i * 2 + 1]? = some (.slice d.A d.args.length d.c)
  | [], i, d, h => by simp at h
  | e :: l, 0, d, h => by
    simp only [List.getElem?_cons_zero, Option.some.injEq] at h
    subst h
    exact ⟨rfl, rfl⟩
  | e :: l, i + 1, d, h => by
    rw [List.getElem?_cons_succ] at h
    rw [flatE, show (i + 1) * 2 = i * 2 + 1 + 1 by omega, List.getElem?_cons_succ, List.getElem?_cons_succ, List.getElem?_cons_succ, List.getElem?_cons_succ]
    exact flatE_at l i d h
theorem flatN_at : ∀ (l : List Pm) (i : Nat) (d : Pm), l[i]? = some d → (flatN l)[i * 2]? = some (.int .u64 d.tm) ∧ (flatN l)[i * 2 + 1]? = some (.slice d.A d.evs.length d.c)
  | [], i, d, h => by simp at h
  | e :: l, 0, d, h => by
    simp only [List.getElem?_cons_zero, Option.some.injEq] at h
    subst h
    exact ⟨rfl, rfl⟩
  | e :: l, i + 1, d, h => by
    rw [List.getElem?_cons_succ] at h
    rw [flatN, show (i + 1) * 2 = i * 2 + 1 + 1 by omega, List.getElem?_cons_succ, List.getElem?_cons_succ, List.getElem?_cons_succ, List.getElem?_cons_succ]
    exact flatN_at l i d h
def Ag.Fits (a : Ag) : Prop := a.s.length ≤ maxLen ∧ (∀ x ∈ a.s, 0 ≤ x ∧ x < 256) ∧ (-9223372036854775808 ≤ a.t ∧ a.t ≤ 9223372036854775807) ∧ (-9223372036854775808 ≤ a.n ∧ a.n ≤ 9223372036854775807)
/-- The slice value reads as these arguments. -/
def GRow (w : World) (B : Nat) (v : Value) (l : List Ag) : Prop := ERow w B v l.length (flatG l) ∧ ∀ a ∈ l, a.Fits
def Em.Fits (d : Em) : Prop := -9223372036854775808 ≤ d.p ∧ d.p ≤ 9223372036854775807
/-- What an event's parts are in memory. -/
def Em.Ok (w : World) (B : Nat) (d : Em) : Prop := GRow w B (.slice d.A d.args.length d.c) d.args ∧ d.Fits
/-- The slice value reads as these events. -/
def EvRow (w : World) (B : Nat) (v : Value) (l : List Em) : Prop := ERow w B v l.length (flatE l) ∧ ∀ d ∈ l, d.Ok w B
def Pm.Fits (d : Pm) : Prop := 0 ≤ d.tm ∧ d.tm < 18446744073709551616
def Pm.Ok (w : World) (B : Nat) (d : Pm) : Prop := EvRow w B (.slice d.A d.evs.length d.c) d.evs ∧ d.Fits
/-- The slice value reads as these points. -/
def TrRow (w : World) (B : Nat) (v : Value) (l : List Pm) : Prop := ERow w B v l.length (flatN l) ∧ ∀ d ∈ l, d.Ok w B
section
variable {w w' : World} {B B' : Nat} {v : Value}
theorem GRow.below {l : List Ag} (h : GRow w B v l) (hb : Below B w w') : GRow w' B v l := ⟨h.1.below hb, h.2⟩
theorem GRow.more {l : List Ag} (h : GRow w B v l) (hB : B ≤ B') : GRow w B' v l := ⟨h.1.more hB, h.2⟩
theorem Em.Ok.below {d : Em} (h : d.Ok w B) (hb : Below B w w') : d.Ok w' B := ⟨h.1.below hb, h.2⟩
theorem Em.Ok.more {d : Em} (h : d.Ok w B) (hB : B ≤ B') : d.Ok w B' := ⟨h.1.more hB, h.2⟩
theorem EvRow.below {l : List Em} (h : EvRow w B v l) (hb : Below B w w') : EvRow w' B v l := ⟨h.1.below hb, fun d hd => (h.2 d hd).below hb⟩
theorem EvRow.more {l : List Em} (h : EvRow w B v l) (hB : B ≤ B') : EvRow w B' v l := ⟨h.1.more hB, fun d hd => (h.2 d hd).more hB⟩
theorem Pm.Ok.below {d : Pm} (h : d.Ok w B) (hb : Below B w w') : d.Ok w' B := ⟨h.1.below hb, h.2⟩
theorem Pm.Ok.more {d : Pm} (h : d.Ok w B) (hB : B ≤ B') : d.Ok w B' := ⟨h.1.more hB, h.2⟩
theorem TrRow.below {l : List Pm} (h : TrRow w B v l) (hb : Below B w w') : TrRow w' B v l := ⟨h.1.below hb, fun d hd => (h.2 d hd).below hb⟩
theorem TrRow.more {l : List Pm} (h : TrRow w B v l) (hB : B ≤ B') : TrRow w B' v l := ⟨h.1.more hB, fun d hd => (h.2 d hd).more hB⟩
/-- The cells of an argument, of an event, of a point. -/
theorem GRow.at {A : Option Addr} {n c : Nat} {l : List Ag} (h : GRow w B (.slice A n c) l) {i : Nat} {a : Ag} (ha : l[i]? = some a) : ∃ b o, A = some ⟨b, o, none⟩ ∧ b < B ∧
    w.cell? ⟨b, o + i * 3, none⟩ = some (.int .i64 a.t) ∧ w.cell? ⟨b, o + i * 3 + 1, none⟩ = some (.int .i64 a.n) ∧ w.cell? ⟨b, o + i * 3 + 2, none⟩ = some (.string (strOfNums a.s)) ∧ a.Fits := by
  have hlt := (List.getElem?_eq_some_iff.1 ha).1
  obtain ⟨b, o, e, hb, hc⟩ := h.1.block (by omega)
  obtain ⟨f0, f1, f2⟩ := flatG_at l i a ha
  exact ⟨b, o, e, hb, hc _ _ f0, hc _ _ f1, hc _ _ f2, h.2 a (List.mem_of_getElem? ha)⟩
theorem EvRow.at {A : Option Addr} {n c : Nat} {l : List Em} (h : EvRow w B (.slice A n c) l) {i : Nat} {d : Em} (hd : l[i]? = some d) : ∃ b o, A = some ⟨b, o, none⟩ ∧ b < B ∧
    w.cell? ⟨b, o + i * 2, none⟩ = some (.int .i64 d.p) ∧ w.cell? ⟨b, o + i * 2 + 1, none⟩ = some (.slice d.A d.args.length d.c) ∧ d.Ok w B ∧ d.args.length ≤ d.c ∧ d.c ≤ 9223372036854775807 := by
  have hlt := (List.getElem?_eq_some_iff.1 hd).1
  obtain ⟨b, o, e, hb, hc⟩ := h.1.block (by omega)
  obtain ⟨f0, f1⟩ := flatE_at l i d hd
  have hk := h.2 d (List.mem_of_getElem? hd)
  obtain ⟨_, l1, l2⟩ := hk.1.1.len
  exact ⟨b, o, e, hb, hc _ _ f0, hc _ _ f1, hk, l1, l2⟩
theorem TrRow.at {A : Option Addr} {n c : Nat} {l : List Pm} (h : TrRow w B (.slice A n c) l) {i : Nat} {d : Pm} (hd : l[i]? = some d) : ∃ b o, A = some ⟨b, o, none⟩ ∧ b < B ∧
    w.cell? ⟨b, o + i * 2, none⟩ = some (.int .u64 d.tm) ∧ w.cell? ⟨b, o + i * 2 + 1, none⟩ = some (.slice d.A d.evs.length d.c) ∧ d.Ok w B ∧ d.evs.length ≤ d.c ∧ d.c ≤ 9223372036854775807 := by
  have hlt := (List.getElem?_eq_some_iff.1 hd).1
  obtain ⟨b, o, e, hb, hc⟩ := h.1.block (by omega)
  obtain ⟨f0, f1⟩ := flatN_at l i d hd
  have hk := h.2 d (List.mem_of_getElem? hd)
  obtain ⟨_, l1, l2⟩ := hk.1.1.len
  exact ⟨b, o, e, hb, hc _ _ f0, hc _ _ f1, hk, l1, l2⟩
end
theorem at_pn {l : List Pm} {i : Nat} {d : Pm} (h : l[i]? = some d) : (l.map (·.p))[i]? = some d.p := by rw [List.getElem?_map, h]; rfl
theorem at_ev {l : List Em} {i : Nat} {d : Em} (h : l[i]? = some d) : (l.map (·.e))[i]? = some d.e := by rw [List.getElem?_map, h]; rfl
theorem getD_of {α : Type} [Inhabited α] {l : List α} {i : Nat} {a : α} (h : l[i]? = some a) : l.getD i default = a := by simp [List.getD, h]
end Go.Proofs.YtimihhcidbeonaaGreat

namespace Go.Proofs.YtimihhcidbeonaaGreat
open Go.RowKit Go.ChangeShapes Go.WideShapes
theorem Tryz.infoArg : (Tryz.prog.info? 97).map (fun i => (i.zero, i.size, i.bytes)) = some (some (.agg #[.int .i64 0, .int .i64 0, .string ⟨#[]⟩]), 3, 32) := by kernel_rfl
theorem Tryz.infoEvent : (Tryz.prog.info? 100).map (fun i => (i.zero, i.size, i.bytes)) = some (some (.agg #[.int .i64 0, .slice none 0 0]), 2, 32) := by kernel_rfl
theorem Tryz.infoPoint : (Tryz.prog.info? 51).map (fun i => (i.zero, i.size, i.bytes)) = some (some (.agg #[.int .u64 0, .slice none 0 0]), 2, 32) := by kernel_rfl
theorem own_none {w : World} {base : Nat} {e : TypeId} {size : Nat} (hb : base ≤ w.heap.size) : (w.alloc (.cells #[] e)).ownsRow base e size (.slice (some ⟨w.heap.size, 0, none⟩) 0 0) 0 [] :=
  ⟨by simp, .inr ⟨w.heap.size, 0, #[], rfl, hb, heap_alloc_new w _, Nat.le_refl _, Nat.zero_le _, by simp, by simp⟩⟩
/-- A block that was just laid, as a row. -/
theorem ERow.held {w : World} {g B n : Nat} {t : TypeId} {us : List Value} (h : Held w g t us.toArray) (hB : g < B) (hn : n ≤ maxLen) : ERow w B (.slice (some ⟨g, 0, none⟩) n n) n us :=
  ⟨_, _, rfl, Nat.le_refl _, hn, by simp, fun _ => ⟨g, 0, rfl, hB, fun i u hi => by rw [Nat.zero_add, h.cell i]; simpa using hi⟩⟩
/-- append of any row behind a row of the call's own. -/
theorem run_append_erow {P : Program} (w : World) (base : Nat) (t ty e : TypeId) (i : TypeInfo) (z : Value) (size bytes : Nat) (ht : P.underlying t = some (.slice e)) (hi : P.info? e = some i) (hz : i.zero = some z)
    (hsize : i.size = size) (hby : i.bytes = bytes) (hzs : z.cells.size = size) (hsz : 0 < size) (v : Value) (n : Nat) (xs : List Value) (hown : w.ownsRow base e size v n xs)
    (B : Nat) (sv : Value) (m : Nat) (us : List Value) (hr : ERow w B sv m us) (hl : us.length = m * size) (h1 : ∀ u ∈ us, u.oneCell' = true) (h63 : n + m ≤ maxLen) (hbytes : (n + m) * bytes ≤ 140737488355328) (hbase : base ≤ w.heap.size) :
    ∃ v' w', (Builtin.append_ #[t, t] ty #[v, sv]).run P w = .ok v' w' ∧ w'.ownsRow base e size v' (n + m) (xs ++ us) ∧ w.grownBy w' v.ownBlock := by
  obtain ⟨A, c, rfl, q1, q2, q3, q4⟩ := hr
  rcases A with _ | ad
  · obtain rfl := q3 rfl
    obtain rfl : m = 0 := by omega
    have hu : us = [] := List.eq_nil_of_length_eq_zero (by omega)
    subst hu
    refine ⟨v, w, run_append_owned_none w base t ty e i size ht hi v n xs hown, by rw [Nat.add_zero, List.append_nil]; exact hown, World.grownBy.refl _ _⟩
  · obtain ⟨v', w', r1, r2, r3, _⟩ := run_append_own_at (P := P) w base t ty e i z size bytes ht hi hz hsize hby hzs hsz v n xs hown ad m c us hl (fun j u hu => by
      have hj := (List.getElem?_eq_some_iff.1 hu).1
      have hm : 0 < m := by
        rcases Nat.eq_zero_or_pos m with h | h
        · rw [h] at hl; omega
        · exact h
      obtain ⟨b, o, he, _, hc⟩ := q4 hm
      injection he with he
      subst he
      rw [add_plain]
      exact hc j u hu) h1 h63 hbytes hbase
    exact ⟨v', w', r1, r2, r3⟩
section
variable {P : Program} {w : World} {ops : Array Oper} {o : Oper} {a : Act} {Q : Exit → Act → World → Prop} {K : Act → World → Prop} {E : Prop}
theorem step_append_erow (hgd : o.guard = none) (s x : Operand) (t e : TypeId) (ho : o.op = .call { callee := .builtin .append, args := #[s, x], argTypes := #[t, t] })
    (base : Nat) (i : TypeInfo) (z : Value) (size bytes : Nat) (ht : P.underlying t = some (.slice e)) (hi : P.info? e = some i) (hz : i.zero = some z) (hsize : i.size = size) (hby : i.bytes = bytes) (hzs : z.cells.size = size) (hsz : 0 < size)
    (v : Value) (n : Nat) (xs : List Value) (hs : a.eval s = v) (hown : w.ownsRow base e size v n xs) (B : Nat) (sv : Value) (m : Nat) (us : List Value) (hx : a.eval x = sv) (hr : ERow w B sv m us) (hl : us.length = m * size) (h1 : ∀ u ∈ us, u.oneCell' = true)
    (h63 : n + m ≤ maxLen) (hbytes : (n + m) * bytes ≤ 140737488355328) (hbase : base ≤ w.heap.size) (N : Nat) (hN : n + m = N) (ys : List Value) (hys : xs ++ us = ys)
    (h : ∀ A c w', w'.ownsRow base e size (.slice A N c) N ys → w.grownBy w' v.ownBlock → K (a.put o.dst (.slice A N c)) w') : if Region.wanted o (yielded ops a.tmps) = true then Oper.wp P o a w K Q else E := by
  subst hN hys
  have hw : Region.wanted o (yielded ops a.tmps) = true := by simp [Region.wanted, hgd]
  obtain ⟨v', w', hrun, h2, h3⟩ := run_append_erow (P := P) w base t o.type e i z size bytes ht hi hz hsize hby hzs hsz v n xs hown B sv m us hr hl h1 h63 hbytes hbase
  obtain ⟨A, c, rfl⟩ := own_form h2
  rw [if_pos hw]
  unfold Oper.wp execOp
  simp only [ho, resolve, invoke, builtin, Sem.run_bind, Sem.run_pure, Result.andThen_ok, List.map_toArray, List.map_cons, List.map_nil, hs, hx, hrun]
  exact h A c w' h2 h3
end
theorem oneN : ∀ (l : List Pm), ∀ u ∈ flatN l, u.oneCell' = true
  | [], u, h => by simp [flatN] at h
  | d :: l, u, h => by
    rw [flatN] at h
    rcases List.mem_cons.1 h with rfl | h
    · rfl
    · rcases List.mem_cons.1 h with rfl | h
      · rfl
      · exact oneN l u h
theorem oneE : ∀ (l : List Em), ∀ u ∈ flatE l, u.oneCell' = true
  | [], u, h => by simp [flatE] at h
  | d :: l, u, h => by
    rw [flatE] at h
    rcases List.mem_cons.1 h with rfl | h
    · rfl
    · rcases List.mem_cons.1 h with rfl | h
      · rfl
      · exact oneE l u h
theorem oneG : ∀ (l : List Ag), ∀ u ∈ flatG l, u.oneCell' = true
  | [], u, h => by simp [flatG] at h
  | d :: l, u, h => by
    rw [flatG] at h
    rcases List.mem_cons.1 h with rfl | h
    · rfl
    · rcases List.mem_cons.1 h with rfl | h
      · rfl
      · rcases List.mem_cons.1 h with rfl | h
        · rfl
        · exact oneG l u h
end Go.Proofs.YtimihhcidbeonaaGreat

namespace Go.Proofs.YtimihhcidbeonaaGreat
open Go.RowKit
variable {F : Fence} {n : Nat} {P : Program}
/-- What may be ranged over hands on x's, of each of which 'R x' holds where it is handed on, all of them, such that 'S' holds of them. W0: where the last round has ended, or the loop begins; behind it what may be ranged over has turned nothing that lay there. 'Kp m': what a round keeps, m being how many blocks lay in W0. -/
def Hands {α : Type} (F : Fence) (n : Nat) (P : Program) (gf : Nat) (lb : Array Value) (encs : α → Array Value) (R : α → World → Prop) (Kp : Nat → World → World → Prop) (S : List α → Prop) (N : Nat) (w : World) : Prop :=
  ∀ (l : Nat) (J : List α → World → Prop) (W : World), Below w.heap.size w W →
    (∀ pre x W0 W1, J pre W0 → Below W0.heap.size W0 W1 → R x W1 → pre.length < N → YieldAt F (n - 1) P l (encs x) W1 fun e W' => e = .returned (.bool true) ∧ J (pre ++ [x]) W' ∧ Kp W0.heap.size W1 W') →
    J [] W → CallsIn F n P gf (#[.func (.yield l) #[] #[]] ++ lb) W fun e W' => (∃ v, e = .returned v) ∧ ∃ xs W0, S xs ∧ J xs W0 ∧ Below W0.heap.size W0 W'
/-- The record of a loop in a state. -/
def recOf (fn : FuncId) (tmps : Array Value) (ps : Array Tmp) (assign body : Code) (D : Nat) (s : LoopState) : Obj :=
  .loop { state := s, pending := none, fn := fn, tmps := tmps, params := ps, assign := assign, body := body, defers := D }
/-- One round: out of the walks of what takes what is handed on, and of the loop's body. -/
theorem yield_round {l D : Nat} {fn : FuncId} {tmps args : Array Value} {ps : Array Tmp} {assign body : Code} {W : World} {E : Ending → World → Prop} (hfn : F.fn fn) (hps : args.size = ps.size)
    (hl : W.heap[l]? = some (recOf fn tmps ps assign body D .ready))
    (h : assign.wpIn (F.inRound l) n P (Exit.then (fun a1 W1 => W1.heap[l]? = some (recOf fn tmps ps assign body D .ready) ∧
        body.wpIn (F.inRound l) n P (Exit.then (fun _ W3 => W3.heap[l]? = some (recOf fn tmps ps assign body D .busy) ∧ E (.returned (.bool true)) (W3.putObj l (recOf fn tmps ps assign body D .ready))) (fun _ _ _ => False)) a1 (W1.putObj l (recOf fn tmps ps assign body D .busy))) (fun _ _ _ => False))
      { tmps := (ps.zip args).foldl (fun t (p, v) => t.setIfInBounds p v) tmps, defers := [] } W) :
    YieldAt F n P l args W E := by
  refine ⟨fn, _, assign, body, run_yield hl hps, roundIn_of_wpIn hfn (wpIn_mono h ?_)⟩
  rintro e a1 W1 hp
  cases e with
  | normal =>
    refine ⟨_, run_beginRound hp.1 rfl, wpIn_mono hp.2 ?_⟩
    rintro e a3 W3 hq
    cases e with
    | normal => exact ⟨_, _, run_endRound none hq.1, hq.2⟩
    | _ => exact (show False from hq).elim
  | _ => exact (show False from hp).elim
/-- What minds cells alone is kept where what lay in memory is. -/
theorem ownFrom_below' {β : Type} {B : Nat} {I : β → World → Prop} (h : OwnFrom B I) {s : β} {w w' : World} (hs : I s w) (hb : Below w.heap.size w w') : I s w' :=
  h s w w' none hs ⟨hb.os, hb.tape, hb.output, hb.size, fun k hk _ => hb.block k hk⟩ (fun r e => by cases e)
/-- The loop: an invariant on the caller's own cells, one walk of its body. -/
theorem range_told {α : Type} {g : Operand} {ps : Array Tmp} {assign body : Code} {Q : Exit → Act → World → Prop} {a : Act} {w : World}
    (hro : F.round = none) (h1 : 1 ≤ n) {gf : Nat} {lb : Array Value} (hg : a.eval g = .func (.func gf) #[] lb) (hFg : F.fn gf) (eg : ∀ args w, (callFunc gf args).run P w = .ok (.enter gf args) w)
    {encs : α → Array Value} {R : α → World → Prop} {Kp : Nat → World → World → Prop} {S : List α → Prop} {N : Nat} (hseq : Hands F (n - 1) P gf lb encs R Kp S N w) (hps : ∀ x, (encs x).size = ps.size)
    (hKt : ∀ {m : Nat} {A B C : World}, Kp m A B → Kp m B C → Kp m A C) (hKb : ∀ (m : Nat) (W : World) (l : Nat) (o o' : Obj), w.heap.size ≤ l → l < m → W.heap[l]? = some o → o.isCells = false → Kp m W (W.putObj l o'))
    (I : List α → World → Prop) (hI : OwnFrom w.heap.size I) (h0 : I [] w) (Ax : Nat → List α → α → Act → World → Prop) (hAx : ∀ m pre x a', OwnFrom w.heap.size (fun (_ : Unit) W => Ax m pre x a' W))
    (htake : ∀ (l : Nat) (pre : List α) (x : α) (W0 W : World) (K : Act → World → Prop), I pre W0 → Below W0.heap.size W0 W → R x W → pre.length < N → (∀ a' W', KeepsFrom w.heap.size W W' → Kp W0.heap.size W W' → Ax W0.heap.size pre x a' W' → K a' W') →
      assign.wpIn (F.inRound l) (n - 1 - 1) P (Exit.then K (fun _ _ _ => False)) { tmps := (ps.zip (encs x)).foldl (fun t (p, v) => t.setIfInBounds p v) a.tmps, defers := [] } W)
    (hbody : ∀ (l m : Nat) (pre : List α) (x : α) (a' : Act) (W : World), Ax m pre x a' W → pre.length < N →
      body.wpIn (F.inRound l) (n - 1 - 1) P (Exit.then (fun _ W' => KeepsFrom w.heap.size W W' ∧ Kp m W W' ∧ I (pre ++ [x]) W') (fun _ _ _ => False)) a' W)
    (hdone : ∀ (D : Nat) (xs : List α) (W : World), w.heap.size ≤ D → S xs → I xs W → W.heap[D]? = some (.deferred (some [])) → Q .normal { a with defers := { target := .collected D, args := #[] } :: a.defers } W) :
    (Code.rangeFunc g ps assign body).wpIn F n P Q a w := by
  refine wpIn_rangeFunc fun fn hfn => ?_
  rw [hro]
  obtain ⟨D, hD⟩ : ∃ D, w.heap.size = D := ⟨_, rfl⟩
  obtain ⟨rec, hrec⟩ : ∃ rec, recOf fn a.tmps ps assign body D = rec := ⟨_, rfl⟩
  have hnc : ∀ s, (rec s).isCells = false := fun s => by rw [← hrec]; rfl
  obtain ⟨W0, hW0⟩ : ∃ W0, w.alloc (.deferred (some [])) = W0 := ⟨_, rfl⟩
  have hs0 : W0.heap.size = D + 1 := by rw [← hW0, World.size_alloc, hD]
  have hd0 : W0.heap[D]? = some (.deferred (some [])) := by rw [← hW0, ← hD]; exact World.alloc_heap_new w _
  have hi0 : I [] W0 := by rw [← hW0]; exact hI.alloc _ h0
  have hb0 : Below w.heap.size w W0 := by rw [← hW0]; exact (Below.refl _ w).alloc (Nat.le_refl _) _
  have hent := run_enterLoop_outer (P := P) (w := w) fn a.tmps ps assign body
  rw [hW0, hD] at hent
  change _ = Result.ok _ (W0.alloc (recOf fn a.tmps ps assign body D .ready)) at hent
  rw [hrec] at hent
  have hl1 : (W0.alloc (rec .ready)).heap[D + 1]? = some (rec .ready) := by rw [← hs0]; exact World.alloc_heap_new W0 _
  have hd1 : (W0.alloc (rec .ready)).heap[D]? = some (.deferred (some [])) := (Below.heap_alloc _ _ _ (by omega)).trans hd0
  have hi1 : I [] (W0.alloc (rec .ready)) := hI.alloc _ hi0
  have hb1 : Below w.heap.size w (W0.alloc (rec .ready)) := hb0.alloc (by omega) _
  generalize W0.alloc (rec .ready) = W1 at hent hl1 hd1 hi1 hb1
  refine ⟨D + 1, _, W1, { target := .fn (.func gf) lb, args := #[.func (.yield (D + 1)) #[] #[]] }, W1, gf, #[.func (.yield (D + 1)) #[] #[]] ++ lb, W1, hent, ?_, ?_, ?_, fun _ => h1, ?_⟩
  · simp only [resolve, hg]
    simp [go_sem]
  · intro f' hf'
    simp [Target.leads] at hf'
    subst hf'
    exact hFg
  · simp [invoke, go_sem, eg]
  · refine (hseq (D + 1) (fun pre W => I pre W ∧ W.heap[D + 1]? = some (rec .ready) ∧ W.heap[D]? = some (.deferred (some []))) W1 hb1 ?_ ⟨hi1, hl1, hd1⟩).mono ?_
    · -- a round
      rintro pre x V W ⟨hi, hl, hd⟩ hV hR hlen
      have hlV := (Array.getElem?_eq_some_iff.1 hl).1
      replace hl := (hV.block _ hlV).trans hl
      replace hd := (hV.block _ (by omega)).trans hd
      rw [← hrec] at hl
      refine yield_round hfn (hps x) hl ?_
      rw [hrec] at hl ⊢
      refine htake _ pre x V W _ hi hV hR hlen fun a' W' hkf hkp hax => ?_
      have hl' := hkf.same _ _ (by omega) hl (hnc _)
      have hd' := hkf.same _ _ (by omega) hd rfl
      refine ⟨hl', ?_⟩
      have hax2 := (hAx _ pre x a').putObj (s := ()) (rec .busy) hax (by omega) hl' (hnc _)
      have hkp2 := hKb V.heap.size W' (D + 1) _ (rec .busy) (by omega) hlV hl' (hnc _)
      have hl2 : (W'.putObj (D + 1) (rec .busy)).heap[D + 1]? = some (rec .busy) := World.putObj_heap_same (Array.getElem?_eq_some_iff.1 hl').1
      have hd2 : (W'.putObj (D + 1) (rec .busy)).heap[D]? = some (.deferred (some [])) := (World.putObj_heap_other (by omega)).trans hd'
      refine wpIn_mono (hbody (D + 1) _ pre x a' _ hax2 hlen) ?_
      rintro e a3 W3 hp
      cases e with
      | normal =>
        obtain ⟨hkf3, hkp3, hi3⟩ := hp
        have hl3 := hkf3.same _ _ (by omega) hl2 (hnc _)
        have hd3 := hkf3.same _ _ (by omega) hd2 rfl
        refine ⟨hl3, rfl, ⟨hI.putObj _ hi3 (by omega) hl3 (hnc _), World.putObj_heap_same (Array.getElem?_eq_some_iff.1 hl3).1, (World.putObj_heap_other (by omega)).trans hd3⟩, ?_⟩
        exact hKt hkp (hKt (hKt hkp2 hkp3) (hKb _ W3 (D + 1) _ _ (by omega) hlV hl3 (hnc _)))
      | _ => exact (show False from hp).elim
    · -- behind it
      rintro e W2 ⟨⟨v, rfl⟩, xs, V, hS, ⟨hi, hl, hd⟩, hV⟩
      have hlV := (Array.getElem?_eq_some_iff.1 hl).1
      replace hl := (hV.block _ hlV).trans hl
      replace hd := (hV.block _ (by omega)).trans hd
      have hi' := hI.putObj (.loop { state := .exhausted, pending := none, fn := fn, tmps := a.tmps, params := ps, assign := assign, body := body, defers := D }) (ownFrom_below' hI hi hV) (by omega) hl (hnc _)
      rw [← hrec] at hl
      exact ⟨none, _, run_endLoop hl (by simp), hdone D xs _ (by omega) hS hi' ((World.putObj_heap_other (by omega)).trans hd)⟩
end Go.Proofs.YtimihhcidbeonaaGreat
namespace Go.Proofs.YtimihhcidbeonaaGreat
open Go.RowKit
/-- What lay in A lies in B, but what is no cells and lies at or beyond m. -/
structure Calm (m : Nat) (A B : World) : Prop where
  os : B.os = A.os
  tape : B.tape = A.tape
  output : B.output = A.output
  size : A.heap.size ≤ B.heap.size
  low : ∀ k, k < m → k < A.heap.size → B.heap[k]? = A.heap[k]?
  cells : ∀ (k : Nat) (o : Obj), A.heap[k]? = some o → o.isCells = true → B.heap[k]? = some o
theorem Calm.mono {m m' : Nat} {A B : World} (h : Calm m' A B) (hm : m ≤ m') : Calm m A B := ⟨h.os, h.tape, h.output, h.size, fun k h1 h2 => h.low k (by omega) h2, h.cells⟩
theorem Calm.of_below {m : Nat} {A B : World} (h : Below A.heap.size A B) : Calm m A B :=
  ⟨h.os, h.tape, h.output, h.size, fun k _ h2 => h.block k h2, fun k _ h1 _ => (h.block k (Array.getElem?_eq_some_iff.1 h1).1).trans h1⟩
theorem Calm.alloc (m : Nat) (A : World) (o : Obj) : Calm m A (A.alloc o) := Calm.of_below ((Below.refl _ _).alloc (Nat.le_refl _) _)
theorem Calm.putObj {m l : Nat} {A : World} {o : Obj} (o' : Obj) (hl : A.heap[l]? = some o) (ho : o.isCells = false) (hm : m ≤ l) : Calm m A (A.putObj l o') := by
  have hg := grownBy_putObj' A l o'
  refine ⟨hg.os, hg.tape, hg.output, hg.size, fun k h1 h2 => World.putObj_heap_other (by omega), fun k c h1 h2 => (World.putObj_heap_other (fun e => ?_)).trans h1⟩
  subst e
  rw [hl] at h1
  injection h1 with h1
  rw [← h1, ho] at h2
  cases h2
/-- What is said of a world abides what leaves it calm. -/
def Abides {β : Type} (m : Nat) (J : β → World → Prop) : Prop := ∀ s A B, J s A → Calm m A B → J s B
theorem abides_below {β : Type} {m B : Nat} {w0 : World} (hB : B ≤ m) (h0 : B ≤ w0.heap.size) : Abides m (fun (_ : β) W => Below B w0 W) := fun _ A X hs hc =>
  ⟨hc.os.trans hs.os, hc.tape.trans hs.tape, hc.output.trans hs.output, Nat.le_trans hs.size hc.size, fun k hk => (hc.low k (by omega) (by have := hs.size; omega)).trans (hs.block k hk)⟩
theorem Calm.held {m b : Nat} {A B : World} {t : TypeId} {c : Array Value} (h : Calm m A B) (hb : Held A b t c) : Held B b t c := h.cells b _ hb rfl
theorem Calm.boxed {m b : Nat} {A B : World} {t : TypeId} {v : Value} (h : Calm m A B) (hb : Boxed A b t v) : Boxed B b t v := h.cells b _ hb rfl
variable {F : Fence} {n : Nat} {P : Program}
/-- What may be ranged over hands on x's, of each of which R holds; it goes on till a round says no more. Kp m: what a round keeps, m being how many blocks there are where it begins; lv: that a round may leave the loop. -/
def Gives {α : Type} (F : Fence) (n : Nat) (P : Program) (gf : Nat) (lb : Array Value) (encs : α → Array Value) (R : List α → α → Prop) (Kp : Nat → World → World → Prop) (S Sp : List α → Prop) (lv : Prop) (w : World) : Prop :=
  ∀ (l : Nat) (J Jx : List α → World → Prop) (W : World), Below w.heap.size w W → Abides W.heap.size J → Abides W.heap.size Jx →
    (∀ pre x W1, J pre W1 → R pre x → W.heap.size ≤ W1.heap.size → YieldAt F (n - 1) P l (encs x) W1 fun e W' => (e = .returned (.bool true) ∧ J (pre ++ [x]) W' ∧ Kp W.heap.size W1 W') ∨ (lv ∧ e = .returned (.bool false) ∧ Jx (pre ++ [x]) W')) →
    J [] W → CallsIn F n P gf (#[.func (.yield l) #[] #[]] ++ lb) W fun e W' => (∃ v, e = .returned v) ∧ ((∃ xs, S xs ∧ J xs W') ∨ (∃ pre, Sp pre ∧ Jx pre W'))
/-- The record of a loop: its state, what is to be done behind it. -/
def recJ (fn : FuncId) (tmps : Array Value) (ps : Array Tmp) (assign body : Code) (D : Nat) (s : LoopState) (j : Option Code) : Obj :=
  .loop { state := s, pending := j, fn := fn, tmps := tmps, params := ps, assign := assign, body := body, defers := D }
/-- How a round's body ends: it goes on, or it returns. -/
def RoundEnds (G : World → Prop) (X : World → Prop) : Exit → Act → World → Prop
  | .normal, _, W' => G W'
  | .ret, _, W' => X W'
  | _, _, _ => False
/-- One round. -/
theorem yield_round2 {l D : Nat} {fn : FuncId} {tmps args : Array Value} {ps : Array Tmp} {assign body : Code} {W : World} {E : Ending → World → Prop} (hfn : F.fn fn) (hps : args.size = ps.size)
    (hl : W.heap[l]? = some (recJ fn tmps ps assign body D .ready none))
    (h : assign.wpIn (F.inRound l) n P (Exit.then (fun a1 W1 => W1.heap[l]? = some (recJ fn tmps ps assign body D .ready none) ∧
        body.wpIn (F.inRound l) n P (RoundEnds (fun W3 => W3.heap[l]? = some (recJ fn tmps ps assign body D .busy none) ∧ E (.returned (.bool true)) (W3.putObj l (recJ fn tmps ps assign body D .ready none)))
          (fun W3 => W3.heap[l]? = some (recJ fn tmps ps assign body D .busy none) ∧ E (.returned (.bool false)) (W3.putObj l (recJ fn tmps ps assign body D .done (some .ret))))) a1 (W1.putObj l (recJ fn tmps ps assign body D .busy none))) (fun _ _ _ => False))
      { tmps := (ps.zip args).foldl (fun t (p, v) => t.setIfInBounds p v) tmps, defers := [] } W) :
    YieldAt F n P l args W E := by
  refine ⟨fn, _, assign, body, run_yield hl hps, roundIn_of_wpIn hfn (wpIn_mono h ?_)⟩
  rintro e a1 W1 hp
  cases e with
  | normal =>
    refine ⟨_, run_beginRound hp.1 rfl, wpIn_mono hp.2 ?_⟩
    rintro e a3 W3 hq
    cases e with
    | normal => exact ⟨_, _, run_endRound none hq.1, hq.2⟩
    | ret => exact ⟨_, _, run_endRound (some .ret) hq.1, hq.2⟩
    | _ => exact (show False from hq).elim
  | _ => exact (show False from hp).elim
/-- The loop. -/
theorem range_gives {α : Type} {g : Operand} {ps : Array Tmp} {assign body : Code} {Q : Exit → Act → World → Prop} {a : Act} {w : World}
    (hro : F.round = none) (h1 : 1 ≤ n) {gf : Nat} {lb : Array Value} (hg : a.eval g = .func (.func gf) #[] lb) (hFg : F.fn gf) (eg : ∀ args w, (callFunc gf args).run P w = .ok (.enter gf args) w)
    {encs : α → Array Value} {R : List α → α → Prop} {Kp : Nat → World → World → Prop} {S Sp : List α → Prop} {lv : Prop} (hseq : Gives F (n - 1) P gf lb encs R Kp S Sp lv w) (hps : ∀ x, (encs x).size = ps.size)
    (hKt : ∀ {m : Nat} {A B C : World}, Kp m A B → Kp m B C → Kp m A C) (hKb : ∀ (m : Nat) (W : World) (l : Nat) (o o' : Obj), w.heap.size ≤ l → l < m → W.heap[l]? = some o → o.isCells = false → Kp m W (W.putObj l o'))
    (I Ix : List α → World → Prop) (hI : Abides w.heap.size I) (hIx : Abides w.heap.size Ix) (h0 : I [] w) (Ax : List α → α → Act → World → Prop) (hAx : ∀ pre x a', Abides w.heap.size (fun (_ : Unit) W => Ax pre x a' W))
    (htake : ∀ (l m : Nat) (pre : List α) (x : α) (W : World) (K : Act → World → Prop), w.heap.size < m → m ≤ W.heap.size → I pre W → R pre x → (∀ a' W', KeepsFrom w.heap.size W W' → Kp m W W' → Ax pre x a' W' → K a' W') →
      assign.wpIn (F.inRound l) (n - 1 - 1) P (Exit.then K (fun _ _ _ => False)) { tmps := (ps.zip (encs x)).foldl (fun t (p, v) => t.setIfInBounds p v) a.tmps, defers := [] } W)
    (hbody : ∀ (l m : Nat) (pre : List α) (x : α) (a' : Act) (W : World), w.heap.size < m → m ≤ W.heap.size → Ax pre x a' W →
      body.wpIn (F.inRound l) (n - 1 - 1) P (RoundEnds (fun W' => KeepsFrom w.heap.size W W' ∧ Kp m W W' ∧ I (pre ++ [x]) W') (fun W' => lv ∧ KeepsFrom w.heap.size W W' ∧ Ix (pre ++ [x]) W')) a' W)
    (hdone : ∀ (D : Nat) (xs : List α) (W : World), w.heap.size ≤ D → S xs → I xs W → W.heap[D]? = some (.deferred (some [])) → Q .normal { a with defers := { target := .collected D, args := #[] } :: a.defers } W)
    (hstop : ∀ (D : Nat) (pre : List α) (W : World), w.heap.size ≤ D → Sp pre → Ix pre W → W.heap[D]? = some (.deferred (some [])) → Code.ret.wpIn F n P Q { a with defers := { target := .collected D, args := #[] } :: a.defers } W) :
    (Code.rangeFunc g ps assign body).wpIn F n P Q a w := by
  refine wpIn_rangeFunc fun fn hfn => ?_
  rw [hro]
  obtain ⟨D, hD⟩ : ∃ D, w.heap.size = D := ⟨_, rfl⟩
  obtain ⟨rec, hrec⟩ : ∃ rec, recJ fn a.tmps ps assign body D = rec := ⟨_, rfl⟩
  have hnc : ∀ s j, (rec s j).isCells = false := fun s j => by rw [← hrec]; rfl
  obtain ⟨W0, hW0⟩ : ∃ W0, w.alloc (.deferred (some [])) = W0 := ⟨_, rfl⟩
  have hs0 : W0.heap.size = D + 1 := by rw [← hW0, World.size_alloc, hD]
  have hd0 : W0.heap[D]? = some (.deferred (some [])) := by rw [← hW0, ← hD]; exact World.alloc_heap_new w _
  have hi0 : I [] W0 := by rw [← hW0]; exact hI _ _ _ h0 (Calm.alloc _ _ _)
  have hb0 : Below w.heap.size w W0 := by rw [← hW0]; exact (Below.refl _ w).alloc (Nat.le_refl _) _
  have hent := run_enterLoop_outer (P := P) (w := w) fn a.tmps ps assign body
  rw [hW0, hD] at hent
  change _ = Result.ok _ (W0.alloc (recJ fn a.tmps ps assign body D .ready none)) at hent
  rw [hrec] at hent
  have hl1 : (W0.alloc (rec .ready none)).heap[D + 1]? = some (rec .ready none) := by rw [← hs0]; exact World.alloc_heap_new W0 _
  have hd1 : (W0.alloc (rec .ready none)).heap[D]? = some (.deferred (some [])) := (Below.heap_alloc _ _ _ (by omega)).trans hd0
  have hi1 : I [] (W0.alloc (rec .ready none)) := hI _ _ _ hi0 (Calm.alloc _ _ _)
  have hb1 : Below w.heap.size w (W0.alloc (rec .ready none)) := hb0.alloc (by omega) _
  have hs1 : (W0.alloc (rec .ready none)).heap.size = D + 2 := by rw [World.size_alloc, hs0]
  generalize W0.alloc (rec .ready none) = W1 at hent hl1 hd1 hi1 hb1 hs1
  refine ⟨D + 1, _, W1, { target := .fn (.func gf) lb, args := #[.func (.yield (D + 1)) #[] #[]] }, W1, gf, #[.func (.yield (D + 1)) #[] #[]] ++ lb, W1, hent, ?_, ?_, ?_, fun _ => h1, ?_⟩
  · simp only [resolve, hg]
    simp [go_sem]
  · intro f' hf'
    simp [Target.leads] at hf'
    subst hf'
    exact hFg
  · simp [invoke, go_sem, eg]
  · refine (hseq (D + 1) (fun pre W => I pre W ∧ W.heap[D + 1]? = some (rec .ready none) ∧ W.heap[D]? = some (.deferred (some [])))
      (fun pre W => Ix pre W ∧ W.heap[D + 1]? = some (rec .done (some .ret)) ∧ W.heap[D]? = some (.deferred (some []))) W1 hb1 ?_ ?_ ?_ ⟨hi1, hl1, hd1⟩).mono ?_
    · rintro pre A B ⟨h1, h2, h3⟩ hc
      have hlt := (Array.getElem?_eq_some_iff.1 h2).1
      exact ⟨hI _ _ _ h1 (hc.mono (by omega)), (hc.low _ (by omega) hlt).trans h2, (hc.low _ (by omega) (by omega)).trans h3⟩
    · rintro pre A B ⟨h1, h2, h3⟩ hc
      have hlt := (Array.getElem?_eq_some_iff.1 h2).1
      exact ⟨hIx _ _ _ h1 (hc.mono (by omega)), (hc.low _ (by omega) hlt).trans h2, (hc.low _ (by omega) (by omega)).trans h3⟩
    · -- a round
      rintro pre x W ⟨hi, hl, hd⟩ hR hsz
      have hlV := (Array.getElem?_eq_some_iff.1 hl).1
      rw [← hrec] at hl
      refine yield_round2 hfn (hps x) hl ?_
      rw [hrec] at hl ⊢
      refine htake _ W1.heap.size pre x W _ (by omega) hsz hi hR fun a' W' hkf hkp hax => ?_
      have hl' := hkf.same _ _ (by omega) hl (hnc _ _)
      have hd' := hkf.same _ _ (by omega) hd rfl
      refine ⟨hl', ?_⟩
      have hax2 := (hAx pre x a') () _ _ hax (Calm.putObj (rec .busy none) hl' (hnc _ _) (by omega))
      have hkp2 := hKb W1.heap.size W' (D + 1) _ (rec .busy none) (by omega) (by omega) hl' (hnc _ _)
      have hl2 : (W'.putObj (D + 1) (rec .busy none)).heap[D + 1]? = some (rec .busy none) := World.putObj_heap_same (Array.getElem?_eq_some_iff.1 hl').1
      have hd2 : (W'.putObj (D + 1) (rec .busy none)).heap[D]? = some (.deferred (some [])) := (World.putObj_heap_other (by omega)).trans hd'
      have hz2 : (W'.putObj (D + 1) (rec .busy none)).heap.size = W'.heap.size := by simp [World.putObj]
      refine wpIn_mono (hbody (D + 1) W1.heap.size pre x a' _ (by omega) (by have := hkf.size; omega) hax2) ?_
      rintro e a3 W3 hp
      cases e with
      | normal =>
        obtain ⟨hkf3, hkp3, hi3⟩ := hp
        have hl3 := hkf3.same _ _ (by omega) hl2 (hnc _ _)
        have hd3 := hkf3.same _ _ (by omega) hd2 rfl
        exact ⟨hl3, .inl ⟨rfl, ⟨hI _ _ _ hi3 (Calm.putObj _ hl3 (hnc _ _) (by omega)), World.putObj_heap_same (Array.getElem?_eq_some_iff.1 hl3).1, (World.putObj_heap_other (by omega)).trans hd3⟩,
          hKt hkp (hKt (hKt hkp2 hkp3) (hKb _ W3 (D + 1) _ _ (by omega) (by omega) hl3 (hnc _ _)))⟩⟩
      | ret =>
        obtain ⟨hlv, hkf3, hi3⟩ := hp
        have hl3 := hkf3.same _ _ (by omega) hl2 (hnc _ _)
        have hd3 := hkf3.same _ _ (by omega) hd2 rfl
        exact ⟨hl3, .inr ⟨hlv, rfl, hIx _ _ _ hi3 (Calm.putObj _ hl3 (hnc _ _) (by omega)), World.putObj_heap_same (Array.getElem?_eq_some_iff.1 hl3).1, (World.putObj_heap_other (by omega)).trans hd3⟩⟩
      | _ => exact (show False from hp).elim
    · -- behind it
      rintro e W2 ⟨⟨v, rfl⟩, ⟨xs, hS, hi, hl, hd⟩ | ⟨pre, hS, hi, hl, hd⟩⟩
      · have hi' := hI _ _ _ hi (Calm.putObj (recJ fn a.tmps ps assign body D .exhausted none) hl (hnc _ _) (by omega))
        rw [← hrec] at hl
        exact ⟨none, _, run_endLoop hl (by simp), hdone D xs _ (by omega) hS hi' ((World.putObj_heap_other (by omega)).trans hd)⟩
      · have hi' := hIx _ _ _ hi (Calm.putObj (recJ fn a.tmps ps assign body D .exhausted (some .ret)) hl (hnc _ _) (by omega))
        rw [← hrec] at hl
        exact ⟨some .ret, _, run_endLoop hl (by simp), hstop D pre _ (by omega) hS hi' ((World.putObj_heap_other (by omega)).trans hd)⟩
end Go.Proofs.YtimihhcidbeonaaGreat
namespace Go.Proofs.YtimihhcidbeonaaGreat
open Go.RowKit
variable {P : Program} {ops : Array Oper} {Q : Exit → Act → World → Prop} {md : Region.Mode} {n l : Nat}
/-- No operation is a deferred call. -/
def noDefer (ops : Array Oper) : Bool := ops.all fun o => match o.op with | .defer _ => false | _ => true
theorem noDefer_spec {ops : Array Oper} (h : noDefer ops = true) {i : Nat} {o : Oper} (ho : ops[i]? = some o) : ∀ c, o.op ≠ .defer c := by
  intro c e
  have := Array.all_eq_true.1 h i (Array.getElem?_eq_some_iff.1 ho).1
  rw [(Array.getElem?_eq_some_iff.1 ho).2, e] at this
  cases this
theorem wpOp_round (hd : noDefer ops = true) (hl : ¬ LetsOut Q) {i : Nat} {a : Act} {w : World} {K : Act → World → Prop} (h : wpOp P ops Q i K a w) : wpOpIn (Fence.wide.inRound l) n P ops Q i K a w := by
  unfold wpOp at h
  unfold wpOpIn
  cases ho : ops[i]? with
  | none => rw [ho] at h; exact h
  | some o =>
    rw [ho] at h
    dsimp only at h ⊢
    by_cases hw : Region.wanted o (yielded ops a.tmps) = true
    · rw [if_pos hw] at h ⊢
      rcases h with h | ⟨_, h⟩
      · refine ⟨fun _ _ => trivial, ?_⟩
        rw [Oper.semAt_eq _ _ _ (noDefer_spec hd ho)]
        unfold Oper.wp at h
        generalize (execOp a.eval o).run P w = r at h ⊢
        cases r with
        | ok x w' =>
          cases x <;> simp only [Oper.upon] at h <;> simp only [Oper.uponIn] <;> first
            | exact h
            | exact h.elim
            | exact ⟨fun h => (by cases h), (show CallsIn Fence.wide _ _ _ _ _ _ from callsIn_wide.2 h)⟩
            | (refine ⟨fun h => (by cases h), fun c cs _ => ?_⟩; obtain ⟨v, w2, r, s⟩ := h c cs; exact ⟨v, w2, r, stepsIn_wide.2 s⟩)
        | halt x w' => cases x <;> simp only [Oper.upon] at h <;> simp only [Oper.uponIn] <;> first | exact h | exact h.elim
      · exact absurd h hl
    · rw [if_neg hw] at h ⊢
      exact ⟨fun _ _ => trivial, h⟩
theorem wpAny_round (hd : noDefer ops = true) (hl : ¬ LetsOut Q) : ∀ (fuel : Nat) (listed : Array Bool) (a : Act) (w : World), wpAny P md ops Q fuel listed a w → wpAnyIn (Fence.wide.inRound l) n P md ops Q fuel listed a w
  | 0, _, _, _, h => h
  | fuel + 1, _, _, _, h => ⟨h.1, fun i hi => wpOpIn_mono (fun a' w' h' => wpAny_round hd hl fuel _ a' w' h') (wpOp_round hd hl (h.2 i hi))⟩
/-- The region, by a condition on its worlds. -/
theorem wpIn_region_round {id : Nat} {a : Act} {w : World} {S : World → Prop} (hm : P.follows .mixedOrders = true) (hd : noDefer ops = true) (hl : ¬ LetsOut Q) (hS : S w.drew)
    (h : S w.drew → wpAnyH P .any ops Q S ops.size (Array.replicate ops.size false) a w.drew) : (Code.region id ops true).wpIn (Fence.wide.inRound l) n P Q a w :=
  wpIn_region_any hm (wpAny_round hd hl _ _ _ _ (wpAny_of_held _ _ _ _ (h hS)))
end Go.Proofs.YtimihhcidbeonaaGreat

namespace Go.Proofs.YtimihhcidbeonaaGreat
open Go.RowKit
/-- The first entry whose key is the same as k, by s. -/
def findE (s : Value → Bool) : List MapEntry → Nat → Option (Nat × Value)
  | [], _ => none
  | e :: es, i => if s e.key then some (i, e.val) else findE s es (i + 1)
section
variable {P : Program} {w : World} {kt : TypeId} {k : Value} {s : Value → Bool}
theorem run_findAsking : ∀ (es : List MapEntry) (i : Nat), (∀ e ∈ es, (Op.equal kt k e.key).run P w = .ok (s e.key) w) → (Instr.findAsking kt k es i).run P w = .ok (findE s es i) w
  | [], i, _ => by simp [Instr.findAsking, findE]
  | e :: es, i, h => by
    have h1 := h e (List.mem_cons_self ..)
    have h2 := run_findAsking es (i + 1) (fun e' he => h e' (List.mem_cons_of_mem _ he))
    simp only [Instr.findAsking, Sem.run_bind, h1, Result.andThen_ok, findE]
    cases s e.key
    · simpa using h2
    · simp
theorem findNow_struct {fs : Array Field} : ∀ (es : List MapEntry) (i : Nat), Instr.findNow (.struct fs) k es i = if es = [] then some none else none
  | [], i => by simp [Instr.findNow]
  | e :: es, i => by simp [Instr.findNow, Instr.sameNow]
theorem run_findKey_struct {fs : Array Field} (hk : P.underlying kt = some (.struct fs)) (es : List MapEntry) (h : ∀ e ∈ es, (Op.equal kt k e.key).run P w = .ok (s e.key) w) : (Instr.findKey kt k es).run P w = .ok (findE s es 0) w := by
  unfold Instr.findKey
  rw [Sem.run_bind, run_underlying hk, Result.andThen_ok, findNow_struct]
  cases es with
  | nil => simp [findE]
  | cons e es =>
    simp only [reduceCtorEq, if_false]
    exact run_findAsking _ 0 h
/-- m[k] (ok: with 'ok'). -/
theorem run_lookup_struct {fs : Array Field} {t et : TypeId} {r : Nat} {es : Array MapEntry} {clock : Nat} {zero : Value} (hk : P.underlying kt = some (.struct fs)) (ht : P.underlying t = some (.map kt et)) (hb : w.heap[r]? = some (.map es clock))
    (hc : ∀ b, (Instr.checkKey b 10000 kt k).run P w = .ok () w) (hz : (zeroValue et).run P w = .ok zero w) (h : ∀ e ∈ es.toList, (Op.equal kt k e.key).run P w = .ok (s e.key) w) (ok : Bool) :
    (Instr.lookup t (.map (some r)) k ok).run P w = .ok (match findE s es.toList 0 with
      | some (_, v) => if ok then .tuple #[v, .bool true] else v
      | none => if ok then .tuple #[zero, .bool false] else zero) w := by
  have hf := run_findKey_struct hk es.toList h
  have hg : (getObj r).run P w = .ok (.map es clock) w := by simp [getObj, Sem.run, hb]
  unfold Instr.lookup
  simp only [Sem.run_bind, run_underlying ht, Result.andThen_ok, hg, Sem.run_pure, hc, hf]
  cases findE s es.toList 0 with
  | none => cases ok <;> simp [hz]
  | some p => obtain ⟨i, v⟩ := p; cases ok <;> simp
/-- m[k] = v. -/
theorem run_mapUpdate_struct {fs : Array Field} {t et : TypeId} {r : Nat} {es : Array MapEntry} {clock : Nat} {v : Value} (hk : P.underlying kt = some (.struct fs)) (ht : P.underlying t = some (.map kt et)) (hb : w.heap[r]? = some (.map es clock))
    (hc : ∀ b, (Instr.checkKey b 10000 kt k).run P w = .ok () w) (h : ∀ e ∈ es.toList, (Op.equal kt k e.key).run P w = .ok (s e.key) w) (hn : findE s es.toList 0 = none) :
    (Instr.mapUpdate t (.map (some r)) k v).run P w = .ok () (w.putObj r (.map (es.push { key := k, val := v, born := clock }) (clock + 1))) := by
  have hf := run_findKey_struct hk es.toList h
  rw [hn] at hf
  have hg : (getObj r).run P w = .ok (.map es clock) w := by simp [getObj, Sem.run, hb]
  have hs : ∀ o, (setObj r o).run P w = .ok () (w.putObj r o) := fun o => by simp [setObj, Sem.run, hb, World.putObj]
  unfold Instr.mapUpdate
  simp only [Sem.run_bind, run_underlying ht, Result.andThen_ok, hg, hc, hf]
  rw [hs]
end
end Go.Proofs.YtimihhcidbeonaaGreat

namespace Go.Proofs.YtimihhcidbeonaaGreat
open Go.RowKit
def NameC : Prop := ∀ (xs : List Int) (w : World), (∀ x ∈ xs, 0 ≤ x ∧ x < 256) → xs.length ≤ maxLen → Calls Tryz.prog 90 #[.string (strOfNums xs)] w fun e w' => e = .returned (.bool (okName xs)) ∧ Below w.heap.size w w'
def CheckC : Prop := ∀ (A : Option Addr) (c : Nat) (ds : List Pd) (w : World), PredRow w w.heap.size (.slice A ds.length c) ds → Calls Tryz.prog 43 #[.slice A ds.length c] w fun e w' => e = .returned (.int .i64 (checkP (ds.map (·.p)))) ∧ Below w.heap.size w w'
end Go.Proofs.YtimihhcidbeonaaGreat
namespace Go.Proofs.YtimihhcidbeonaaGreat
open Go.RowKit
/-- A key's value. -/
abbrev keyV (nm : List Int) : Value := .agg #[.string (strOfNums nm)]
theorem part_str (w : World) (t : TypeId) (cs : Array Value) (i : Nat) (s : ByteArray) (ht : Tryz.prog.underlying t = some .string) (hi : cs[i]? = some (.string s)) : (part t cs i).run Tryz.prog w = .ok (.string s) w := by
  unfold part isAgg
  simp [run_underlying ht, hi, Result.andThen]
theorem key_eq (w : World) (a b : ByteArray) : (Op.equal 169 (.agg #[.string a]) (.agg #[.string b])).run Tryz.prog w = .ok (a.toList == b.toList) w := by
  unfold Op.equal
  rw [show Op.maxDepth = 9998 + 1 + 1 from rfl, run_equalIn_struct (P := Tryz.prog) w _ 169 _ _ (by kernel_rfl) (by kernel_rfl)]
  simp [Program.fieldsOf, Tryz.underlying169, Op.eqFields]
  rw [part_str w 9 _ 0 a Tryz.underlying9 rfl, Result.andThen_ok, part_str w 9 _ 0 b Tryz.underlying9 rfl, Result.andThen_ok, show (9999 : Nat) = 9998 + 1 from rfl, run_equalIn_string (P := Tryz.prog) w 9998 9 a b Tryz.underlying9, Result.andThen_ok]
  cases a.toList == b.toList <;> simp
theorem key_check (w : World) (a : ByteArray) (b : Bool) : (Instr.checkKey b 10000 169 (.agg #[.string a])).run Tryz.prog w = .ok () w := by
  unfold Instr.checkKey
  rw [Sem.run_bind, run_underlying Tryz.underlying169]
  simp [Result.andThen]
  rw [part_str w 9 _ 0 a Tryz.underlying9 rfl]
  simp only
  rw [show (9999 : Nat) = 9998 + 1 from rfl]
  unfold Instr.checkKey
  rw [Sem.run_bind, run_underlying Tryz.underlying9]
  simp [Result.andThen]
/-- The map in block r holds these names, each with its value, in this order. -/
def MapOf (w : World) (r : Nat) (L : List (List Int × Value)) : Prop := ∃ es clock, w.heap[r]? = some (.map es clock) ∧ es.toList.map (fun e => (e.key, e.val)) = L.map (fun p => (keyV p.1, p.2))
def NamesB (L : List (List Int × Value)) : Prop := ∀ p ∈ L, ∀ x ∈ p.1, 0 ≤ x ∧ x < 256
theorem MapOf.lt {w : World} {r : Nat} {L : List (List Int × Value)} (h : MapOf w r L) : r < w.heap.size := by
  obtain ⟨es, clock, hb, _⟩ := h
  exact (Array.getElem?_eq_some_iff.1 hb).1
theorem MapOf.below {w w' : World} {r B : Nat} {L : List (List Int × Value)} (h : MapOf w r L) (hb : Below B w w') (hr : r < B) : MapOf w' r L := by
  obtain ⟨es, clock, he, h2⟩ := h
  exact ⟨es, clock, (hb.block r hr).trans he, h2⟩
theorem MapOf.new (w : World) : MapOf (w.alloc (.map #[] 0)) w.heap.size [] := ⟨#[], 0, heap_alloc_new w _, rfl⟩
/-- The first of a name. -/
def lookL (nm : List Int) : List (List Int × Value) → Option Value
  | [] => none
  | p :: l => if p.1 = nm then some p.2 else lookL nm l
theorem lookL_none {nm : List Int} : ∀ {l : List (List Int × Value)}, (∀ p ∈ l, p.1 ≠ nm) → lookL nm l = none
  | [], _ => rfl
  | p :: l, h => by
    rw [lookL, if_neg (h p (List.mem_cons_self ..))]
    exact lookL_none fun q hq => h q (List.mem_cons_of_mem _ hq)
theorem lookL_some {nm : List Int} : ∀ {l : List (List Int × Value)}, (∃ p ∈ l, p.1 = nm) → ∃ p ∈ l, p.1 = nm ∧ lookL nm l = some p.2
  | [], h => by obtain ⟨p, hp, _⟩ := h; simp at hp
  | p :: l, h => by
    by_cases e : p.1 = nm
    · exact ⟨p, List.mem_cons_self .., e, by rw [lookL, if_pos e]⟩
    · obtain ⟨q, hq, eq⟩ := h
      rcases List.mem_cons.1 hq with rfl | hq
      · exact absurd eq e
      · obtain ⟨q', h1, h2, h3⟩ := lookL_some (l := l) ⟨q, hq, eq⟩
        exact ⟨q', List.mem_cons_of_mem _ h1, h2, by rw [lookL, if_neg e, h3]⟩
/-- Is a key the one of a name? -/
def keyIs (nm : List Int) : Value → Bool
  | .agg cs => match (cs[0]? : Option Value) with
    | some (Value.string b) => (strOfNums nm).toList == b.toList
    | _ => false
  | _ => false
theorem keyIs_key (nm : List Int) (b : ByteArray) : keyIs nm (.agg #[.string b]) = ((strOfNums nm).toList == b.toList) := by simp [keyIs]
theorem keyIs_eq {nm m : List Int} (hn : ∀ x ∈ nm, 0 ≤ x ∧ x < 256) (hm : ∀ x ∈ m, 0 ≤ x ∧ x < 256) : keyIs nm (keyV m) = decide (m = nm) := by
  rw [keyIs_key, str_eq_dec hn hm]
  exact decide_eq_decide.2 eq_comm
theorem findE_look {nm : List Int} (hn : ∀ x ∈ nm, 0 ≤ x ∧ x < 256) : ∀ (es : List MapEntry) (L : List (List Int × Value)) (i : Nat), NamesB L → es.map (fun e => (e.key, e.val)) = L.map (fun p => (keyV p.1, p.2)) →
    (findE (keyIs nm) es i).map (·.2) = lookL nm L
  | [], [], _, _, _ => rfl
  | [], _ :: _, _, _, h => by simp at h
  | _ :: _, [], _, _, h => by simp at h
  | e :: es, p :: L, i, hb, h => by
    simp only [List.map_cons, List.cons.injEq, Prod.mk.injEq] at h
    obtain ⟨⟨h1, h2⟩, h3⟩ := h
    have ih := findE_look hn es L (i + 1) (fun q hq => hb q (List.mem_cons_of_mem _ hq)) h3
    rw [findE, lookL, h1, keyIs_eq hn (hb p (List.mem_cons_self ..))]
    by_cases e1 : p.1 = nm
    · simp [e1, h2]
    · rw [decide_eq_false e1, if_neg e1]
      simpa using ih
section
variable {w : World} {r : Nat} {L : List (List Int × Value)} {nm : List Int}
set_option maxRecDepth 100000 in
theorem MapOf.keys (h : MapOf w r L) (nm : List Int) : ∃ es clock, w.heap[r]? = some (.map es clock) ∧ es.toList.map (fun e => (e.key, e.val)) = L.map (fun p => (keyV p.1, p.2)) ∧
    ∀ e ∈ es.toList, (Op.equal 169 (keyV nm) e.key).run Tryz.prog w = .ok (keyIs nm e.key) w := by
  obtain ⟨es, clock, h1, h2⟩ := h
  refine ⟨es, clock, h1, h2, fun e he => ?_⟩
  have : (e.key, e.val) ∈ L.map (fun p => (keyV p.1, p.2)) := by rw [← h2]; exact List.mem_map.2 ⟨e, he, rfl⟩
  obtain ⟨p, _, hp⟩ := List.mem_map.1 this
  injection hp with hk _
  rw [← hk, keyIs_key]
  exact key_eq w _ _
/-- What a look-up in it comes to; t: the map's type, zero: its elements' zero value. -/
theorem MapOf.look (h : MapOf w r L) (hb : NamesB L) (hn : ∀ x ∈ nm, 0 ≤ x ∧ x < 256) {t et : TypeId} {zero : Value} (ht : Tryz.prog.underlying t = some (.map 169 et)) (hz : (zeroValue et).run Tryz.prog w = .ok zero w) (ok : Bool) :
    (Instr.lookup t (.map (some r)) (keyV nm) ok).run Tryz.prog w = .ok (match lookL nm L with
      | some v => if ok then .tuple #[v, .bool true] else v
      | none => if ok then .tuple #[zero, .bool false] else zero) w := by
  obtain ⟨es, clock, h1, h2, h3⟩ := h.keys nm
  rw [run_lookup_struct Tryz.underlying169 ht h1 (fun b => key_check w _ b) hz h3 ok, ← findE_look hn es.toList L 0 hb h2]
  cases findE (keyIs nm) es.toList 0 with
  | none => rfl
  | some p => rfl
/-- What a store of a new name comes to. -/
theorem MapOf.add (h : MapOf w r L) (hb : NamesB L) (hn : ∀ x ∈ nm, 0 ≤ x ∧ x < 256) {t et : TypeId} (ht : Tryz.prog.underlying t = some (.map 169 et)) (hnew : ∀ p ∈ L, p.1 ≠ nm) (v : Value) :
    ∃ o, (Instr.mapUpdate t (.map (some r)) (keyV nm) v).run Tryz.prog w = .ok () (w.putObj r o) ∧ MapOf (w.putObj r o) r (L ++ [(nm, v)]) := by
  obtain ⟨es, clock, h1, h2, h3⟩ := h.keys nm
  have hf : findE (keyIs nm) es.toList 0 = none := by
    have := findE_look hn es.toList L 0 hb h2
    rw [lookL_none hnew] at this
    cases hq : findE (keyIs nm) es.toList 0 with
    | none => rfl
    | some p => rw [hq] at this; simp at this
  refine ⟨_, run_mapUpdate_struct Tryz.underlying169 ht h1 (fun b => key_check w _ b) h3 hf, es.push { key := keyV nm, val := v, born := clock }, clock + 1, ?_, ?_⟩
  · have hlt := (Array.getElem?_eq_some_iff.1 h1).1
    show (w.heap.setIfInBounds r _)[r]? = _
    rw [Array.getElem?_setIfInBounds_self_of_lt hlt]
  · rw [Array.toList_push, List.map_append, h2, List.map_append]
    rfl
theorem below_putObj {B : Nat} {w w' : World} (h : Below B w w') (hr : B ≤ r) (o : Obj) : Below B w (w'.putObj r o) :=
  ⟨h.os, h.tape, h.output, Nat.le_trans h.size (by simp [World.putObj]), fun k hk => by
    rw [← h.block k hk]
    show (w'.heap.setIfInBounds r o)[k]? = _
    rw [Array.getElem?_setIfInBounds_ne (by omega)]⟩
end
end Go.Proofs.YtimihhcidbeonaaGreat
namespace Go.Proofs.YtimihhcidbeonaaGreat
open Go.RowKit
/-- The map's entries behind the first k predicates: the first one of each name, with its number. -/
def Kept (ds : List Pd) (k : Nat) (L : List (List Int × Value)) : Prop :=
  (∀ p ∈ L, ∃ (j : Nat) (d : Pd), j < k ∧ ds[j]? = some d ∧ p = (d.p.name, .int .i64 j) ∧ ∀ (i : Nat) (q : Pd), i < j → ds[i]? = some q → q.p.name ≠ d.p.name) ∧
  ∀ (j : Nat) (d : Pd), j < k → ds[j]? = some d → ∃ p ∈ L, p.1 = d.p.name
theorem Kept.nil (ds : List Pd) : Kept ds 0 [] := ⟨fun p h => by simp at h, fun j _ h => absurd h (Nat.not_lt_zero _)⟩
/-- One more predicate: its name is there already, or it is put behind. -/
theorem Kept.step {ds : List Pd} {k : Nat} {L : List (List Int × Value)} {d : Pd} (h : Kept ds k L) (hd : ds[k]? = some d) :
    (∃ v, lookL d.p.name L = some v ∧ Kept ds (k + 1) L) ∨ (lookL d.p.name L = none ∧ (∀ p ∈ L, p.1 ≠ d.p.name) ∧ Kept ds (k + 1) (L ++ [(d.p.name, .int .i64 k)])) := by
  obtain ⟨h1, h2⟩ := h
  by_cases hin : ∃ p ∈ L, p.1 = d.p.name
  · left
    obtain ⟨q, _, _, hq⟩ := lookL_some hin
    refine ⟨q.2, hq, fun p hp => ?_, fun j e hj he => ?_⟩
    · obtain ⟨j, e, q1, q2, q3, q4⟩ := h1 p hp
      exact ⟨j, e, by omega, q2, q3, q4⟩
    · rcases Nat.lt_or_ge j k with h | h
      · exact h2 j e h he
      · obtain rfl : j = k := by omega
        rw [hd] at he
        injection he with he
        subst he
        exact hin
  · right
    have hno : ∀ p ∈ L, p.1 ≠ d.p.name := fun p hp e => hin ⟨p, hp, e⟩
    refine ⟨lookL_none hno, hno, fun p hp => ?_, fun j e hj he => ?_⟩
    · rcases List.mem_append.1 hp with hp | hp
      · obtain ⟨j, e, q1, q2, q3, q4⟩ := h1 p hp
        exact ⟨j, e, by omega, q2, q3, q4⟩
      · rw [List.mem_singleton] at hp
        refine ⟨k, d, by omega, hd, hp, fun i q hi hq e => ?_⟩
        obtain ⟨p2, hp2, e2⟩ := h2 i q hi hq
        exact hno p2 hp2 (e2.trans e)
    · rcases Nat.lt_or_ge j k with h | h
      · obtain ⟨p, hp, e2⟩ := h2 j e h he
        exact ⟨p, List.mem_append_left _ hp, e2⟩
      · obtain rfl : j = k := by omega
        rw [hd] at he
        injection he with he
        subst he
        exact ⟨_, List.mem_append_right _ (List.mem_singleton.2 rfl), rfl⟩
/-- What a look-up of any name comes to. -/
theorem Kept.look {ds : List Pd} {L : List (List Int × Value)} (h : Kept ds ds.length L) (nm : List Int) :
    (findP (ds.map (·.p)) nm = -1 ∧ lookL nm L = none) ∨ ∃ r : Nat, findP (ds.map (·.p)) nm = (r : Int) ∧ lookL nm L = some (.int .i64 r) ∧ r < ds.length := by
  obtain ⟨h1, h2⟩ := h
  rcases findP_ways (ds.map (·.p)) nm with ⟨e, hn⟩ | ⟨r, p, e, hp, hpn, hn⟩
  · left
    refine ⟨e, lookL_none fun q hq he => ?_⟩
    obtain ⟨j, d, _, q2, q3, _⟩ := h1 q hq
    exact hn j d.p (at_pr q2) (by rw [← he, q3])
  · right
    obtain ⟨d, hd, rfl⟩ := pr_at hp
    have hr := (List.getElem?_eq_some_iff.1 hd).1
    obtain ⟨q, hq, he⟩ := h2 r d hr hd
    obtain ⟨q', hq', he', hl⟩ := lookL_some ⟨q, hq, he.trans hpn⟩
    obtain ⟨j, d', q1, q2, q3, q4⟩ := h1 q' hq'
    have hj : j = r := by
      rcases Nat.lt_trichotomy j r with h | h | h
      · exact absurd (by rw [← he', q3]) (hn j d'.p h (at_pr q2))
      · exact h
      · exact absurd (by rw [hpn, ← he', q3]) (q4 r d h hd)
    subst hj
    exact ⟨j, e, by rw [hl, q3], hr⟩
theorem Kept.names {ds : List Pd} {k : Nat} {L : List (List Int × Value)} (h : Kept ds k L) (hb : ∀ d ∈ ds, ∀ x ∈ d.p.name, 0 ≤ x ∧ x < 256) : NamesB L := fun p hp => by
  obtain ⟨j, d, _, q2, rfl, _⟩ := h.1 p hp
  exact hb d (List.mem_of_getElem? q2)
theorem PredRow.bytes {w : World} {B : Nat} {v : Value} {ds : List Pd} (h : PredRow w B v ds) : ∀ d ∈ ds, ∀ x ∈ d.p.name, 0 ≤ x ∧ x < 256 := by
  obtain ⟨A, c, hv, h1, h2, h3, h4, h5⟩ := h
  exact fun d hd => (h5 d hd).2.2.1
set_option maxRecDepth 100000 in
theorem key_any (s : ByteArray) (A : Option Addr) (n c : Nat) (w : World) : Calls Tryz.prog 91 #[.agg #[.string s, .slice A n c]] w fun e w' => e = .returned (.agg #[.string s]) ∧ Below w.heap.size w w' := by
  go_enter Tryz.func91, Tryz.ntmps91
  go_wp2_with fail
  exact bodyPost_ret (v := .agg #[.string s]) (by simp [results, Tryz.results91, go_sem]) rfl ⟨rfl, ((Below.refl _ _).alloc (Nat.le_refl _) _).alloc (by simp) _⟩
theorem Tryz.infoInt : (Tryz.prog.info? 3).map (fun i => (i.zero, i.size, i.bytes)) = some (some (.int .i64 0), 1, 8) := by kernel_rfl
theorem zero_int (w : World) : (zeroValue 3).run Tryz.prog w = .ok (.int .i64 0) w := by
  obtain ⟨i0, hi, hz0, _, _⟩ := info_parts Tryz.infoInt
  simp [zeroValue, typeInfo, hi, hz0]
set_option maxRecDepth 100000 in
set_option maxHeartbeats 2000000 in
theorem firsts_any (A : Option Addr) (c : Nat) (ds : List Pd) (w : World) (hrow : PredRow w w.heap.size (.slice A ds.length c) ds) :
    Calls Tryz.prog 89 #[.slice A ds.length c] w fun e w' => ∃ L, e = .returned (.map (some w.heap.size)) ∧ Kept ds ds.length L ∧ MapOf w' w.heap.size L ∧ Below w.heap.size w w' := by
  obtain ⟨_, hc1, hc2⟩ : ∃ _ : True, ds.length ≤ c ∧ c ≤ 9223372036854775807 := by
    obtain ⟨A', c', hv, q1, q2⟩ := hrow.form
    injection hv with _ _ e3
    exact ⟨trivial, by omega, by omega⟩
  have HBY := Lib.hid hrow.bytes
  have HROW := Lib.hid hrow
  clear hrow
  have hmm := @run_makeMap Tryz.prog
  go_enter Tryz.func89, Tryz.ntmps89
  go_wp2_with fail
  obtain ⟨r, hr⟩ : ∃ r, w.heap.size = r := ⟨_, rfl⟩
  have hm0 := MapOf.new w
  have hb0 : Below w.heap.size w (w.alloc (.map #[] 0)) := (Below.refl _ _).alloc (Nat.le_refl _) _
  rw [hr] at hm0 hb0 HROW ⊢
  have HM0 := Lib.hid hm0
  have HB0 := Lib.hid hb0
  clear hm0 hb0 hmm
  go_loopg [11] ds.length (fun gk i wr => ∃ (k : Nat) (L : List (List Int × Value)), k ≤ ds.length ∧ i = .int .i64 k ∧ Hid (ds.length - k = gk) ∧ Hid (Kept ds k L) ∧ Hid (MapOf wr r L) ∧ Hid (Below r w wr))
  case atStart => exact ⟨0, [], Nat.zero_le _, rfl, Lib.hid rfl, Lib.hid (Kept.nil ds), HM0, HB0⟩
  case round =>
    obtain ⟨k, L, hk, rfl, HGK, HK, HM, HBR⟩ := hrel
    have hlr := HM.out.lt
    by_cases hlt : k < ds.length
    · obtain ⟨d, hd⟩ : ∃ d, ds[k]? = some d := ⟨_, List.getElem?_eq_getElem hlt⟩
      have HST := Lib.hid (HK.out.step hd)
      obtain ⟨b, o, rfl, hb, x0, x1, hir, hfit, ha1, ha2⟩ := (HROW.out.below HBR.out).at hd
      have HNB := Lib.hid (HK.out.names HBY.out)
      have HFT := Lib.hid hfit.2.1
      obtain ⟨dA, hdA⟩ : ∃ dA, d.A = dA := ⟨_, rfl⟩
      rw [hdA] at x1
      obtain ⟨w1, hw1⟩ : ∃ w1, wr.alloc (.cells #[.string (strOfNums d.p.name), .slice dA d.p.args.length d.c] 88) = w1 := ⟨_, rfl⟩
      have s1 : w1.heap.size = wr.heap.size + 1 := by rw [← hw1]; simp
      have b1 : Below wr.heap.size wr w1 := by rw [← hw1]; exact (Below.refl _ _).alloc (Nat.le_refl _) _
      have h1 : Held w1 wr.heap.size 88 #[.string (strOfNums d.p.name), .slice dA d.p.args.length d.c] := by rw [← hw1]; exact heap_alloc_new wr _
      have HP1 := Lib.hid h1
      have HM1 := Lib.hid (HM.out.below b1 hlr)
      have HB1 := Lib.hid (HBR.out.trans (b1.mono (Nat.le_of_lt hlr)))
      have p0 := h1.cell 0
      have p1 := h1.cell 1
      have hl1 : wr.heap.size < w1.heap.size := by omega
      simp at p0 p1
      have HKY := Lib.hid (fun W => key_any (strOfNums d.p.name) dA d.p.args.length d.c W)
      clear h1 b1 hir hfit hd hdA
      go_wp2_with fail
      refine (HKY.out _).mono ?_
      rintro e w2 ⟨rfl, hb2⟩
      have hz2 : w1.heap.size ≤ w2.heap.size := hb2.size
      have HM2 := Lib.hid (HM1.out.below hb2 (by omega))
      have HB2 := Lib.hid (HB1.out.trans (hb2.mono (by omega)))
      have HP2 := Lib.hid (HP1.out.below hb2 (by omega))
      have hlk := HM2.out.look HNB.out HFT.out (t := 166) Tryz.underlying166 (zero_int w2) true
      rcases HST.out with ⟨v, h3, hk3⟩ | ⟨h3, h4, hk3⟩
      · rw [h3] at hlk
        have HK3 := Lib.hid hk3
        simp only [if_true] at hlk
        clear hb2 hk3 h3 x0 x1
        go_wp2_with fail
        go_roundg (ds.length - (k + 1))
        case measure => have := HGK.out; omega
        case rel => exact ⟨k + 1, L, by omega, by go_num, Lib.hid rfl, HK3, HM2, HB2⟩
      · rw [h3] at hlk
        have HK3 := Lib.hid hk3
        have H4 := Lib.hid h4
        have p0' := HP2.out.cell 0
        have p1' := HP2.out.cell 1
        have hl2 := HP2.out.lt
        simp at p0' p1'
        simp only [if_true] at hlk
        clear hb2 hk3 h3 h4 x0 x1 p0 p1
        go_wp2_with fail
        refine (HKY.out _).mono ?_
        rintro e w3 ⟨rfl, hb3⟩
        have hz3 : w2.heap.size ≤ w3.heap.size := hb3.size
        have HM3 := Lib.hid (HM2.out.below hb3 (by omega))
        have HB3 := Lib.hid (HB2.out.trans (hb3.mono (by omega)))
        obtain ⟨ob, hup, hmo⟩ := HM3.out.add HNB.out HFT.out (t := 166) Tryz.underlying166 H4.out (.int .i64 k)
        have HMO := Lib.hid hmo
        clear hb3 hmo hlk p0' p1'
        go_wp2_with fail
        go_roundg (ds.length - (k + 1))
        case measure => have := HGK.out; omega
        case rel => exact ⟨k + 1, _, by omega, by go_num, Lib.hid rfl, HK3, HMO, Lib.hid (below_putObj HB3.out (Nat.le_refl _) ob)⟩
    · obtain rfl : k = ds.length := by omega
      go_wp2_with fail
      go_ret
      subst hr
      exact ⟨L, rfl, HK.out, HM.out, HBR.out⟩
end Go.Proofs.YtimihhcidbeonaaGreat

namespace Go.Proofs.YtimihhcidbeonaaGreat
open Go.RowKit
theorem dig_any (c : Int) (w : World) : Calls Tryz.prog 148 #[.int .u8 c] w fun e w' => e = .returned (.bool (inB c 48 57)) ∧ w = w' := by
  by_cases h1 : 48 ≤ c
  · by_cases h2 : c ≤ 57
    · have e : inB c 48 57 = true := by simp [inB, h1, h2]
      rw [e]
      go_enter Tryz.func148, Tryz.ntmps148
      go_wp2_with fail
      go_ret
      exact ⟨rfl, rfl⟩
    · have e : inB c 48 57 = false := by simp [inB, h2]
      rw [e]
      go_enter Tryz.func148, Tryz.ntmps148
      go_wp2_with fail
      go_ret
      exact ⟨rfl, rfl⟩
  · have e : inB c 48 57 = false := by simp [inB, h1]
    rw [e]
    go_enter Tryz.func148, Tryz.ntmps148
    go_wp2_with fail
    go_ret
    exact ⟨rfl, rfl⟩
/-- A byte that may stand anywhere in a name. -/
def letB (c : Int) : Bool := inB c 65 90 || inB c 97 122 || decide (c = 95)
theorem nameB_parts (c : Int) : nameB c = (inB c 48 57 || letB c) := by
  unfold nameB letB
  cases inB c 65 90 <;> cases inB c 97 122 <;> cases inB c 48 57 <;> cases decide (c = 95) <;> rfl
theorem let_any (c : Int) (w : World) : Calls Tryz.prog 149 #[.int .u8 c] w fun e w' => e = .returned (.bool (letB c)) ∧ w = w' := by
  have h95 : ∀ b, decide (c = 95) = b → (c == 95) = b := fun b h => by rw [← h]; rfl
  by_cases a1 : 65 ≤ c <;> by_cases a2 : c ≤ 90 <;> by_cases a3 : 97 ≤ c <;> by_cases a4 : c ≤ 122 <;> first
    | (exfalso; omega)
    | (have e : letB c = true := by simp [letB, inB, a1, a2, a3, a4]
       rw [e]
       clear h95 e
       go_enter Tryz.func149, Tryz.ntmps149
       go_wp2_with fail
       go_ret
       exact ⟨rfl, rfl⟩)
    | (cases a5 : decide (c = 95) with
       | true =>
         have e : letB c = true := by simp [letB, a5]
         have h := h95 _ a5
         rw [e]
         clear h95 e a5
         go_enter Tryz.func149, Tryz.ntmps149
         go_wp2_with fail
         go_ret
         exact ⟨rfl, rfl⟩
       | false =>
         have e : letB c = false := by simp [letB, inB, a1, a2, a3, a4, a5]
         have h := h95 _ a5
         rw [e]
         clear h95 e a5
         go_enter Tryz.func149, Tryz.ntmps149
         go_wp2_with fail
         go_ret
         exact ⟨rfl, rfl⟩)
set_option maxRecDepth 100000 in
set_option maxHeartbeats 1000000 in
theorem sname_is (xs : List Int) (hb : ∀ x ∈ xs, 0 ≤ x ∧ x < 256) (hl : xs.length ≤ 9223372036854775807) (w : World) :
    Calls Tryz.prog 90 #[.string (strOfNums xs)] w fun e w' => e = .returned (.bool (okName xs)) ∧ w = w' := by
  have hsz := strOfNums_size xs
  by_cases h0 : xs = []
  · subst h0
    have e : okName [] = false := rfl
    rw [e]
    clear e
    go_enter Tryz.func90, Tryz.ntmps90
    go_wp2_with fail
    go_ret
    exact ⟨rfl, rfl⟩
  · have hpos : 0 < xs.length := by cases xs with | nil => exact absurd rfl h0 | cons _ _ => simp
    have hnz : ((xs.length : Int) == 0) = false := beq_eq_false_iff_ne.2 (by omega)
    clear h0
    by_cases h32 : 32 < xs.length
    · have h32i : (32 : Int) < (xs.length : Int) := by omega
      have e : okName xs = false := by simp [okName, show ¬ xs.length ≤ 32 by omega]
      rw [e]
      clear e
      go_enter Tryz.func90, Tryz.ntmps90
      go_wp2_with fail
      go_ret
      exact ⟨rfl, rfl⟩
    · have hat0 := str_at xs hb 0 hpos (by omega)
      have hle : (xs.length : Int) ≤ 32 := by omega
      obtain ⟨y, hy⟩ : ∃ y, xs.getD 0 0 = y := ⟨_, rfl⟩
      rw [hy] at hat0
      cases hd : inB y 48 57 with
      | true =>
        have e : okName xs = false := by unfold okName; rw [hy, hd]; simp
        rw [e]
        clear e hy
        have HI := Lib.hid (fun w => dig_any y w)
        rw [hd] at HI
        clear hd
        go_enter Tryz.func90, Tryz.ntmps90
        go_wp2_with fail
        refine (HI.out _).mono ?_
        rintro e w1 ⟨rfl, rfl⟩
        go_wp2_with fail
        go_ret
        exact ⟨rfl, rfl⟩
      | false =>
        have HOK := Lib.hid (show okName xs = xs.all nameB by unfold okName; rw [hy, hd]; simp [hpos, show xs.length ≤ 32 by omega])
        have HI := Lib.hid (fun w => dig_any y w)
        rw [hd] at HI
        clear hd hy
        have HB := Lib.hid hb
        clear hb
        go_enter Tryz.func90, Tryz.ntmps90
        go_wp2_with fail
        refine (HI.out _).mono ?_
        rintro e w1 ⟨rfl, rfl⟩
        clear hat0
        go_wp2_with fail
        go_loopw [19] (fun i wr => ∃ k : Nat, k ≤ xs.length ∧ i = .int .i64 k ∧ Hid (∀ j, j < k → nameB (xs.getD j 0) = true) ∧ w = wr) (fun i _ => xs.length - (intOf i).toNat)
        case atStart => exact ⟨0, Nat.zero_le _, rfl, Lib.hid (fun j h => absurd h (Nat.not_lt_zero _)), rfl⟩
        case round =>
          obtain ⟨k, hk, rfl, HJ, rfl⟩ := hrel
          by_cases hlt : k < xs.length
          · have hat := str_at xs HB.out k hlt (by omega)
            obtain ⟨z, hz⟩ : ∃ z, xs.getD k 0 = z := ⟨_, rfl⟩
            rw [hz] at hat
            have HZ := Lib.hid hz
            clear hz
            have H1 := Lib.hid (fun w => dig_any z w)
            have H2 := Lib.hid (fun w => let_any z w)
            have hall : nameB z = true → Hid (∀ j, j < k + 1 → nameB (xs.getD j 0) = true) := fun h => Lib.hid (step_lt (P := fun j => nameB (xs.getD j 0) = true) HJ.out (by rw [HZ.out]; exact h))
            cases h1 : inB z 48 57 with
            | true =>
              have HJ2 := hall (by rw [nameB_parts, h1]; rfl)
              rw [h1] at H1
              clear h1 hall
              go_wp2_with fail
              refine (H1.out _).mono ?_
              rintro e w1 ⟨rfl, rfl⟩
              go_wp2_with fail
              go_roundw
              case rel => exact ⟨k + 1, by omega, by go_num, HJ2, trivial⟩
              case measure => simp [intOf]; omega
            | false =>
              cases h2 : letB z with
              | true =>
                have HJ2 := hall (by rw [nameB_parts, h1, h2]; rfl)
                rw [h1] at H1
                rw [h2] at H2
                clear h1 h2 hall
                go_wp2_with fail
                refine (H1.out _).mono ?_
                rintro e w1 ⟨rfl, rfl⟩
                go_wp2_with fail
                refine (H2.out _).mono ?_
                rintro e w1 ⟨rfl, rfl⟩
                go_wp2_with fail
                go_roundw
                case rel => exact ⟨k + 1, by omega, by go_num, HJ2, trivial⟩
                case measure => simp [intOf]; omega
              | false =>
                have hn : nameB z = false := by rw [nameB_parts, h1, h2]; rfl
                have HE := Lib.hid (HOK.out.trans (show xs.all nameB = false from by
                  rw [← Bool.not_eq_true, List.all_eq_true]
                  intro h
                  have := h z (by rw [← HZ.out, List.getD, List.getElem?_eq_getElem hlt]; simp)
                  rw [hn] at this
                  cases this))
                rw [h1] at H1
                rw [h2] at H2
                clear h1 h2 hall hn
                go_wp2_with fail
                refine (H1.out _).mono ?_
                rintro e w1 ⟨rfl, rfl⟩
                go_wp2_with fail
                refine (H2.out _).mono ?_
                rintro e w1 ⟨rfl, rfl⟩
                go_wp2_with fail
                go_ret
                exact ⟨by rw [HE.out]; rfl, rfl⟩
          · obtain rfl : k = xs.length := by omega
            have e : xs.all nameB = true := nameB_all HJ.out
            have HE := Lib.hid (HOK.out.trans e)
            clear e
            go_wp2_with fail
            go_ret
            exact ⟨by rw [HE.out]; rfl, rfl⟩
theorem sname_any : NameC := fun xs w hb hl => (sname_is xs hb hl w).mono fun _ _ h => ⟨h.1, h.2 ▸ Below.refl _ _⟩
end Go.Proofs.YtimihhcidbeonaaGreat
namespace Go.Proofs.YtimihhcidbeonaaGreat
open Go.RowKit
/-- What is wrong with a predicate's arguments; 0. -/
def whyA (ts : List Int) : Int := if 8 < ts.length then 6 else if ts.all (fun t => inB t 1 2) = false then 7 else 0
theorem whyP_args {l : List Pr} {i : Nat} {p : Pr} (hp : l[i]? = some p) (h1 : okName p.name = true) (h2 : ¬ findP l p.name < i) : whyP l i = whyA p.args := by
  unfold whyP whyA
  rw [getD_pr hp, if_neg (by rw [h1]; simp [h2])]
theorem whyA_7 {ts : List Int} (h : ¬ 8 < ts.length) {m : Nat} (hm : m < ts.length) (h4 : inB (ts.getD m 0) 1 2 = false) : whyA ts = 7 := by
  unfold whyA
  rw [if_neg h, if_pos]
  rw [← Bool.not_eq_true, List.all_eq_true]
  intro h
  have := h (ts.getD m 0) (by rw [List.getD, List.getElem?_eq_getElem hm]; simp)
  rw [h4] at this
  cases this
theorem whyA_0 {ts : List Int} (h : ¬ 8 < ts.length) (h4 : ∀ m, m < ts.length → inB (ts.getD m 0) 1 2 = true) : whyA ts = 0 := by
  unfold whyA
  rw [if_neg h, if_neg]
  rw [Bool.not_eq_false, List.all_eq_true]
  intro x hx
  obtain ⟨k, hk, e⟩ := List.getElem_of_mem hx
  have := h4 k hk
  rw [List.getD, List.getElem?_eq_getElem hk] at this
  simpa [e] using this
set_option maxRecDepth 100000 in
set_option maxHeartbeats 1000000 in
theorem sargs_any (A : Option Addr) (c : Nat) (ts : List Int) (w : World) (hrow : IRow w w.heap.size (.slice A ts.length c) ts) :
    Calls Tryz.prog 92 #[.slice A ts.length c] w fun e w' => e = .returned (.int .i64 (whyA ts)) ∧ w = w' := by
  by_cases h5 : 8 < ts.length
  · have h5i : (8 : Int) < (ts.length : Int) := by omega
    rw [show whyA ts = 6 from if_pos h5]
    clear hrow
    go_enter Tryz.func92, Tryz.ntmps92
    go_wp2_with fail
    go_ret
    exact ⟨rfl, rfl⟩
  · have HW7 := Lib.hid (fun m hm h4 => @whyA_7 ts h5 m hm h4)
    have HW0 := Lib.hid (fun h4 => @whyA_0 ts h5 h4)
    have h5i : (ts.length : Int) ≤ 8 := by omega
    have HIR := Lib.hid hrow
    clear h5 hrow
    generalize whyA ts = R at HW7 HW0 ⊢
    go_enter Tryz.func92, Tryz.ntmps92
    go_wp2_with fail
    go_loopg [10] ts.length (fun gm i wr => ∃ m : Nat, m ≤ ts.length ∧ i = .int .i64 m ∧ Hid (ts.length - m = gm) ∧ Hid (∀ j, j < m → inB (ts.getD j 0) 1 2 = true) ∧ w = wr)
    case atStart => exact ⟨0, Nat.zero_le _, rfl, Lib.hid rfl, Lib.hid (fun j h => absurd h (Nat.not_lt_zero _)), rfl⟩
    case round =>
      obtain ⟨m, hm, rfl, HGM, HI, rfl⟩ := hrel
      by_cases hml : m < ts.length
      · obtain ⟨b2, o2, rfl, hb2, ht⟩ := HIR.out.at hml
        obtain ⟨t, hT⟩ : ∃ t, ts.getD m 0 = t := ⟨_, rfl⟩
        rw [hT] at ht
        cases h6 : inB t 1 2 with
        | true =>
          have HI2 := Lib.hid (step_lt (P := fun j => inB (ts.getD j 0) 1 2 = true) HI.out (by rw [hT]; exact h6))
          obtain ⟨t1, t2⟩ : 1 ≤ t ∧ t ≤ 2 := by simpa [inB] using h6
          clear h6 hT
          rcases (by omega : t = 1 ∨ t = 2) with rfl | rfl
          · go_wp2_with fail
            go_roundg (ts.length - (m + 1))
            case measure => have := HGM.out; omega
            case rel => exact ⟨m + 1, by omega, by go_num, Lib.hid rfl, HI2, rfl⟩
          · go_wp2_with fail
            go_roundg (ts.length - (m + 1))
            case measure => have := HGM.out; omega
            case rel => exact ⟨m + 1, by omega, by go_num, Lib.hid rfl, HI2, rfl⟩
        | false =>
          have HR := Lib.hid (HW7.out m hml (by rw [hT]; exact h6))
          have hn12 : t ≠ 1 ∧ t ≠ 2 := by
            refine ⟨fun e => ?_, fun e => ?_⟩ <;> subst e <;> simp [inB] at h6
          have hn1 : (t != 1) = true := bne_iff_ne.2 hn12.1
          have hn2 : (t != 2) = true := bne_iff_ne.2 hn12.2
          clear h6 hT hn12
          go_wp2_with fail
          go_ret
          exact ⟨by rw [HR.out]; rfl, rfl⟩
      · obtain rfl : m = ts.length := by omega
        have HR := Lib.hid (HW0.out HI.out)
        go_wp2_with fail
        go_ret
        exact ⟨by rw [HR.out]; rfl, rfl⟩
set_option maxRecDepth 100000 in
set_option maxHeartbeats 2000000 in
theorem scheck_any : CheckC := by
  intro A c ds w hrow
  obtain ⟨_, hc1, hc2⟩ : ∃ _ : True, ds.length ≤ c ∧ c ≤ 9223372036854775807 := by
    obtain ⟨A', c', hv, q1, q2⟩ := hrow.form
    injection hv with _ _ e3
    exact ⟨trivial, by omega, by omega⟩
  have hml : (ds.map (·.p)).length = ds.length := List.length_map _
  by_cases hgt : 64 < ds.length
  · have hgi : (64 : Int) < (ds.length : Int) := by omega
    rw [checkP_many (by omega)]
    go_enter Tryz.func43, Tryz.ntmps43
    go_wp2_with fail
    go_ret
    exact ⟨rfl, Below.refl _ _⟩
  have hfound := fun (r : Nat) (hr : r < ds.length) => @checkP_found (ds.map (·.p)) (by omega) r (by omega)
  have hnone := fun h => @checkP_none (ds.map (·.p)) (by omega) h
  generalize checkP (ds.map (·.p)) = R at hfound hnone ⊢
  have hle : (ds.length : Int) ≤ 64 := by omega
  have HF := Lib.hid hfound
  have HNO := Lib.hid hnone
  have HROW := Lib.hid hrow
  have HBY := Lib.hid hrow.bytes
  have HFI := Lib.hid (firsts_any A c ds w hrow)
  have HML := Lib.hid hml
  clear hfound hnone hrow hml hgt
  go_enter Tryz.func43, Tryz.ntmps43
  go_wp2_with fail
  refine HFI.out.mono ?_
  rintro e w0 ⟨L, rfl, hkp, hm0, hb0⟩
  have HNB := Lib.hid (hkp.names HBY.out)
  have HKP := Lib.hid hkp
  have HM0 := Lib.hid hm0
  obtain ⟨r, hr⟩ : ∃ r, w.heap.size = r := ⟨_, rfl⟩
  rw [hr] at HM0 hb0 HROW ⊢
  have HB0 := Lib.hid hb0
  clear hkp hm0 hb0
  go_wp2_with fail
  go_loopg [14] ds.length (fun gk i wr => ∃ k : Nat, k ≤ ds.length ∧ i = .int .i64 k ∧ Hid (ds.length - k = gk) ∧ Hid (∀ j, j < k → whyP (ds.map (·.p)) j = 0) ∧ Hid (MapOf wr r L) ∧ Hid (Below r w wr))
  case atStart => exact ⟨0, Nat.zero_le _, rfl, Lib.hid rfl, Lib.hid (fun j h => absurd h (Nat.not_lt_zero _)), HM0, HB0⟩
  case round =>
    obtain ⟨k, hk, rfl, HGK, HJ, HM, HBR⟩ := hrel
    have hlr := HM.out.lt
    by_cases hlt : k < ds.length
    · obtain ⟨d, hd⟩ : ∃ d, ds[k]? = some d := ⟨_, List.getElem?_eq_getElem hlt⟩
      have HD := Lib.hid (at_pr hd)
      obtain ⟨b, o, rfl, hb, x0, x1, hir, hfit, ha1, ha2⟩ := (HROW.out.below HBR.out).at hd
      obtain ⟨dA, hdA⟩ : ∃ dA, d.A = dA := ⟨_, rfl⟩
      rw [hdA] at x1 hir
      have HFT := Lib.hid hfit
      obtain ⟨w1, hw1⟩ : ∃ w1, wr.alloc (.cells #[.string (strOfNums d.p.name), .slice dA d.p.args.length d.c] 88) = w1 := ⟨_, rfl⟩
      have s1 : w1.heap.size = wr.heap.size + 1 := by rw [← hw1]; simp
      have b1 : Below wr.heap.size wr w1 := by rw [← hw1]; exact (Below.refl _ _).alloc (Nat.le_refl _) _
      have h1 : Held w1 wr.heap.size 88 #[.string (strOfNums d.p.name), .slice dA d.p.args.length d.c] := by rw [← hw1]; exact heap_alloc_new wr _
      have HP1 := Lib.hid h1
      have HM1 := Lib.hid (HM.out.below b1 hlr)
      have HB1 := Lib.hid (HBR.out.trans (b1.mono (Nat.le_of_lt hlr)))
      have HIR1 := Lib.hid (hir.below (b1.mono (Nat.le_of_lt hlr)))
      have p0 := h1.cell 0
      have hl1 : wr.heap.size < w1.heap.size := by omega
      simp at p0
      have HNAME := Lib.hid (sname_any d.p.name w1 hfit.2.1 hfit.1)
      have HKY := Lib.hid (fun W => key_any (strOfNums d.p.name) dA d.p.args.length d.c W)
      clear h1 b1 hir hfit hd hdA
      go_wp2_with fail
      refine HNAME.out.mono ?_
      rintro e w2 ⟨rfl, hb2⟩
      have hz2 : w1.heap.size ≤ w2.heap.size := hb2.size
      have HM2 := Lib.hid (HM1.out.below hb2 (by omega))
      have HB2 := Lib.hid (HB1.out.trans (hb2.mono (by omega)))
      have HP2 := Lib.hid (HP1.out.below hb2 (by omega))
      have HIR2 := Lib.hid (HIR1.out.below (hb2.mono (by omega)))
      clear hb2 p0 x0 x1
      have p0 := HP2.out.cell 0
      have p1 := HP2.out.cell 1
      have hl2 := HP2.out.lt
      simp at p0 p1
      cases h1 : okName d.p.name with
      | false =>
        have hw := whyP_9 HD.out (.inl h1)
        have HR := Lib.hid ((HF.out k hlt HJ.out (by rw [hw]; decide)).trans hw)
        clear h1 hw
        go_wp2_with fail
        go_ret
        exact ⟨by rw [HR.out]; rfl, by rw [hr]; exact HB2.out⟩
      | true =>
        go_wp2_with fail
        refine (HKY.out _).mono ?_
        rintro e w3 ⟨rfl, hb3⟩
        have hz3 : w2.heap.size ≤ w3.heap.size := hb3.size
        have HM3 := Lib.hid (HM2.out.below hb3 (by omega))
        have HB3 := Lib.hid (HB2.out.trans (hb3.mono (by omega)))
        have HP3 := Lib.hid (HP2.out.below hb3 (by omega))
        have HIR3 := Lib.hid ((HIR2.out.below (hb3.mono (by omega))).more (B' := w3.heap.size) (by omega))
        clear hb3 p0 p1
        have p1 := HP3.out.cell 1
        have hl3 := HP3.out.lt
        simp at p1
        have hlk := HM3.out.look HNB.out HFT.out.2.1 (t := 166) Tryz.underlying166 (zero_int w3) false
        rcases HKP.out.look d.p.name with ⟨e1, e2⟩ | ⟨j, e1, e2, _⟩
        · exfalso
          have : ¬ findP (ds.map (·.p)) d.p.name < 0 ∨ findP (ds.map (·.p)) d.p.name = -1 := .inr e1
          rcases findP_ways (ds.map (·.p)) d.p.name with ⟨_, hn⟩ | ⟨r', _, e3, _⟩
          · exact hn k d.p HD.out rfl
          · omega
        · rw [e2] at hlk
          simp only [Bool.false_eq_true, if_false] at hlk
          by_cases hjk : j = k
          · subst hjk
            have hnf : ¬ findP (ds.map (·.p)) d.p.name < (j : Int) := by omega
            have hwa := whyP_args HD.out h1 hnf
            have HSA := Lib.hid (sargs_any dA d.c d.p.args w3 HIR3.out)
            clear e1 e2 hnf h1
            by_cases h0 : whyA d.p.args = 0
            · have HJ2 := Lib.hid (step_lt HJ.out (hwa.trans h0))
              rw [h0] at HSA
              clear hwa h0
              go_wp2_with fail
              refine HSA.out.mono ?_
              rintro e w4 ⟨rfl, rfl⟩
              go_wp2_with fail
              go_roundg (ds.length - (j + 1))
              case measure => have := HGK.out; omega
              case rel => exact ⟨j + 1, by omega, by go_num, Lib.hid rfl, HJ2, HM3, HB3⟩
            · have HR := Lib.hid ((HF.out j hlt HJ.out (by rw [hwa]; exact h0)).trans hwa)
              have hne : (whyA d.p.args != 0) = true := bne_iff_ne.2 h0
              generalize whyA d.p.args = Y at HSA HR hne
              clear hwa h0
              go_wp2_with fail
              refine HSA.out.mono ?_
              rintro e w4 ⟨rfl, rfl⟩
              go_wp2_with fail
              go_ret
              exact ⟨by rw [HR.out]; rfl, by rw [hr]; exact HB3.out⟩
          · have hnf := (find_self HD.out)
            have hjlt : findP (ds.map (·.p)) d.p.name < (k : Int) := by
              rcases findP_ways (ds.map (·.p)) d.p.name with ⟨e3, hn⟩ | ⟨r', q, e3, q1, q2, q3⟩
              · omega
              · rcases Nat.lt_trichotomy r' k with h | h | h
                · omega
                · omega
                · exact absurd rfl (q3 k d.p h HD.out)
            have hw := whyP_9 HD.out (.inr hjlt)
            have HR := Lib.hid ((HF.out k hlt HJ.out (by rw [hw]; decide)).trans hw)
            have hne : ((j : Int) != (k : Int)) = true := bne_iff_ne.2 (by omega)
            clear hnf hjlt hw e1 e2 h1
            go_wp2_with fail
            go_ret
            exact ⟨by rw [HR.out]; rfl, by rw [hr]; exact HB3.out⟩
    · obtain rfl : k = ds.length := by omega
      have HR := Lib.hid (HNO.out (fun j hj => HJ.out j (by rw [HML.out] at hj; exact hj)))
      go_wp2_with fail
      go_ret
      exact ⟨by rw [HR.out]; rfl, by rw [hr]; exact HBR.out⟩
end Go.Proofs.YtimihhcidbeonaaGreat
