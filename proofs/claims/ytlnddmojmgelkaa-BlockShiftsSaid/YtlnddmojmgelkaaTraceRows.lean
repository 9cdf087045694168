/-
  Traces in memory: what a slice of points, of events, of arguments reads as, and how that is kept; one that came in. No program here.
-/
import Derived.Test.YtlnddmojmgelkaaPlainTrace
import Derived.Test.YtlnddmojmgelkaaPreds
import Derived.Test.YtlnddmojmgelkaaPredRows
namespace Go.Proofs.Ytlnddmojmgelkaa
open Go.RowKit Go.ChangeShapes Go.WideShapes

/-- The slice value v has n elements, whose cells are us, one behind the other. -/
def ERow (w : World) (B : Nat) (v : Value) (n : Nat) (us : List Value) : Prop :=
  ∃ A c, v = .slice A n c ∧ n ≤ c ∧ c ≤ maxLen ∧ (A = none → c = 0) ∧ (0 < n → ∃ b o, A = some ⟨b, o, none⟩ ∧ b < B ∧ ∀ i u, us[i]? = some u → w.cell? ⟨b, o + i, none⟩ = some u)
section
variable {w w' : World} {B B' n : Nat} {v : Value} {us : List Value}
theorem ERow.keep (h : ERow w B v n us) (hk : ∀ p : Addr, p.block < B → w'.cell? p = w.cell? p) : ERow w' B v n us := by
  obtain ⟨A, c, hv, h1, h2, h3, h4⟩ := h
  refine ⟨A, c, hv, h1, h2, h3, fun hn => ?_⟩
  obtain ⟨b, o, e, hlt, hc⟩ := h4 hn
  exact ⟨b, o, e, hlt, fun i u hi => (hk ⟨b, o + i, none⟩ hlt).trans (hc i u hi)⟩
theorem ERow.below (h : ERow w B v n us) (hb : Below B w w') : ERow w' B v n us := h.keep fun _ hp => hb.cell hp
theorem ERow.more (h : ERow w B v n us) (hB : B ≤ B') : ERow w B' v n us := by
  obtain ⟨A, c, hv, h1, h2, h3, h4⟩ := h
  refine ⟨A, c, hv, h1, h2, h3, fun hn => ?_⟩
  obtain ⟨b, o, e, hlt, hc⟩ := h4 hn
  exact ⟨b, o, e, Nat.lt_of_lt_of_le hlt hB, hc⟩
theorem ERow.nil (w : World) (B : Nat) : ERow w B (.slice none 0 0) 0 [] := ⟨none, 0, rfl, Nat.le_refl _, Nat.zero_le _, fun _ => rfl, fun h => absurd h (by simp)⟩
theorem ERow.form (h : ERow w B v n us) : ∃ A c, v = .slice A n c ∧ n ≤ c ∧ c ≤ 9223372036854775807 := by
  obtain ⟨A, c, hv, h1, h2, _⟩ := h
  unfold maxLen at h2
  exact ⟨A, c, hv, h1, by omega⟩
theorem ERow.len {A : Option Addr} {m c : Nat} (h : ERow w B (.slice A m c) n us) : m = n ∧ n ≤ c ∧ c ≤ 9223372036854775807 := by
  obtain ⟨A', c', hv, h1, h2⟩ := h.form
  injection hv with _ e2 e3
  exact ⟨e2, by omega, by omega⟩
theorem ERow.block {A : Option Addr} {m c : Nat} (h : ERow w B (.slice A m c) n us) (hn : 0 < n) : ∃ b o, A = some ⟨b, o, none⟩ ∧ b < B ∧ ∀ i u, us[i]? = some u → w.cell? ⟨b, o + i, none⟩ = some u := by
  obtain ⟨A', c', hv, _, _, _, h4⟩ := h
  injection hv with e1 _ _
  obtain ⟨b, o, e, r⟩ := h4 hn
  exact ⟨b, o, e1.trans e, r⟩
theorem ERow.of_own {base k : Nat} {e : TypeId} (h : w.ownsRow base e k v n us) : ERow w w.heap.size v n us := by
  rcases h.2 with ⟨rfl, rfl⟩ | ⟨g, cap, cur, rfl, _, hg, q1, q2, _⟩
  · exact ⟨none, 0, rfl, Nat.le_refl _, Nat.zero_le _, fun _ => rfl, fun h => absurd h (by simp)⟩
  · refine ⟨_, cap, rfl, q1, q2, by simp, fun _ => ⟨g, 0, rfl, (Array.getElem?_eq_some_iff.1 hg).1, fun i u hi => ?_⟩⟩
    have hl := (List.getElem?_eq_some_iff.1 hi).1
    rw [h.1] at hl
    rw [Nat.zero_add, World.ownsRow.cellAt h i hl]
    exact hi
end

def cellsG (a : Ag) : List Value := [.int .i64 a.t, .int .i64 a.n, .string (strOfNums a.s)]
def flatG : List Ag → List Value
  | [] => []
  | a :: l => .int .i64 a.t :: .int .i64 a.n :: .string (strOfNums a.s) :: flatG l
/-- An event, and where its arguments lie. -/
structure Em where
  p : Int
  args : List Ag
  A : Option Addr
  c : Nat
abbrev Em.e (d : Em) : Ev := ⟨d.p, d.args⟩
abbrev Em.val (d : Em) : Value := .agg #[.int .i64 d.p, .slice d.A d.args.length d.c]
def flatE : List Em → List Value
  | [] => []
  | d :: l => .int .i64 d.p :: .slice d.A d.args.length d.c :: flatE l
/-- A point, and where its events lie. -/
structure Pm where
  tm : Int
  evs : List Em
  A : Option Addr
  c : Nat
abbrev Pm.p (d : Pm) : Pn := ⟨d.tm, d.evs.map (·.e)⟩
abbrev Pm.val (d : Pm) : Value := .agg #[.int .u64 d.tm, .slice d.A d.evs.length d.c]
def flatN : List Pm → List Value
  | [] => []
  | d :: l => .int .u64 d.tm :: .slice d.A d.evs.length d.c :: flatN l
abbrev Ag.val (a : Ag) : Value := .agg #[.int .i64 a.t, .int .i64 a.n, .string (strOfNums a.s)]

theorem flatG_length : ∀ l : List Ag, (flatG l).length = l.length * 3
  | [] => rfl
  | a :: l => by simp only [flatG, List.length_cons, flatG_length l]; omega
theorem flatE_length : ∀ l : List Em, (flatE l).length = l.length * 2
  | [] => rfl
  | a :: l => by simp only [flatE, List.length_cons, flatE_length l]; omega
theorem flatN_length : ∀ l : List Pm, (flatN l).length = l.length * 2
  | [] => rfl
  | a :: l => by simp only [flatN, List.length_cons, flatN_length l]; omega
theorem flatG_append : ∀ l m : List Ag, flatG (l ++ m) = flatG l ++ flatG m
  | [], _ => rfl
  | a :: l, m => by simp only [List.cons_append, flatG, flatG_append l m]
theorem flatE_append : ∀ l m : List Em, flatE (l ++ m) = flatE l ++ flatE m
  | [], _ => rfl
  | a :: l, m => by simp only [List.cons_append, flatE, flatE_append l m]
theorem flatN_append : ∀ l m : List Pm, flatN (l ++ m) = flatN l ++ flatN m
  | [], _ => rfl
  | a :: l, m => by simp only [List.cons_append, flatN, flatN_append l m]
theorem flatG_at : ∀ (l : List Ag) (i : Nat) (a : Ag), l[i]? = some a → (flatG l)[i * 3]? = some (.int .i64 a.t) ∧ (flatG l)[i * 3 + 1]? = some (.int .i64 a.n) ∧ (flatG l)[i * 3 + 2]? = some (.string (strOfNums a.s))
  | [], i, d, h => by simp at h
  | e :: l, 0, d, h => by
    simp only [List.getElem?_cons_zero, Option.some.injEq] at h
    subst h
    exact ⟨rfl, rfl, rfl⟩
  | e :: l, i + 1, d, h => by
    rw [List.getElem?_cons_succ] at h
    rw [flatG, show (i + 1) * 3 = i * 3 + 1 + 1 + 1 by omega]
    simp only [List.getElem?_cons_succ]
    exact flatG_at l i d h
theorem flatE_at : ∀ (l : List Em) (i : Nat) (d : Em), l[i]? = some d → (flatE l)[i * 2]? = some (.int .i64 d.p) ∧ (flatE l)[i * 2 + 1]? = some (.slice d.A d.args.length d.c)
  | [], i, d, h => by simp at h
  | e :: l, 0, d, h => by
    simp only [List.getElem?_cons_zero, Option.some.injEq] at h
    subst h
    exact ⟨rfl, rfl⟩
  | e :: l, i + 1, d, h => by
    rw [List.getElem?_cons_succ] at h
    rw [flatE, show (i + 1) * 2 = i * 2 + 1 + 1 by omega, List.getElem?_cons_succ, List.getElem?_cons_succ, List.getElem?_cons_succ, List.getElem?_cons_succ]
    exact flatE_at l i d h
theorem flatN_at : ∀ (l : List Pm) (i : Nat) (d : Pm), l[i]? = some d → (flatN l)[i * 2]? = some (.int .u64 d.tm) ∧ (flatN l)[i * 2 + 1]? = some (.slice d.A d.evs.length d.c)
  | [], i, d, h => by simp at h
  | e :: l, 0, d, h => by
    simp only [List.getElem?_cons_zero, Option.some.injEq] at h
    subst h
    exact ⟨rfl, rfl⟩
  | e :: l, i + 1, d, h => by
    rw [List.getElem?_cons_succ] at h
    rw [flatN, show (i + 1) * 2 = i * 2 + 1 + 1 by omega, List.getElem?_cons_succ, List.getElem?_cons_succ, List.getElem?_cons_succ, List.getElem?_cons_succ]
    exact flatN_at l i d h

def Ag.Fits (a : Ag) : Prop := a.s.length ≤ maxLen ∧ (∀ x ∈ a.s, 0 ≤ x ∧ x < 256) ∧ (-9223372036854775808 ≤ a.t ∧ a.t ≤ 9223372036854775807) ∧ (-9223372036854775808 ≤ a.n ∧ a.n ≤ 9223372036854775807)
/-- The slice value reads as these arguments. -/
def GRow (w : World) (B : Nat) (v : Value) (l : List Ag) : Prop := ERow w B v l.length (flatG l) ∧ ∀ a ∈ l, a.Fits
def Em.Fits (d : Em) : Prop := -9223372036854775808 ≤ d.p ∧ d.p ≤ 9223372036854775807
/-- What an event's parts are in memory. -/
def Em.Ok (w : World) (B : Nat) (d : Em) : Prop := GRow w B (.slice d.A d.args.length d.c) d.args ∧ d.Fits
/-- The slice value reads as these events. -/
def EvRow (w : World) (B : Nat) (v : Value) (l : List Em) : Prop := ERow w B v l.length (flatE l) ∧ ∀ d ∈ l, d.Ok w B
def Pm.Fits (d : Pm) : Prop := 0 ≤ d.tm ∧ d.tm < 18446744073709551616
def Pm.Ok (w : World) (B : Nat) (d : Pm) : Prop := EvRow w B (.slice d.A d.evs.length d.c) d.evs ∧ d.Fits
/-- The slice value reads as these points. -/
def TrRow (w : World) (B : Nat) (v : Value) (l : List Pm) : Prop := ERow w B v l.length (flatN l) ∧ ∀ d ∈ l, d.Ok w B

section
variable {w w' : World} {B B' : Nat} {v : Value}
theorem GRow.below {l : List Ag} (h : GRow w B v l) (hb : Below B w w') : GRow w' B v l := ⟨h.1.below hb, h.2⟩
theorem GRow.more {l : List Ag} (h : GRow w B v l) (hB : B ≤ B') : GRow w B' v l := ⟨h.1.more hB, h.2⟩
theorem Em.Ok.below {d : Em} (h : d.Ok w B) (hb : Below B w w') : d.Ok w' B := ⟨h.1.below hb, h.2⟩
theorem Em.Ok.more {d : Em} (h : d.Ok w B) (hB : B ≤ B') : d.Ok w B' := ⟨h.1.more hB, h.2⟩
theorem EvRow.below {l : List Em} (h : EvRow w B v l) (hb : Below B w w') : EvRow w' B v l := ⟨h.1.below hb, fun d hd => (h.2 d hd).below hb⟩
theorem EvRow.more {l : List Em} (h : EvRow w B v l) (hB : B ≤ B') : EvRow w B' v l := ⟨h.1.more hB, fun d hd => (h.2 d hd).more hB⟩
theorem Pm.Ok.below {d : Pm} (h : d.Ok w B) (hb : Below B w w') : d.Ok w' B := ⟨h.1.below hb, h.2⟩
theorem Pm.Ok.more {d : Pm} (h : d.Ok w B) (hB : B ≤ B') : d.Ok w B' := ⟨h.1.more hB, h.2⟩
theorem TrRow.below {l : List Pm} (h : TrRow w B v l) (hb : Below B w w') : TrRow w' B v l := ⟨h.1.below hb, fun d hd => (h.2 d hd).below hb⟩
theorem TrRow.more {l : List Pm} (h : TrRow w B v l) (hB : B ≤ B') : TrRow w B' v l := ⟨h.1.more hB, fun d hd => (h.2 d hd).more hB⟩
theorem TrRow.nil (w : World) (B : Nat) : TrRow w B (.slice none 0 0) [] := ⟨ERow.nil _ _, by simp⟩
theorem TrRow.form {l : List Pm} (h : TrRow w B v l) : ∃ A c, v = .slice A l.length c ∧ l.length ≤ c ∧ c ≤ 9223372036854775807 := h.1.form
/-- The cells of an argument, of an event, of a point. -/
theorem GRow.at {A : Option Addr} {n c : Nat} {l : List Ag} (h : GRow w B (.slice A n c) l) {i : Nat} {a : Ag} (ha : l[i]? = some a) : ∃ b o, A = some ⟨b, o, none⟩ ∧ b < B ∧
    w.cell? ⟨b, o + i * 3, none⟩ = some (.int .i64 a.t) ∧ w.cell? ⟨b, o + i * 3 + 1, none⟩ = some (.int .i64 a.n) ∧ w.cell? ⟨b, o + i * 3 + 2, none⟩ = some (.string (strOfNums a.s)) ∧ a.Fits := by
  have hlt := (List.getElem?_eq_some_iff.1 ha).1
  obtain ⟨b, o, e, hb, hc⟩ := h.1.block (by omega)
  obtain ⟨f0, f1, f2⟩ := flatG_at l i a ha
  exact ⟨b, o, e, hb, hc _ _ f0, hc _ _ f1, hc _ _ f2, h.2 a (List.mem_of_getElem? ha)⟩
theorem EvRow.at {A : Option Addr} {n c : Nat} {l : List Em} (h : EvRow w B (.slice A n c) l) {i : Nat} {d : Em} (hd : l[i]? = some d) : ∃ b o, A = some ⟨b, o, none⟩ ∧ b < B ∧
    w.cell? ⟨b, o + i * 2, none⟩ = some (.int .i64 d.p) ∧ w.cell? ⟨b, o + i * 2 + 1, none⟩ = some (.slice d.A d.args.length d.c) ∧ d.Ok w B ∧ d.args.length ≤ d.c ∧ d.c ≤ 9223372036854775807 := by
  have hlt := (List.getElem?_eq_some_iff.1 hd).1
  obtain ⟨b, o, e, hb, hc⟩ := h.1.block (by omega)
  obtain ⟨f0, f1⟩ := flatE_at l i d hd
  have hk := h.2 d (List.mem_of_getElem? hd)
  obtain ⟨_, l1, l2⟩ := hk.1.1.len
  exact ⟨b, o, e, hb, hc _ _ f0, hc _ _ f1, hk, l1, l2⟩
theorem TrRow.at {A : Option Addr} {n c : Nat} {l : List Pm} (h : TrRow w B (.slice A n c) l) {i : Nat} {d : Pm} (hd : l[i]? = some d) : ∃ b o, A = some ⟨b, o, none⟩ ∧ b < B ∧
    w.cell? ⟨b, o + i * 2, none⟩ = some (.int .u64 d.tm) ∧ w.cell? ⟨b, o + i * 2 + 1, none⟩ = some (.slice d.A d.evs.length d.c) ∧ d.Ok w B ∧ d.evs.length ≤ d.c ∧ d.c ≤ 9223372036854775807 := by
  have hlt := (List.getElem?_eq_some_iff.1 hd).1
  obtain ⟨b, o, e, hb, hc⟩ := h.1.block (by omega)
  obtain ⟨f0, f1⟩ := flatN_at l i d hd
  have hk := h.2 d (List.mem_of_getElem? hd)
  obtain ⟨_, l1, l2⟩ := hk.1.1.len
  exact ⟨b, o, e, hb, hc _ _ f0, hc _ _ f1, hk, l1, l2⟩
theorem flatN_take : ∀ (l : List Pm) (k : Nat), flatN (l.take k) = (flatN l).take (k * 2)
  | [], k => by simp [flatN]
  | d :: l, 0 => by simp [flatN]
  | d :: l, k + 1 => by rw [List.take_succ_cons, flatN, flatN, flatN_take l k, show (k + 1) * 2 = k * 2 + 1 + 1 by omega, List.take_succ_cons, List.take_succ_cons]
theorem flatN_drop : ∀ (l : List Pm) (k : Nat), flatN (l.drop k) = (flatN l).drop (k * 2)
  | [], k => by simp [flatN]
  | d :: l, 0 => by simp
  | d :: l, k + 1 => by rw [List.drop_succ_cons, flatN, flatN_drop l k, show (k + 1) * 2 = k * 2 + 1 + 1 by omega, List.drop_succ_cons, List.drop_succ_cons]
theorem TrRow.take {A : Option Addr} {n c : Nat} {l : List Pm} (h : TrRow w B (.slice A n c) l) {k : Nat} (hk : k ≤ l.length) : TrRow w B (.slice A (l.take k).length c) (l.take k) := by
  obtain ⟨⟨A', c', hv, h1, h2, h3, h4⟩, h5⟩ := h
  injection hv with e1 e2 e3
  subst e1 e3
  have hl : (l.take k).length = k := by simp; omega
  refine ⟨⟨A, c, rfl, by omega, h2, h3, fun hn => ?_⟩, fun d hd => h5 d (List.mem_of_mem_take hd)⟩
  obtain ⟨b, o, e, hb, hc⟩ := h4 (by omega)
  refine ⟨b, o, e, hb, fun i u hi => hc i u ?_⟩
  rw [flatN_take] at hi
  rw [List.getElem?_take] at hi
  split at hi
  · exact hi
  · cases hi
end
theorem at_pn {l : List Pm} {i : Nat} {d : Pm} (h : l[i]? = some d) : (l.map (·.p))[i]? = some d.p := by rw [List.getElem?_map, h]; rfl
theorem at_ev {l : List Em} {i : Nat} {d : Em} (h : l[i]? = some d) : (l.map (·.e))[i]? = some d.e := by rw [List.getElem?_map, h]; rfl
theorem getD_of {α : Type} [Inhabited α] {l : List α} {i : Nat} {a : α} (h : l[i]? = some a) : l.getD i default = a := by simp [List.getD, h]
#print axioms TrRow.take
end Go.Proofs.Ytlnddmojmgelkaa
