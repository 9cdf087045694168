/-
  Dictionaries in plain lists: where a text stands, what is put, which texts a trace has, how many events of each shape. No program here.
-/
import Derived.Test.YtlmpicfhbpnpbaaTraceRows
namespace Go.Proofs.Ytlmpicfhbpnpbaa

section
variable {α : Type} [DecidableEq α]
/-- Where x stands first, from k on; -1. -/
def placeF (x : α) : List α → Nat → Int
  | [], _ => -1
  | t :: l, k => if t = x then (k : Int) else placeF x l (k + 1)
def placeD (l : List α) (x : α) : Int := placeF x l 0
theorem placeF_ways (x : α) : ∀ (l : List α) (k : Nat), (placeF x l k = -1 ∧ x ∉ l) ∨ ∃ j, j < l.length ∧ placeF x l k = ((k + j : Nat) : Int) ∧ l[j]? = some x ∧ ∀ i, i < j → l[i]? ≠ some x
  | [], _ => .inl ⟨rfl, by simp⟩
  | t :: l, k => by
    by_cases h : t = x
    · subst h
      exact .inr ⟨0, by simp, by simp [placeF], rfl, fun i hi => by omega⟩
    · rcases placeF_ways x l (k + 1) with ⟨h1, h2⟩ | ⟨j, h0, h1, h2, h3⟩
      · exact .inl ⟨by rw [placeF, if_neg h, h1], by simp [h2, Ne.symm h]⟩
      · refine .inr ⟨j + 1, by simp; omega, by rw [placeF, if_neg h, h1, Nat.add_right_comm, Nat.add_assoc], by simpa using h2, fun i hi => ?_⟩
        cases i with
        | zero => simp [h]
        | succ i => simpa using h3 i (by omega)
theorem placeD_ways (l : List α) (x : α) : (placeD l x = -1 ∧ x ∉ l) ∨ ∃ j : Nat, j < l.length ∧ placeD l x = (j : Int) ∧ l[j]? = some x ∧ ∀ i, i < j → l[i]? ≠ some x := by
  rcases placeF_ways x l 0 with h | ⟨j, h⟩
  · exact .inl h
  · rw [Nat.zero_add] at h
    exact .inr ⟨j, h⟩
theorem placeD_nodup {l : List α} {x : α} {i : Nat} (hn : l.Nodup) (hi : l[i]? = some x) : placeD l x = (i : Int) := by
  have hl := (List.getElem?_eq_some_iff.1 hi).1
  rcases placeD_ways l x with ⟨_, h⟩ | ⟨j, h0, h1, h2, _⟩
  · exact absurd (List.mem_of_getElem? hi) h
  · rw [h1, (List.getElem?_inj hl hn).1 (hi.trans h2.symm)]
/-- What stands there is found there: the first. -/
theorem placeD_found {l : List α} {x : α} {r : Nat} (h : l[r]? = some x) (hn : ∀ i, i < r → l[i]? ≠ some x) : placeD l x = (r : Int) := by
  rcases placeD_ways l x with ⟨_, h1⟩ | ⟨j, h0, h1, h2, h3⟩
  · exact absurd (List.mem_of_getElem? h) h1
  · rcases Nat.lt_trichotomy j r with h4 | h4 | h4
    · exact absurd h2 (hn j h4)
    · rw [h1, h4]
    · exact absurd h (h3 r h4)
theorem placeD_none {l : List α} {x : α} (h : x ∉ l) : placeD l x = -1 := by
  rcases placeD_ways l x with h1 | ⟨j, _, _, h1, _⟩
  · exact h1.1
  · exact absurd (List.mem_of_getElem? h1) h

/-- With a text put: the list, and the text's number. -/
def putD (l : List α) (x : α) : List α × Int := if placeD l x < 0 then (l ++ [x], (l.length : Int)) else (l, placeD l x)
theorem putD_new {l : List α} {x : α} (h : placeD l x = -1) : putD l x = (l ++ [x], (l.length : Int)) := by
  unfold putD
  rw [h, if_pos (by omega)]
theorem putD_old {l : List α} {x : α} {j : Nat} (h : placeD l x = (j : Int)) : putD l x = (l, (j : Int)) := by
  unfold putD
  rw [h, if_neg (by omega)]
theorem putD_nodup {l : List α} (x : α) (h : l.Nodup) : (putD l x).1.Nodup := by
  rcases placeD_ways l x with ⟨h1, h2⟩ | ⟨j, _, h1, _, _⟩
  · rw [putD_new h1]
    exact List.nodup_append.2 ⟨h, by simp, fun a ha b hb e => h2 (by rw [← List.mem_singleton.1 hb, ← e]; exact ha)⟩
  · rw [putD_old h1]
    exact h
theorem putD_length (l : List α) (x : α) : l.length ≤ (putD l x).1.length ∧ (putD l x).1.length ≤ l.length + 1 := by
  rcases placeD_ways l x with ⟨h1, h2⟩ | ⟨j, _, h1, _, _⟩
  · rw [putD_new h1]; simp
  · rw [putD_old h1]; simp
theorem putD_mem {l : List α} {x t : α} (h : t ∈ (putD l x).1) : t ∈ l ∨ t = x := by
  rcases placeD_ways l x with ⟨h1, h2⟩ | ⟨j, _, h1, _, _⟩
  · rw [putD_new h1] at h
    simpa using h
  · rw [putD_old h1] at h
    exact .inl h
end

/-! The texts of a trace. -/
def stepA (L : List (List Int)) (a : Ag) : List (List Int) := if a.t = 2 then (putD L a.s).1 else L
def addA (L : List (List Int)) (l : List Ag) : List (List Int) := l.foldl stepA L
def addE (L : List (List Int)) (l : List Em) : List (List Int) := l.foldl (fun L e => addA L e.args) L
def addT (L : List (List Int)) (l : List Pm) : List (List Int) := l.foldl (fun L p => addE L p.evs) L
theorem take_one {α : Type} {l : List α} {m : Nat} {x : α} (h : l[m]? = some x) : l.take (m + 1) = l.take m ++ [x] := by rw [List.take_add_one, h]; rfl
theorem addA_succ {L : List (List Int)} {l : List Ag} {k : Nat} {a : Ag} (h : l[k]? = some a) : addA L (l.take (k + 1)) = stepA (addA L (l.take k)) a := by rw [take_one h, addA, List.foldl_append]; rfl
theorem addE_succ {L : List (List Int)} {l : List Em} {k : Nat} {e : Em} (h : l[k]? = some e) : addE L (l.take (k + 1)) = addA (addE L (l.take k)) e.args := by rw [take_one h, addE, List.foldl_append]; rfl
theorem addT_succ {L : List (List Int)} {l : List Pm} {k : Nat} {p : Pm} (h : l[k]? = some p) : addT L (l.take (k + 1)) = addE (addT L (l.take k)) p.evs := by rw [take_one h, addT, List.foldl_append]; rfl
/-- Texts put, one behind the other. -/
def addS (L : List (List Int)) (l : List (List Int)) : List (List Int) := l.foldl (fun L s => (putD L s).1) L
theorem addS_succ {L : List (List Int)} {l : List (List Int)} {k : Nat} {s : List Int} (h : l[k]? = some s) : addS L (l.take (k + 1)) = (putD (addS L (l.take k)) s).1 := by rw [take_one h, addS, List.foldl_append]; rfl
theorem addS_length : ∀ (l L : List (List Int)), (addS L l).length ≤ L.length + l.length
  | [], L => Nat.le_refl _
  | s :: l, L => by
    have h1 := addS_length l (putD L s).1
    have h2 := (putD_length L s).2
    simp only [List.length_cons]
    show (addS (putD L s).1 l).length ≤ _
    omega
/-- How many arguments there are. -/
def nA (l : List Em) : Nat := l.foldr (fun e n => e.args.length + n) 0
def nT (l : List Pm) : Nat := l.foldr (fun p n => nA p.evs + n) 0
/-- A text that may be. -/
def TxOk (L : List (List Int)) : Prop := ∀ t ∈ L, t.length ≤ Go.maxLen ∧ ∀ x ∈ t, 0 ≤ x ∧ x < 256
structure DOk (L L' : List (List Int)) (n : Nat) : Prop where
  nodup : L.Nodup → L'.Nodup
  low : L.length ≤ L'.length
  high : L'.length ≤ L.length + n
theorem stepA_ok (L : List (List Int)) (a : Ag) : DOk L (stepA L a) 1 := by
  unfold stepA
  by_cases h : a.t = 2
  · rw [if_pos h]
    exact ⟨putD_nodup _, (putD_length _ _).1, (putD_length _ _).2⟩
  · rw [if_neg h]
    exact ⟨id, Nat.le_refl _, by omega⟩
theorem DOk.trans {L M N : List (List Int)} {a b c : Nat} (h : DOk L M a) (k : DOk M N b) (hc : a + b = c) : DOk L N c :=
  ⟨fun q => k.nodup (h.nodup q), Nat.le_trans h.low k.low, by have := h.high; have := k.high; omega⟩
theorem addA_ok : ∀ (l : List Ag) (L : List (List Int)), DOk L (addA L l) l.length
  | [], L => ⟨id, Nat.le_refl _, by simp [addA]⟩
  | a :: l, L => (stepA_ok L a).trans (addA_ok l (stepA L a)) (by simp; omega)
theorem addE_ok : ∀ (l : List Em) (L : List (List Int)), DOk L (addE L l) (nA l)
  | [], L => ⟨id, Nat.le_refl _, by simp [addE]⟩
  | a :: l, L => (addA_ok a.args L).trans (addE_ok l (addA L a.args)) rfl
theorem addT_ok : ∀ (l : List Pm) (L : List (List Int)), DOk L (addT L l) (nT l)
  | [], L => ⟨id, Nat.le_refl _, by simp [addT]⟩
  | a :: l, L => (addE_ok a.evs L).trans (addT_ok l (addE L a.evs)) rfl
theorem stepA_tx {L : List (List Int)} {a : Ag} (h : TxOk L) (ha : a.Fits) : TxOk (stepA L a) := by
  unfold stepA
  split
  · intro t ht
    rcases putD_mem ht with h1 | rfl
    · exact h t h1
    · exact ⟨ha.1, ha.2.1⟩
  · exact h
theorem nA_take : ∀ (l : List Em) (k : Nat), nA (l.take k) ≤ nA l
  | [], k => by simp
  | a :: l, 0 => by simp [nA]
  | a :: l, k + 1 => by have := nA_take l k; simp only [nA, List.take_succ_cons, List.foldr_cons] at this ⊢; omega
theorem nT_take : ∀ (l : List Pm) (k : Nat), nT (l.take k) ≤ nT l
  | [], k => by simp
  | a :: l, 0 => by simp [nT]
  | a :: l, k + 1 => by have := nT_take l k; simp only [nT, List.take_succ_cons, List.foldr_cons] at this ⊢; omega
theorem nA_at : ∀ (l : List Em) (k : Nat) (e : Em), l[k]? = some e → nA (l.take k) + e.args.length ≤ nA l
  | [], k, e, h => by simp at h
  | a :: l, 0, e, h => by
    simp only [List.getElem?_cons_zero, Option.some.injEq] at h
    subst h
    simp [nA]
  | a :: l, k + 1, e, h => by
    have := nA_at l k e (by simpa using h)
    simp only [nA, List.take_succ_cons, List.foldr_cons] at this ⊢
    omega
theorem nT_at : ∀ (l : List Pm) (k : Nat) (e : Pm), l[k]? = some e → nT (l.take k) + nA e.evs ≤ nT l
  | [], k, e, h => by simp at h
  | a :: l, 0, e, h => by
    simp only [List.getElem?_cons_zero, Option.some.injEq] at h
    subst h
    simp [nT]
  | a :: l, k + 1, e, h => by
    have := nT_at l k e (by simpa using h)
    simp only [nT, List.take_succ_cons, List.foldr_cons] at this ⊢
    omega

/-! Shapes. -/
def shp (e : Em) : Int × Nat := (e.p, e.args.length)
abbrev Sh := Int × Nat
def firstsS (S : List Sh) : List Sh := S.foldl (fun K s => if s ∈ K then K else K ++ [s]) []
theorem firstsS_snoc (S : List Sh) (s : Sh) : firstsS (S ++ [s]) = if s ∈ firstsS S then firstsS S else firstsS S ++ [s] := by
  unfold firstsS
  rw [List.foldl_append]
  rfl
theorem foldS_mem (s : Sh) : ∀ (S K : List Sh), s ∈ S.foldl (fun K s => if s ∈ K then K else K ++ [s]) K ↔ s ∈ K ∨ s ∈ S
  | [], K => by simp
  | a :: S, K => by
    rw [List.foldl_cons, foldS_mem s S]
    by_cases h : a ∈ K
    · rw [if_pos h, List.mem_cons]
      constructor
      · rintro (h1 | h1)
        · exact .inl h1
        · exact .inr (.inr h1)
      · rintro (h1 | rfl | h1)
        · exact .inl h1
        · exact .inl h
        · exact .inr h1
    · rw [if_neg h, List.mem_append, List.mem_singleton, List.mem_cons, or_assoc]
theorem foldS_nodup : ∀ (S K : List Sh), K.Nodup → (S.foldl (fun K s => if s ∈ K then K else K ++ [s]) K).Nodup
  | [], K, h => h
  | a :: S, K, h => by
    rw [List.foldl_cons]
    refine foldS_nodup S _ ?_
    by_cases h1 : a ∈ K
    · rw [if_pos h1]; exact h
    · rw [if_neg h1]
      exact List.nodup_append.2 ⟨h, by simp, fun b hb c hc e => h1 (by rw [← List.mem_singleton.1 hc, ← e]; exact hb)⟩
theorem firstsS_mem (S : List Sh) (s : Sh) : s ∈ firstsS S ↔ s ∈ S := by
  unfold firstsS
  rw [foldS_mem]
  simp
theorem firstsS_nodup (S : List Sh) : (firstsS S).Nodup := foldS_nodup S [] List.nodup_nil
/-- Of the shapes that come first in S, how many there are in F. -/
def runsD (S F : List Sh) : List Nat := (firstsS S).map (fun s => F.count s)
theorem runsD_length (S F : List Sh) : (runsD S F).length = (firstsS S).length := by simp [runsD]
theorem runsD_nil (F : List Sh) : runsD [] F = [] := rfl
/-- The document's way, one event more. -/
theorem runsD_ref {S F : List Sh} {k : Nat} {s : Sh} (h : S[k]? = some s) : runsD (S.take (k + 1)) F = if s ∈ S.take k then runsD (S.take k) F else runsD (S.take k) F ++ [F.count s] := by
  unfold runsD
  rw [take_one h, firstsS_snoc]
  by_cases h1 : s ∈ S.take k
  · rw [if_pos h1, if_pos ((firstsS_mem _ _).2 h1)]
  · rw [if_neg h1, if_neg (fun q => h1 ((firstsS_mem _ _).1 q)), List.map_append]
    rfl
theorem count_snoc (l : List Sh) (s t : Sh) : (l ++ [s]).count t = l.count t + if s = t then 1 else 0 := by
  rw [List.count_append, List.count_singleton]
  by_cases h : s = t <;> simp [h]
/-- The program's way: it has been there. -/
theorem runsD_old {S : List Sh} {k j : Nat} {s : Sh} (h : S[k]? = some s) (hj : (firstsS (S.take k))[j]? = some s) :
    firstsS (S.take (k + 1)) = firstsS (S.take k) ∧ ∃ c, (runsD (S.take k) (S.take k))[j]? = some c ∧ c ≤ k ∧ runsD (S.take (k + 1)) (S.take (k + 1)) = (runsD (S.take k) (S.take k)).set j (c + 1) := by
  have hm : s ∈ firstsS (S.take k) := List.mem_of_getElem? hj
  have he : firstsS (S.take (k + 1)) = firstsS (S.take k) := by rw [take_one h, firstsS_snoc, if_pos hm]
  refine ⟨he, (S.take k).count s, by rw [runsD, List.getElem?_map, hj]; rfl, Nat.le_trans List.count_le_length (List.length_take_le _ _), ?_⟩
  have hnd := firstsS_nodup (S.take k)
  have hjl := (List.getElem?_eq_some_iff.1 hj).1
  refine List.ext_getElem? fun i => ?_
  unfold runsD
  rw [he, List.getElem?_map, List.getElem?_set, List.length_map, List.getElem?_map, take_one h]
  by_cases hij : j = i
  · subst hij
    rw [hj, if_pos rfl, if_pos hjl, Option.map_some, count_snoc, if_pos rfl]
  · rw [if_neg hij]
    cases hi : (firstsS (S.take k))[i]? with
    | none => rfl
    | some t =>
      have hne : s ≠ t := fun e => hij ((List.getElem?_inj hjl hnd).1 (hj.trans (by rw [hi, e])))
      rw [Option.map_some, Option.map_some, count_snoc, if_neg hne, Nat.add_zero]
/-- It hasn't. -/
theorem runsD_new {S : List Sh} {k : Nat} {s : Sh} (h : S[k]? = some s) (hj : s ∉ firstsS (S.take k)) :
    firstsS (S.take (k + 1)) = firstsS (S.take k) ++ [s] ∧ runsD (S.take (k + 1)) (S.take (k + 1)) = runsD (S.take k) (S.take k) ++ [1] := by
  have he : firstsS (S.take (k + 1)) = firstsS (S.take k) ++ [s] := by rw [take_one h, firstsS_snoc, if_neg hj]
  have hn : s ∉ S.take k := fun q => hj ((firstsS_mem _ _).2 q)
  refine ⟨he, ?_⟩
  unfold runsD
  rw [he, List.map_append, List.map_singleton, take_one h, count_snoc, if_pos rfl, List.count_eq_zero_of_not_mem hn]
  congr 1
  refine List.map_congr_left fun t ht => ?_
  rw [count_snoc, if_neg (fun e => hj (by rw [e]; exact ht)), Nat.add_zero]
theorem sum_map_add {α : Type} (f g : α → Nat) : ∀ l : List α, (l.map (fun x => f x + g x)).sum = (l.map f).sum + (l.map g).sum
  | [] => rfl
  | a :: l => by simp only [List.map_cons, List.sum_cons, sum_map_add f g l]; omega
theorem sum_one {s : Sh} : ∀ (K : List Sh), K.Nodup → s ∈ K → (K.map (fun t => if s = t then 1 else 0)).sum = 1
  | [], _, h => by simp at h
  | a :: K, hn, h => by
    obtain ⟨h1, h2⟩ := List.nodup_cons.1 hn
    rw [List.map_cons, List.sum_cons]
    by_cases e : s = a
    · subst e
      have : ∀ K : List Sh, s ∉ K → (K.map (fun t => if s = t then 1 else 0)).sum = 0 := by
        intro K
        induction K with
        | nil => intro _; rfl
        | cons b K ih =>
          intro hb
          rw [List.map_cons, List.sum_cons, ih (fun q => hb (List.mem_cons_of_mem _ q)), if_neg (fun q => hb (by rw [q]; exact List.mem_cons_self ..))]
      rw [if_pos rfl, this K h1]
    · rw [if_neg e, sum_one K h2 ((List.mem_cons.1 h).resolve_left e)]
theorem sum_counts : ∀ (S K : List Sh), K.Nodup → (∀ s ∈ S, s ∈ K) → (K.map (fun t => S.count t)).sum = S.length
  | [], K, _, _ => by
    have : ∀ K : List Sh, (K.map (fun t => ([] : List Sh).count t)).sum = 0 := by
      intro K
      induction K with
      | nil => rfl
      | cons a K ih => rw [List.map_cons, List.sum_cons, ih]; rfl
    exact this K
  | s :: S, K, hn, h => by
    have e : (fun t => (s :: S).count t) = fun t => S.count t + if s = t then 1 else 0 := by
      funext t
      rw [List.count_cons]
      by_cases q : s = t <;> simp [q]
    rw [e, sum_map_add, sum_counts S K hn (fun t ht => h t (List.mem_cons_of_mem _ ht)), sum_one K hn (h s (List.mem_cons_self ..)), List.length_cons]
theorem runsD_sum (S : List Sh) : (runsD S S).sum = S.length := sum_counts S _ (firstsS_nodup S) fun _ hs => (firstsS_mem _ _).2 hs
theorem runsD_pos {S : List Sh} {i c : Nat} (h : (runsD S S)[i]? = some c) : 1 ≤ c := by
  unfold runsD at h
  rw [List.getElem?_map] at h
  obtain ⟨s, hs, rfl⟩ := Option.map_eq_some_iff.1 h
  exact List.one_le_count_iff.2 ((firstsS_mem _ _).1 (List.mem_of_getElem? hs))
theorem firstsS_le (S : List Sh) : (firstsS S).length ≤ S.length := by
  have h := runsD_sum S
  have : ∀ l : List Nat, (∀ x ∈ l, 1 ≤ x) → l.length ≤ l.sum := by
    intro l
    induction l with
    | nil => simp
    | cons a l ih =>
      intro hl
      have := ih (fun x hx => hl x (List.mem_cons_of_mem _ hx))
      have := hl a (List.mem_cons_self ..)
      simp
      omega
  rw [← h, ← runsD_length S S]
  exact this _ fun x hx => by
    obtain ⟨i, hi⟩ := List.mem_iff_getElem?.1 hx
    exact runsD_pos hi
theorem sum_take {l : List Nat} {i c : Nat} (h : l[i]? = some c) : (l.take (i + 1)).sum = (l.take i).sum + c := by
  rw [take_one h, List.sum_append]
  simp
theorem sum_take_le (l : List Nat) (i : Nat) : (l.take i).sum ≤ l.sum := by
  conv => rhs; rw [← List.take_append_drop i l, List.sum_append]
  omega
#print axioms runsD_sum
#print axioms runsD_old
#print axioms addT_ok
end Go.Proofs.Ytlmpicfhbpnpbaa
