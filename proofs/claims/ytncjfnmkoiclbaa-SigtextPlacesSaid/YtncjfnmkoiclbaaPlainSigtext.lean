/-
  Signatures as text, in plain numbers: a predicate's line, a signature's text, what is read of a text; there and back. No program here. (Laid ahead of stage 10.)
-/
import Derived.Test.YtncjfnmkoiclbaaPlainSig
namespace Go.Proofs.Ytncjfnmkoiclbaa

/-- The word of a type. -/
def wordT (t : Int) : List Int := if t = 1 then [105, 110, 116] else [115, 116, 114, 105, 110, 103]
/-- Types' words, a comma between each two; fst: none stands ahead. -/
def argsF : Bool → List Int → List Int
  | _, [] => []
  | fst, t :: l => (if fst then [] else [44]) ++ wordT t ++ argsF false l
theorem argsF_snoc : ∀ (b : Bool) (l : List Int) (t : Int), argsF b (l ++ [t]) = argsF b l ++ (if b && l.isEmpty then [] else [44]) ++ wordT t
  | b, [], t => by cases b <;> simp [argsF]
  | b, x :: l, t => by
    have ih := argsF_snoc false l t
    simp only [List.cons_append, argsF, ih]
    simp
/-- A predicate's line; a signature's text. -/
def lineP (p : Pr) : List Int := p.name ++ [40] ++ argsF true p.args ++ [41]
def printP : List Pr → List Int
  | [] => []
  | p :: l => lineP p ++ [10] ++ printP l
theorem printP_append : ∀ (l m : List Pr), printP (l ++ m) = printP l ++ printP m
  | [], _ => rfl
  | p :: l, m => by rw [List.cons_append, printP, printP, printP_append l m]; simp

/-- A line of a predicate, whose arguments are of the types. -/
def IsLine (s : List Int) (p : Pr) : Prop := okName p.name = true ∧ (∀ t ∈ p.args, t = 1 ∨ t = 2) ∧ lineP p = s

/-! The document's way through a line. -/
structure Ps where
  name : List Int
  args : List Int
  frm : Int
/-- What a word is read as. -/
def typeOf (s : List Int) : List Int := if s = [105, 110, 116] then [1] else if s = [115, 116, 114, 105, 110, 103] then [2] else []
def psStep (s : List Int) (i : Nat) (st : Ps) : Ps :=
  if st.frm < 0 ∧ s.getD i 0 = 40 then { st with name := s.take i, frm := (i : Int) + 1 }
  else if 0 ≤ st.frm ∧ (s.getD i 0 = 44 ∨ s.getD i 0 = 41) then { st with args := st.args ++ typeOf ((s.take i).drop st.frm.toNat), frm := (i : Int) + 1 }
  else st
def psAt (s : List Int) : Nat → Ps
  | 0 => ⟨[], [], -1⟩
  | i + 1 => psStep s i (psAt s i)
/-- The predicate that is read of a line; whether that is its line. -/
def predR (s : List Int) : Pr := ⟨(psAt s s.length).name, (psAt s s.length).args⟩
def okLine (s : List Int) : Bool := okName (predR s).name && decide (lineP (predR s) = s)

theorem psStep_none {s : List Int} {i : Nat} {st : Ps} (h1 : st.frm < 0 → s.getD i 0 ≠ 40) (h2 : 0 ≤ st.frm → s.getD i 0 ≠ 44 ∧ s.getD i 0 ≠ 41) : psStep s i st = st := by
  unfold psStep
  rw [if_neg (fun h => h1 h.1 h.2), if_neg (fun h => by have := h2 h.1; rcases h.2 with h | h <;> simp_all)]
/-- Bytes at which nothing happens. -/
theorem psAt_skip {s : List Int} {st : Ps} {i : Nat} (h0 : psAt s i = st) : ∀ n, (∀ j, i ≤ j → j < i + n → (st.frm < 0 → s.getD j 0 ≠ 40) ∧ (0 ≤ st.frm → s.getD j 0 ≠ 44 ∧ s.getD j 0 ≠ 41)) → psAt s (i + n) = st
  | 0, _ => h0
  | n + 1, h => by
    have ih := psAt_skip h0 n (fun j h1 h2 => h j h1 (by omega))
    rw [show i + (n + 1) = (i + n) + 1 by omega, psAt, ih]
    have := h (i + n) (by omega) (by omega)
    exact psStep_none this.1 this.2
theorem nameB_no {c : Int} (h : nameB c = true) : c ≠ 40 ∧ c ≠ 44 ∧ c ≠ 41 ∧ c ≠ 10 := by
  refine ⟨?_, ?_, ?_, ?_⟩ <;> (rintro rfl; revert h; decide)
theorem okName_all {s : List Int} (h : okName s = true) : ∀ c ∈ s, nameB c = true := by
  unfold okName at h
  rw [Bool.and_eq_true] at h
  exact List.all_eq_true.1 h.2
theorem getD_mem {s : List Int} {i : Nat} (h : i < s.length) : s.getD i 0 ∈ s := by rw [List.getD, List.getElem?_eq_getElem h]; simp
theorem getD_left {a b : List Int} {i : Nat} (h : i < a.length) : (a ++ b).getD i 0 = a.getD i 0 := by simp [List.getD, List.getElem?_append_left h]
theorem getD_right {a b : List Int} {i : Nat} : (a ++ b).getD (a.length + i) 0 = b.getD i 0 := by simp [List.getD, List.getElem?_append_right (Nat.le_add_right _ _)]
theorem wordT_no {t c : Int} (h : c ∈ wordT t) : c ≠ 44 ∧ c ≠ 41 ∧ c ≠ 10 ∧ c ≠ 40 := by
  unfold wordT at h
  split at h <;> (simp only [List.mem_cons, List.not_mem_nil, or_false] at h; omega)
theorem typeOf_word {t : Int} (h : t = 1 ∨ t = 2) : typeOf (wordT t) = [t] := by rcases h with rfl | rfl <;> decide
/-- A word, and what stands behind it. -/
theorem psAt_word {s pre post : List Int} {t c : Int} (ht : t = 1 ∨ t = 2) (hc : c = 44 ∨ c = 41) (hs : s = pre ++ wordT t ++ c :: post) {nm as : List Int} (h0 : psAt s pre.length = ⟨nm, as, (pre.length : Int)⟩) :
    psAt s (pre ++ wordT t ++ [c]).length = ⟨nm, as ++ [t], ((pre ++ wordT t ++ [c]).length : Int)⟩ := by
  have h1 := psAt_skip h0 (wordT t).length (fun j q1 q2 => ⟨fun h => by simp only at h; omega, fun _ => by
    obtain ⟨k, rfl⟩ : ∃ k, j = pre.length + k := ⟨j - pre.length, by omega⟩
    have e : s.getD (pre.length + k) 0 = (wordT t).getD k 0 := by rw [hs, List.append_assoc, getD_right, getD_left (by omega)]
    rw [e]
    have := wordT_no (getD_mem (s := wordT t) (i := k) (by omega))
    exact ⟨this.1, this.2.1⟩⟩)
  have hl : (pre ++ wordT t ++ [c]).length = pre.length + (wordT t).length + 1 := by simp; omega
  have hg : s.getD (pre.length + (wordT t).length) 0 = c := by
    rw [hs, show pre.length + (wordT t).length = (pre ++ wordT t).length + 0 by simp, getD_right]
    rfl
  have hcut : (s.take (pre.length + (wordT t).length)).drop pre.length = wordT t := by
    rw [hs, show pre.length + (wordT t).length = (pre ++ wordT t).length by simp, List.take_left, List.drop_left]
  rw [hl, psAt, h1, psStep, if_neg (by simp only; omega), if_pos ⟨by simp only; omega, by rw [hg]; exact hc⟩]
  simp only [Int.toNat_natCast, hcut, typeOf_word ht]
  rfl
/-- The arguments of a line. -/
theorem psAt_args {s nm : List Int} : ∀ (l pre as : List Int), (∀ t ∈ l, t = 1 ∨ t = 2) → s = pre ++ argsF true l ++ [41] → l ≠ [] → psAt s pre.length = ⟨nm, as, (pre.length : Int)⟩ → psAt s s.length = ⟨nm, as ++ l, (s.length : Int)⟩
  | [], _, _, _, _, h, _ => absurd rfl h
  | [t], pre, as, ht, hs, _, h0 => by
    have e : s = pre ++ wordT t ++ 41 :: [] := by rw [hs]; simp [argsF]
    have := psAt_word (ht t (by simp)) (.inr rfl) e h0
    rw [← e] at this
    exact this
  | t :: u :: l, pre, as, ht, hs, _, h0 => by
    have e : s = pre ++ wordT t ++ 44 :: (argsF true (u :: l) ++ [41]) := by rw [hs]; simp [argsF]
    have h1 := psAt_word (ht t (by simp)) (.inl rfl) e h0
    have h2 := psAt_args (u :: l) (pre ++ wordT t ++ [44]) (as ++ [t]) (fun x hx => ht x (List.mem_cons_of_mem _ hx)) (by rw [e]; simp) (by simp) h1
    rw [h2]
    simp
/-- The line of a predicate is read as it. -/
theorem predR_line {p : Pr} (hn : okName p.name = true) (ha : ∀ t ∈ p.args, t = 1 ∨ t = 2) : predR (lineP p) = p := by
  have hall := okName_all hn
  have h1 : psAt (lineP p) p.name.length = ⟨[], [], -1⟩ := by
    have := psAt_skip (s := lineP p) (st := ⟨[], [], -1⟩) (i := 0) rfl p.name.length (fun j _ q2 => ⟨fun _ => by
      have e : (lineP p).getD j 0 = p.name.getD j 0 := by unfold lineP; rw [List.append_assoc, List.append_assoc, getD_left (by omega)]
      rw [e]
      exact (nameB_no (hall _ (getD_mem (by omega)))).1, fun h => by simp only at h; omega⟩)
    simpa using this
  have hg : (lineP p).getD p.name.length 0 = 40 := by
    unfold lineP
    rw [List.append_assoc, List.append_assoc, show p.name.length = p.name.length + 0 by omega, getD_right]
    rfl
  have h2 : psAt (lineP p) (p.name ++ [40]).length = ⟨p.name, [], ((p.name ++ [40]).length : Int)⟩ := by
    rw [show (p.name ++ [40] : List Int).length = p.name.length + 1 by simp, psAt, h1, psStep, if_pos ⟨by simp, hg⟩]
    have : (lineP p).take p.name.length = p.name := by unfold lineP; rw [List.append_assoc, List.append_assoc, List.take_left]
    simp only [this]
    rfl
  have h3 : psAt (lineP p) (lineP p).length = ⟨p.name, p.args, ((lineP p).length : Int)⟩ := by
    by_cases he : p.args = []
    · have e : lineP p = p.name ++ [40] ++ 41 :: [] := by unfold lineP; rw [he]; simp [argsF]
      have hl : (lineP p).length = (p.name ++ [40]).length + 1 := by rw [e]; simp
      have hg2 : (lineP p).getD (p.name ++ [40]).length 0 = 41 := by
        rw [e, show (p.name ++ [40] : List Int).length = (p.name ++ [40] : List Int).length + 0 by omega, getD_right]
        rfl
      rw [hl, psAt, h2, psStep, if_neg (by simp only; omega), if_pos ⟨by simp only; omega, .inr hg2⟩, he]
      have : ((lineP p).take (p.name ++ [40]).length).drop (p.name ++ [40]).length = [] := by simp
      simp only [Int.toNat_natCast, this]
      rfl
    · have := psAt_args p.args (p.name ++ [40]) [] ha rfl he h2
      rw [List.nil_append] at this
      exact this
  unfold predR
  rw [h3]
theorem IsLine.read {s : List Int} {p : Pr} (h : IsLine s p) : predR s = p := by
  obtain ⟨h1, h2, rfl⟩ := h
  exact predR_line h1 h2
theorem typeOf_types (s : List Int) : ∀ t ∈ typeOf s, t = 1 ∨ t = 2 := by
  unfold typeOf
  intro t ht
  split at ht
  · simp at ht; exact .inl ht
  · split at ht
    · simp at ht; exact .inr ht
    · simp at ht
theorem psAt_types (s : List Int) : ∀ i, ∀ t ∈ (psAt s i).args, t = 1 ∨ t = 2
  | 0, t, h => by simp [psAt] at h
  | i + 1, t, h => by
    rw [psAt, psStep] at h
    split at h
    · exact psAt_types s i t h
    · split at h
      · rcases List.mem_append.1 h with h | h
        · exact psAt_types s i t h
        · exact typeOf_types _ t h
      · exact psAt_types s i t h
theorem okLine_iff {s : List Int} : okLine s = true ↔ ∃ p, IsLine s p := by
  unfold okLine
  rw [Bool.and_eq_true, decide_eq_true_eq]
  constructor
  · rintro ⟨h1, h2⟩
    exact ⟨predR s, h1, psAt_types s s.length, h2⟩
  · rintro ⟨p, h⟩
    rw [h.read]
    exact ⟨h.1, h.2.2⟩
theorem okLine_is {s : List Int} (h : okLine s = true) : IsLine s (predR s) := by
  obtain ⟨p, hp⟩ := okLine_iff.1 h
  rw [hp.read]
  exact hp

/-! What is read of a text. -/
/-- How many bytes stand ahead of the first line feed. -/
def endL : List Int → Nat
  | [] => 0
  | c :: s => if c = 10 then 0 else endL s + 1
theorem endL_le : ∀ s : List Int, endL s ≤ s.length
  | [] => Nat.le_refl _
  | c :: s => by
    have := endL_le s
    rw [endL, List.length_cons]
    split <;> omega
theorem endL_line : ∀ (a b : List Int), (∀ c ∈ a, c ≠ 10) → endL (a ++ 10 :: b) = a.length
  | [], _, _ => rfl
  | c :: a, b, h => by
    rw [List.cons_append, endL, if_neg (h c (by simp)), endL_line a b (fun x hx => h x (List.mem_cons_of_mem _ hx))]
    rfl
theorem endL_before : ∀ (s : List Int), ∀ c ∈ s.take (endL s), c ≠ 10
  | [], c, h => by simp at h
  | x :: s, c, h => by
    rw [endL] at h
    split at h
    · simp at h
    · rename_i hx
      rw [List.take_succ_cons] at h
      rcases List.mem_cons.1 h with rfl | h
      · exact hx
      · exact endL_before s c h
theorem endL_at : ∀ (s : List Int), endL s < s.length → s = s.take (endL s) ++ 10 :: s.drop (endL s + 1)
  | [], h => by simp at h
  | x :: s, h => by
    rw [endL] at h ⊢
    split
    · rename_i hx
      simp [hx]
    · rename_i hx
      rw [if_neg hx, List.length_cons] at h
      have := endL_at s (by omega)
      rw [List.take_succ_cons, List.drop_succ_cons, List.cons_append, ← this]

structure Rd where
  l : List Pr
  e : Int
  line : Nat
  col : Nat
/-- Line by line; f: more than there are bytes. -/
def parseF : Nat → Nat → List Pr → List Int → Rd
  | 0, _, L, _ => ⟨L, 0, 0, 0⟩
  | f + 1, n, L, s =>
    if s = [] then ⟨L, 0, 0, 0⟩
    else if okLine (s.take (endL s)) = false then ⟨[], 4, n, 1⟩
    else if 0 ≤ findP L (predR (s.take (endL s))).name then ⟨[], 9, n, 1⟩
    else if 8 < (predR (s.take (endL s))).args.length ∨ 64 < n then ⟨[], 6, n, 1⟩
    else if endL s = s.length then ⟨[], 4, n, endL s + 1⟩
    else parseF f (n + 1) (L ++ [predR (s.take (endL s))]) (s.drop (endL s + 1))
def parseP (s : List Int) : Rd := parseF (s.length + 1) 1 [] s

theorem findP_neg {l : List Pr} {nm : List Int} : ¬ 0 ≤ findP l nm ↔ ∀ (j : Nat) (q : Pr), l[j]? = some q → q.name ≠ nm := by
  rcases findP_ways l nm with ⟨e, h⟩ | ⟨r, p, e, h1, h2, h3⟩
  · rw [e]
    exact ⟨fun _ => h, fun _ => by decide⟩
  · rw [e]
    exact ⟨fun h => absurd (Int.natCast_nonneg r) h, fun h => absurd h2 (h r p h1)⟩
/-- A predicate more. -/
theorem checkP_more {L : List Pr} {p : Pr} (hL : checkP L = 0) (h1 : okName p.name = true) (h2 : ∀ (j : Nat) (q : Pr), L[j]? = some q → q.name ≠ p.name) (h3 : p.args.length ≤ 8) (h4 : ∀ t ∈ p.args, t = 1 ∨ t = 2) (h5 : L.length < 64) : checkP (L ++ [p]) = 0 := by
  obtain ⟨_, q2⟩ := checkP_zero.1 hL
  refine checkP_zero.2 ⟨by simp; omega, fun i q hq => ?_⟩
  by_cases hi : i < L.length
  · rw [List.getElem?_append_left hi] at hq
    obtain ⟨r1, r2, r3, r4⟩ := q2 i q hq
    exact ⟨r1, fun j q' hj hq' => r2 j q' hj (by rwa [List.getElem?_append_left (by omega)] at hq'), r3, r4⟩
  · rw [List.getElem?_append_right (by omega)] at hq
    have hi0 : i - L.length = 0 := by
      have := (List.getElem?_eq_some_iff.1 hq).1
      simp at this
      omega
    rw [hi0] at hq
    obtain rfl : p = q := by simpa using hq
    refine ⟨h1, fun j q' hj hq' => ?_, h3, fun t ht => by have := h4 t ht; omega⟩
    rw [List.getElem?_append_left (by omega)] at hq'
    exact h2 j q' hq'
/-- What is read has that text. -/
theorem parseF_back : ∀ (f n : Nat) (L : List Pr) (s : List Int), s.length < f → n = L.length + 1 → checkP L = 0 → (parseF f n L s).e = 0 → checkP (parseF f n L s).l = 0 ∧ printP (parseF f n L s).l = printP L ++ s ∧ (parseF f n L s).line = 0 ∧ (parseF f n L s).col = 0
  | 0, _, _, _, h, _, _, _ => by omega
  | f + 1, n, L, s, hf, hn, hL, he => by
    rw [parseF] at he ⊢
    by_cases h0 : s = []
    · subst h0
      simp [hL]
    · rw [if_neg h0] at he ⊢
      by_cases h1 : okLine (s.take (endL s)) = false
      · rw [if_pos h1] at he; simp at he
      · rw [if_neg h1] at he ⊢
        by_cases h2 : 0 ≤ findP L (predR (s.take (endL s))).name
        · rw [if_pos h2] at he; simp at he
        · rw [if_neg h2] at he ⊢
          by_cases h3 : 8 < (predR (s.take (endL s))).args.length ∨ 64 < n
          · rw [if_pos h3] at he; simp at he
          · rw [if_neg h3] at he ⊢
            by_cases h4 : endL s = s.length
            · rw [if_pos h4] at he; simp at he
            · rw [if_neg h4] at he ⊢
              rw [Bool.not_eq_false] at h1
              rw [not_or] at h3
              have hle := endL_le s
              have hat := endL_at s (by omega)
              obtain ⟨q1, q2, q3⟩ := okLine_is h1
              have hlen : (s.drop (endL s + 1)).length < f := by rw [List.length_drop]; omega
              obtain ⟨r1, r2, r3⟩ := parseF_back f (n + 1) (L ++ [predR (s.take (endL s))]) (s.drop (endL s + 1)) hlen (by simp; omega) (checkP_more hL q1 (findP_neg.1 h2) (by omega) q2 (by omega)) he
              refine ⟨r1, ?_, r3⟩
              rw [r2, printP_append, printP, printP, q3]
              conv => rhs; rw [hat]
              simp
theorem lineP_no10 {p : Pr} (hn : okName p.name = true) : ∀ c ∈ lineP p, c ≠ 10 := by
  intro c hc
  unfold lineP at hc
  have hargs : ∀ (b : Bool) (l : List Int), ∀ c ∈ argsF b l, c ≠ 10 := by
    intro b l
    induction l generalizing b with
    | nil => intro c hc; simp [argsF] at hc
    | cons t l ih =>
      intro c hc
      rw [argsF] at hc
      rcases List.mem_append.1 hc with hc | hc
      · rcases List.mem_append.1 hc with hc | hc
        · cases b <;> simp at hc <;> omega
        · exact (wordT_no hc).2.2.1
      · exact ih false c hc
  rcases List.mem_append.1 hc with hc | hc
  · rcases List.mem_append.1 hc with hc | hc
    · rcases List.mem_append.1 hc with hc | hc
      · exact (nameB_no (okName_all hn c hc)).2.2.2
      · simp at hc; omega
    · exact hargs _ _ c hc
  · simp at hc; omega
/-- A signature's text is read as it. -/
theorem parseF_print : ∀ (l L : List Pr) (f : Nat), checkP (L ++ l) = 0 → (printP l).length < f → parseF f (L.length + 1) L (printP l) = ⟨L ++ l, 0, 0, 0⟩
  | [], L, 0, _, h => by simp at h
  | [], L, f + 1, _, _ => by simp [parseF, printP]
  | p :: l, L, 0, _, h => by simp at h
  | p :: l, L, f + 1, hc, hf => by
    obtain ⟨c1, c2⟩ := checkP_zero.1 hc
    have hp : (L ++ p :: l)[L.length]? = some p := by simp
    obtain ⟨o1, o2, o3, o4⟩ := c2 _ _ hp
    have o4' : ∀ t ∈ p.args, t = 1 ∨ t = 2 := fun t ht => by have := o4 t ht; omega
    have hno : ∀ (j : Nat) (q : Pr), L[j]? = some q → q.name ≠ p.name := fun j q hq => by
      have hj := (List.getElem?_eq_some_iff.1 hq).1
      exact o2 j q hj (by rw [List.getElem?_append_left hj]; exact hq)
    have e0 : printP (p :: l) = lineP p ++ 10 :: printP l := by rw [printP]; simp
    have hend : endL (printP (p :: l)) = (lineP p).length := by rw [e0, endL_line _ _ (lineP_no10 o1)]
    have htake : (printP (p :: l)).take (endL (printP (p :: l))) = lineP p := by rw [hend, e0, List.take_left]
    have hdrop : (printP (p :: l)).drop (endL (printP (p :: l)) + 1) = printP l := by
      rw [hend, e0, ← List.drop_drop, List.drop_left]
      rfl
    have hlen : (printP (p :: l)).length = (lineP p).length + 1 + (printP l).length := by rw [e0]; simp; omega
    have hline : IsLine (lineP p) p := ⟨o1, o4', rfl⟩
    rw [parseF, if_neg (by rw [e0]; simp), htake, hline.read, hdrop, hend,
      if_neg (by rw [Bool.not_eq_false]; exact okLine_iff.2 ⟨p, hline⟩), if_neg (findP_neg.2 hno), if_neg (by rw [not_or]; simp at c1; omega), if_neg (by rw [hlen]; omega)]
    have ih := parseF_print l (L ++ [p]) f (by simpa using hc) (by omega)
    rw [show (L ++ [p]).length + 1 = L.length + 1 + 1 by simp] at ih
    rw [ih]
    simp
theorem parseP_print {l : List Pr} (h : checkP l = 0) : parseP (printP l) = ⟨l, 0, 0, 0⟩ := parseF_print l [] _ h (by omega)
theorem parseP_back {s : List Int} (h : (parseP s).e = 0) : checkP (parseP s).l = 0 ∧ printP (parseP s).l = s ∧ (parseP s).line = 0 ∧ (parseP s).col = 0 := by
  have := parseF_back (s.length + 1) 1 [] s (by omega) rfl (by decide +kernel) h
  unfold parseP
  simpa [printP] using this
theorem parseF_err : ∀ (f n : Nat) (L : List Pr) (s : List Int), (parseF f n L s).e ≠ 0 → (parseF f n L s).l = []
  | 0, _, _, _, h => by simp [parseF] at h
  | f + 1, n, L, s, h => by
    rw [parseF] at h ⊢
    by_cases h0 : s = []
    · rw [if_pos h0] at h; simp at h
    · rw [if_neg h0] at h ⊢
      by_cases h1 : okLine (s.take (endL s)) = false
      · rw [if_pos h1]
      · rw [if_neg h1] at h ⊢
        by_cases h2 : 0 ≤ findP L (predR (s.take (endL s))).name
        · rw [if_pos h2]
        · rw [if_neg h2] at h ⊢
          by_cases h3 : 8 < (predR (s.take (endL s))).args.length ∨ 64 < n
          · rw [if_pos h3]
          · rw [if_neg h3] at h ⊢
            by_cases h4 : endL s = s.length
            · rw [if_pos h4]
            · rw [if_neg h4] at h ⊢
              exact parseF_err f _ _ _ h
/-- Where an error is told: at the front of a line, or behind the last one. -/
def lf (s : List Int) : Nat := (s.filter (· = 10)).length
theorem lf_append (a b : List Int) : lf (a ++ b) = lf a + lf b := by unfold lf; rw [List.filter_append, List.length_append]
theorem lf_none {s : List Int} (h : ∀ c ∈ s, c ≠ 10) : lf s = 0 := by
  unfold lf
  rw [List.filter_eq_nil_iff.2 (fun c hc => by simpa using h c hc)]
  rfl
theorem parseF_place : ∀ (f n : Nat) (L : List Pr) (s pre : List Int), n = lf pre + 1 → (parseF f n L s).e ≠ 0 → ∃ pre' s', pre ++ s = pre' ++ s' ∧ s' ≠ [] ∧ (pre' = pre ∨ ∃ a, pre' = a ++ [10]) ∧ (parseF f n L s).line = lf pre' + 1 ∧ ((parseF f n L s).col = 1 ∨ (parseF f n L s).col = s'.length + 1 ∧ ∀ c ∈ s', c ≠ 10)
  | 0, _, _, _, _, _, h => by simp [parseF] at h
  | f + 1, n, L, s, pre, hn, h => by
    rw [parseF] at h ⊢
    by_cases h0 : s = []
    · rw [if_pos h0] at h; simp at h
    · rw [if_neg h0] at h ⊢
      by_cases h1 : okLine (s.take (endL s)) = false
      · rw [if_pos h1]
        exact ⟨pre, s, rfl, h0, .inl rfl, hn, .inl rfl⟩
      · rw [if_neg h1] at h ⊢
        by_cases h2 : 0 ≤ findP L (predR (s.take (endL s))).name
        · rw [if_pos h2]
          exact ⟨pre, s, rfl, h0, .inl rfl, hn, .inl rfl⟩
        · rw [if_neg h2] at h ⊢
          by_cases h3 : 8 < (predR (s.take (endL s))).args.length ∨ 64 < n
          · rw [if_pos h3]
            exact ⟨pre, s, rfl, h0, .inl rfl, hn, .inl rfl⟩
          · rw [if_neg h3] at h ⊢
            by_cases h4 : endL s = s.length
            · rw [if_pos h4]
              refine ⟨pre, s, rfl, h0, .inl rfl, hn, .inr ⟨by simp only; omega, fun c hc => ?_⟩⟩
              have := endL_before s c
              rw [h4, List.take_length] at this
              exact this hc
            · rw [if_neg h4] at h ⊢
              have hle := endL_le s
              have hat := endL_at s (by omega)
              obtain ⟨pre', s', e1, e2, e3, e4, e5⟩ := parseF_place f (n + 1) (L ++ [predR (s.take (endL s))]) (s.drop (endL s + 1)) (pre ++ s.take (endL s) ++ [10]) (by
                rw [lf_append, lf_append, lf_none (endL_before s)]
                simp [lf] at hn ⊢
                omega) h
              refine ⟨pre', s', ?_, e2, .inr ?_, e4, e5⟩
              · rw [← e1]
                conv => lhs; rw [hat]
                simp
              · rcases e3 with rfl | e3
                · exact ⟨_, rfl⟩
                · exact e3
#print axioms predR_line
#print axioms okLine_iff
#print axioms parseP_print
#print axioms parseP_back
#print axioms parseF_place
end Go.Proofs.Ytncjfnmkoiclbaa
