/-
  What is told of bytes that come chunk by chunk, in plain numbers: what is sure stays with whatever behind. No program here. (Laid ahead of stage 8.)
-/
import Derived.Test.YtfaedecfpnmnjaaPlainFrames
namespace Go.Proofs.Ytfaedecfpnmnjaa

/-- Bytes. -/
def Bytes (xs : List Int) : Prop := ∀ x ∈ xs, 0 ≤ x ∧ x < 256
theorem Bytes.append {xs ys : List Int} (h : Bytes xs) (k : Bytes ys) : Bytes (xs ++ ys) := fun x hx => (List.mem_append.1 hx).elim (h x) (k x)
theorem Bytes.drop {xs : List Int} (h : Bytes xs) (k : Nat) : Bytes (xs.drop k) := fun x hx => h x (List.mem_of_mem_drop hx)

/-- At each place from a to o neither a frame begins nor may one yet. -/
def Settled (xs : List Int) (a o : Nat) : Prop := ∀ j, a ≤ j → j < o → (getFr (xs.drop j)).2.2 ≠ 0 ∧ (getFr (xs.drop j)).2.2 ≠ 2
theorem Settled.nil (xs : List Int) (a : Nat) : Settled xs a a := fun j h1 h2 => by omega
theorem Settled.trans {xs : List Int} {a b c : Nat} (h : Settled xs a b) (k : Settled xs b c) : Settled xs a c := fun j h1 h2 => by
  rcases Nat.lt_or_ge j b with h3 | h3
  · exact h j h1 h3
  · exact k j h3 h2
theorem Settled.give {xs : List Int} {a o : Nat} (ys : List Int) (h : Settled xs a o) (hb : Bytes xs) (ho : o ≤ xs.length) : Settled (xs ++ ys) a o := fun j h1 h2 => by
  rw [drop_longer ys (by omega) hb (h j h1 h2).2]
  exact h j h1 h2
theorem Settled.no {xs : List Int} {a o : Nat} (h : Settled xs a o) : ∀ j, a ≤ j → j < o → ¬ Begins xs j := fun j h1 h2 => (h j h1 h2).1
theorem begins_give {xs : List Int} {r : Nat} (ys : List Int) (h : Begins xs r) (hb : Bytes xs) (hr : r ≤ xs.length) : getFr ((xs ++ ys).drop r) = getFr (xs.drop r) :=
  drop_longer ys hr hb (by unfold Begins at h; rw [h]; simp)
theorem frS_give {xs : List Int} {r : Nat} (ys : List Int) (h : Begins xs r) (hb : Bytes xs) (hr : r ≤ xs.length) : frS (xs ++ ys) r = frS xs r := by
  unfold frS
  rw [begins_give ys h hb hr]

/-- Where Open comes to. -/
theorem open_some {xs : List Int} {a r : Nat} (h : nextI true xs a = (r : Int)) : a ≤ r ∧ r < xs.length ∧ ((getFr (xs.drop r)).2.2 = 0 ∨ (getFr (xs.drop r)).2.2 = 2) ∧ Settled xs a r := by
  rcases first_cases (begI true xs) (xs.length - (a : Int).toNat) (a : Int).toNat with ⟨e, _⟩ | ⟨q, e, h1, h2, h3, h4⟩
  · unfold nextI at h
    omega
  · unfold nextI at h
    obtain rfl : q = r := by omega
    rw [Int.toNat_natCast] at h1 h2 h4
    refine ⟨h1, by omega, by simpa [begI] using h3, fun j hj hj2 => ?_⟩
    have := h4 j hj hj2
    simpa [begI] using this
theorem open_no {xs : List Int} {a : Nat} (h : nextI true xs a < 0) : Settled xs a xs.length := by
  rcases first_cases (begI true xs) (xs.length - (a : Int).toNat) (a : Int).toNat with ⟨_, hn⟩ | ⟨q, e, _⟩
  · rw [Int.toNat_natCast] at hn
    intro j hj hj2
    have := hn j hj (by omega)
    simpa [begI] using this
  · unfold nextI at h
    omega
theorem open_ways (xs : List Int) (a : Nat) : nextI true xs a = -1 ∨ ∃ r : Nat, nextI true xs a = (r : Int) := by
  rcases first_cases (begI true xs) (xs.length - (a : Int).toNat) (a : Int).toNat with ⟨e, _⟩ | ⟨q, e, _⟩
  · exact .inl e
  · exact .inr ⟨q, e⟩

/-- Of all that was given, xs, T has been told, and the bytes from a on not; whatever comes behind. -/
def Sure (xs : List Int) (T : List Sg) (a : Nat) : Prop := a ≤ xs.length ∧ ∀ more, Bytes more → Ahead (xs ++ more) T a
theorem Sure.start : Sure [] [] 0 := ⟨Nat.zero_le _, fun _ _ => Ahead.start _⟩
theorem Sure.give {xs : List Int} {T : List Sg} {a : Nat} (h : Sure xs T a) {ys : List Int} (hy : Bytes ys) : Sure (xs ++ ys) T a :=
  ⟨by rw [List.length_append]; have := h.1; omega, fun more hm => by rw [List.append_assoc]; exact h.2 (ys ++ more) (hy.append hm)⟩
theorem Sure.now {xs : List Int} {T : List Sg} {a : Nat} (h : Sure xs T a) : Ahead xs T a := by
  have := h.2 [] (fun x hx => by simp at hx)
  rwa [List.append_nil] at this
theorem Sure.fr {xs : List Int} {T : List Sg} {a : Nat} (h : Sure xs T a) (hb : Bytes xs) (hg : Begins xs a) : Sure xs (T ++ [frS xs a]) (a + (getFr (xs.drop a)).2.1) := by
  have hi := begins_in hb hg
  refine ⟨hi.2.1, fun more hm => ?_⟩
  have e := begins_give more hg hb h.1
  have hg' : Begins (xs ++ more) a := by unfold Begins; rw [e]; exact hg
  have := (h.2 more hm).fr (by rw [List.length_append]; omega) hg'
  rw [frS_give more hg hb h.1, e] at this
  exact this
theorem Sure.gap {xs : List Int} {T : List Sg} {a r : Nat} (h : Sure xs T a) (hb : Bytes xs) (hr : a < r) (hs : Settled xs a r) (hg : Begins xs r) : Sure xs ((T ++ [skipS a r]) ++ [frS xs r]) (r + (getFr (xs.drop r)).2.1) := by
  have hi := begins_in hb hg
  have hrl : r ≤ xs.length := by omega
  refine ⟨hi.2.1, fun more hm => ?_⟩
  have e := begins_give more hg hb hrl
  have hg' : Begins (xs ++ more) r := by unfold Begins; rw [e]; exact hg
  have := (h.2 more hm).gap hr (by rw [List.length_append]; omega) (hs.give more hb hrl).no hg'
  rw [frS_give more hg hb hrl, e] at this
  exact this
/-- What is left, where it is closed: from a on. -/
theorem Sure.close {xs : List Int} {T l : List Sg} {a : Nat} (h : Sure xs T a) (hl : PartsS xs a l) : PartsS xs 0 (T ++ l) := h.now l hl
/-- What is held begins at o; what it begins with is that of all that was given. -/
theorem getFr_held (xs : List Int) (o j : Nat) : getFr ((xs.drop o).drop j) = getFr (xs.drop (o + j)) := by rw [List.drop_drop]
theorem settled_held {xs : List Int} {o a b : Nat} (h : Settled (xs.drop o) a b) : Settled xs (o + a) (o + b) := fun j h1 h2 => by
  have := h (j - o) (by omega) (by omega)
  rwa [List.drop_drop, show o + (j - o) = j by omega] at this
#print axioms Sure.gap
#print axioms settled_held
end Go.Proofs.Ytfaedecfpnmnjaa

namespace Go.Proofs.Ytfaedecfpnmnjaa

/-- The part that is skipped from a place to another one, if there is one. -/
def gapS (a r : Nat) : List Sg := if a < r then [skipS a r] else []
theorem Sure.step {xs : List Int} {T : List Sg} {a r : Nat} (h : Sure xs T a) (hb : Bytes xs) (ha : a ≤ r) (hs : Settled xs a r) (hg : Begins xs r) : Sure xs ((T ++ gapS a r) ++ [frS xs r]) (r + (getFr (xs.drop r)).2.1) := by
  unfold gapS
  split
  · exact h.gap hb (by assumption) hs hg
  · obtain rfl : a = r := by omega
    rw [List.append_nil]
    exact h.fr hb hg
theorem Ahead.step {xs : List Int} {T : List Sg} {a r : Nat} (h : Ahead xs T a) (ha : a ≤ r) (hr : r < xs.length) (hn : ∀ j, a ≤ j → j < r → ¬ Begins xs j) (hg : Begins xs r) : Ahead xs ((T ++ gapS a r) ++ [frS xs r]) (r + (getFr (xs.drop r)).2.1) := by
  unfold gapS
  split
  · exact h.gap (by assumption) hr hn hg
  · obtain rfl : a = r := by omega
    rw [List.append_nil]
    exact h.fr hr hg
theorem Ahead.end {xs : List Int} {T : List Sg} {a : Nat} (h : Ahead xs T a) (hn : ∀ j, a ≤ j → j < xs.length → ¬ Begins xs j) : PartsS xs 0 (T ++ gapS a xs.length) := by
  unfold gapS
  split
  · exact h.last (by assumption) hn
  · rw [List.append_nil]
    exact h.done (by omega)

/-- A feed that was given xs: T has been told, all from a on not; what is held begins at o. -/
def Fd (xs : List Int) (T : List Sg) (a o : Nat) : Prop := a ≤ o ∧ o ≤ xs.length ∧ Sure xs T a ∧ Settled xs a o ∧ (o = xs.length ∨ (getFr (xs.drop o)).2.2 = 2)
theorem Fd.start : Fd [] [] 0 0 := ⟨Nat.le_refl _, Nat.le_refl _, Sure.start, Settled.nil _ _, .inl rfl⟩

/-- Where a search comes to. -/
theorem nextI_ways (op : Bool) (xs : List Int) : nextI op xs 0 = -1 ∨ ∃ r : Nat, nextI op xs 0 = (r : Int) ∧ r < xs.length := by
  rcases first_cases (begI op xs) (xs.length - (0 : Int).toNat) (0 : Int).toNat with ⟨e, _⟩ | ⟨q, e, h1, h2, _⟩
  · exact .inl e
  · exact .inr ⟨q, e, by simp at h2; omega⟩
theorem begins_drop0 (xs : List Int) (o r : Nat) : Begins (xs.drop o) r ↔ Begins xs (o + r) := by
  unfold Begins
  rw [List.drop_drop]
/-- What stands behind a search among what was not told yet. -/
theorem open_here {xs : List Int} {o r : Nat} (h : nextI true (xs.drop o) 0 = (r : Int)) : Settled xs o (o + r) ∧ ((getFr (xs.drop (o + r))).2.2 = 0 ∨ (getFr (xs.drop (o + r))).2.2 = 2) := by
  obtain ⟨_, _, h3, h4⟩ := open_some (a := 0) h
  have := settled_held h4
  rw [List.drop_drop] at h3
  exact ⟨by simpa using this, h3⟩
theorem open_gone {xs : List Int} {o : Nat} (ho : o ≤ xs.length) (h : nextI true (xs.drop o) 0 = -1) : Settled xs o xs.length := by
  have := settled_held (open_no (a := 0) (xs := xs.drop o) (by show nextI true (xs.drop o) 0 < 0; omega))
  rw [List.length_drop] at this
  simpa [show o + (xs.length - o) = xs.length by omega] using this
theorem next_here {xs : List Int} {o r : Nat} (h : nextI false (xs.drop o) 0 = (r : Int)) : Begins xs (o + r) ∧ ∀ j, o ≤ j → j < o + r → ¬ Begins xs j := by
  obtain ⟨_, _, h3, h4⟩ := next_some (a := 0) h
  rw [begins_drop0] at h3
  refine ⟨h3, fun j h1 h2 => ?_⟩
  have := h4 (j - o) (Nat.zero_le _) (by omega)
  rwa [begins_drop0, show o + (j - o) = j by omega] at this
theorem next_gone {xs : List Int} {o : Nat} (h : nextI false (xs.drop o) 0 = -1) : ∀ j, o ≤ j → j < xs.length → ¬ Begins xs j := fun j h1 h2 => by
  have := next_no (a := 0) (xs := xs.drop o) (by show nextI false (xs.drop o) 0 < 0; omega) (j - o) (Nat.zero_le _) (by rw [List.length_drop]; omega)
  rwa [begins_drop0, show o + (j - o) = j by omega] at this
#print axioms open_gone
end Go.Proofs.Ytfaedecfpnmnjaa

namespace Go.Proofs.Ytfaedecfpnmnjaa

/-- From each place on there are parts. -/
theorem PartsS.exist {xs : List Int} (hx : Bytes xs) : ∀ (n a : Nat), xs.length - a ≤ n → ∃ l, PartsS xs a l
  | 0, a, h => ⟨[], .stop a (by omega)⟩
  | n + 1, a, h => by
    by_cases ha : xs.length ≤ a
    · exact ⟨[], .stop a ha⟩
    · rcases next_ways xs a with e | ⟨r, e⟩
      · exact ⟨_, .rest a (by omega) (next_no (by omega))⟩
      · obtain ⟨h1, h2, h3, h4⟩ := next_some e
        have h5 := begins_in hx h3
        obtain ⟨l, hl⟩ := PartsS.exist hx n (r + (getFr (xs.drop r)).2.1) (by omega)
        by_cases hr : a = r
        · subst hr
          exact ⟨_, .fr a l h2 h3 hl⟩
        · exact ⟨_, .gap a r l (by omega) h2 h4 h3 hl⟩
theorem PartsS.some {xs : List Int} {a : Nat} {l : List Sg} (h : PartsS xs a l) (ha : a < xs.length) : l ≠ [] := by
  cases h with
  | stop _ h => omega
  | rest _ _ _ => simp
  | fr _ _ _ _ _ => simp
  | gap _ _ _ _ _ _ _ _ => simp
theorem PartsS.none {xs : List Int} {a : Nat} {l : List Sg} (h : PartsS xs a l) (ha : xs.length ≤ a) : l = [] := by
  cases h with
  | stop _ _ => rfl
  | rest _ h _ => omega
  | fr _ _ h _ _ => omega
  | gap _ _ _ h1 h _ _ _ => omega

/-- Of bytes that are one frame nothing is told ahead of the last one. -/
theorem fd_part {xs : List Int} (hb : Bytes xs) {S : Sg} (hp : PartsS xs 0 [S]) {k : Nat} (hk : k < xs.length) {T : List Sg} {a o : Nat} (h : Fd (xs.take k) T a o) : T = [] := by
  obtain ⟨h1, h2, h3, _, _⟩ := h
  rw [List.length_take] at h2
  have h4 := h3.2 (xs.drop k) (hb.drop k)
  rw [List.take_append_drop] at h4
  obtain ⟨l, hl⟩ := PartsS.exist hb _ a (Nat.le_refl _)
  have h5 := (h4 l hl).same hp
  have h6 := hl.some (by omega)
  have h7 := congrArg List.length h5
  rw [List.length_append, List.length_singleton] at h7
  have h8 : 0 < l.length := List.length_pos_iff.2 h6
  exact List.eq_nil_of_length_eq_zero (by omega)
/-- Behind that it is, and nothing is held. -/
theorem fd_whole {xs : List Int} (hb : Bytes xs) (hbg : Begins xs 0) (hn : (getFr (xs.drop 0)).2.1 = xs.length) {T : List Sg} {a o : Nat} (h : Fd xs T a o) : T.length = 1 ∧ o = xs.length := by
  obtain ⟨h1, h2, h3, h4, h5⟩ := h
  have hin := begins_in hb hbg
  have hp : PartsS xs 0 [frS xs 0] := .fr 0 [] (by omega) hbg (.stop _ (by omega))
  obtain ⟨l, hl⟩ := PartsS.exist hb _ a (Nat.le_refl _)
  have h6 := (h3.now l hl).same hp
  have h7 := congrArg List.length h6
  rw [List.length_append, List.length_singleton] at h7
  by_cases ha : a < xs.length
  · exfalso
    have h8 : 0 < l.length := List.length_pos_iff.2 (hl.some ha)
    have hT : T = [] := List.eq_nil_of_length_eq_zero (by omega)
    subst hT
    rw [List.nil_append] at h6
    subst h6
    have ha0 : a = 0 := by
      generalize hq : [frS xs 0] = q at hl
      cases hl with
      | stop _ _ => cases hq
      | rest _ _ _ => injection hq with hq _; simp [frS, skipS] at hq
      | fr _ _ _ _ _ => injection hq with hq _; simp [frS] at hq; exact hq.1.symm
      | gap _ _ _ _ _ _ _ _ => injection hq with hq _; simp [frS, skipS] at hq
    subst ha0
    have ho : o = 0 := by
      rcases Nat.eq_zero_or_pos o with h | h
      · exact h
      · exact absurd hbg (h4 0 (Nat.le_refl _) h).1
    subst ho
    rcases h5 with h | h
    · omega
    · unfold Begins at hbg
      rw [h] at hbg
      cases hbg
  · have := hl.none (by omega)
    subst this
    simp only [List.length_nil] at h7
    exact ⟨by omega, by omega⟩
#print axioms fd_part
#print axioms fd_whole
end Go.Proofs.Ytfaedecfpnmnjaa
