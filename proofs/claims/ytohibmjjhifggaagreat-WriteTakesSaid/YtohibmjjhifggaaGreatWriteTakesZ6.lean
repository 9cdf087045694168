/-
  What the theorem of WriteTakes rests on, part 6 of 11.
-/
import Derived.Deep.SlicePairs
import Derived.SizedLaws
import Derived.Deep.RegionHeld3
import Derived.Test.YtohibmjjhifggaaGreatWriteTakesZ5
namespace Go.Proofs.YtohibmjjhifggaaGreat
/-- May these points be in one block? -/
def fitB (sig : List Pr) (l : List Pm) : Bool := decide ((putB sig l).2 = 0)
theorem fitB_yes {sig : List Pr} {l : List Pm} : fitB sig l = true ↔ (putB sig l).2 = 0 := by simp [fitB]
/-- Of a trace that is of its signature: just if the payload is short enough. -/
theorem putB_of {sig : List Pr} {l : List Pm} (hc : checkB sig l = 0) : putB sig l = if 4096 < (payB l).length then ([], 6) else (payB l, 0) := by unfold putB; rw [if_pos hc]
theorem fitB_of {sig : List Pr} {l : List Pm} (hc : checkB sig l = 0) : fitB sig l = decide ((payB l).length ≤ 4096) := by
  unfold fitB
  rw [putB_of hc]
  by_cases h : 4096 < (payB l).length
  · rw [if_pos h]; simp; omega
  · rw [if_neg h]; simp; omega
/-- A trace that is of a signature, and what its numbers may be. -/
structure SOk (sig : List Pr) (l : List Pm) : Prop where
  chk : (checkT sig (l.map (·.p))).1 = 0
  fits : ∀ p ∈ l, p.Fits ∧ ∀ e ∈ p.evs, ∀ a ∈ e.args, a.Fits
section
variable {sig : List Pr} {l : List Pm}
theorem SOk.drop (h : SOk sig l) (k : Nat) : SOk sig (l.drop k) := ⟨by rw [List.map_drop, checkT_drop h.chk], fun p hp => h.fits p (List.mem_of_mem_drop hp)⟩
theorem SOk.take (h : SOk sig l) (k : Nat) : SOk sig (l.take k) := ⟨by rw [List.map_take, checkT_take h.chk], fun p hp => h.fits p (List.mem_of_mem_take hp)⟩
theorem SOk.check (h : SOk sig l) (h1 : 0 < l.length) (h2 : l.length ≤ 1024) : checkB sig l = 0 := by
  unfold checkB
  rw [if_neg (by omega), if_neg (by rw [h.chk]; simp), if_neg (by omega)]
theorem SOk.bok (h : SOk sig l) (h2 : l.length ≤ 1024) : BOk l := bok_of h.chk h2 h.fits
theorem SOk.takes (h : SOk sig l) {n : Nat} (h1 : 1 ≤ n) (h2 : n ≤ 1024) (hl : n ≤ l.length) : checkB sig (l.take n) = 0 := (h.take n).check (by rw [List.length_take]; omega) (by rw [List.length_take]; omega)
/-- A payload of fewer points is no longer. -/
theorem SOk.longer (h : SOk sig l) {n : Nat} (h2 : n ≤ 1024) (hl : n ≤ l.length) : ∀ d m, 1 ≤ m → m + d = n → (payB (l.take m)).length ≤ (payB (l.take n)).length
  | 0, m, _, e => by rw [show m = n by omega]; exact Nat.le_refl _
  | d + 1, m, h1, e => by
    refine Nat.le_trans ?_ (SOk.longer h h2 hl d (m + 1) (by omega) (by omega))
    have hb : BOk (l.take (m + 1)) := (h.take (m + 1)).bok (by rw [List.length_take]; omega)
    have := payB_longer hb (n := m) h1 (by rw [List.length_take]; omega)
    rw [List.take_take, List.take_take, Nat.min_eq_left (Nat.le_succ m), Nat.min_self] at this
    omega
theorem SOk.fewer (h : SOk sig l) {m n : Nat} (h1 : 1 ≤ m) (hmn : m ≤ n) (h2 : n ≤ 1024) (hl : n ≤ l.length) (hf : fitB sig (l.take n) = true) : fitB sig (l.take m) = true := by
  rw [fitB_of (h.takes (by omega) h2 hl), decide_eq_true_iff] at hf
  rw [fitB_of (h.takes h1 (by omega) (by omega)), decide_eq_true_iff]
  exact Nat.le_trans (h.longer h2 hl (n - m) m h1 (by omega)) hf
/-- What has no room has too long a payload. -/
theorem SOk.over (h : SOk sig l) {n : Nat} (h1 : 1 ≤ n) (h2 : n ≤ 1024) (hl : n ≤ l.length) (hf : fitB sig (l.take n) = false) : (putB sig (l.take n)).2 = 6 := by
  have hc := h.takes h1 h2 hl
  rw [fitB_of hc, decide_eq_false_iff_not] at hf
  rw [putB_of hc, if_pos (by omega)]
end
/-- The greatest number up to m that p holds of; 0. -/
def topP (p : Nat → Bool) : Nat → Nat
  | 0 => 0
  | m + 1 => if p (m + 1) then m + 1 else topP p m
theorem topP_le (p : Nat → Bool) : ∀ m, topP p m ≤ m
  | 0 => Nat.le_refl _
  | m + 1 => by
    unfold topP
    by_cases h : p (m + 1) = true
    · rw [if_pos h]; exact Nat.le_refl _
    · rw [if_neg h]; have := topP_le p m; omega
theorem topP_one {p : Nat → Bool} (h1 : p 1 = true) : ∀ m, 1 ≤ m → 1 ≤ topP p m
  | m + 1, _ => by
    unfold topP
    by_cases h : p (m + 1) = true
    · rw [if_pos h]; omega
    · rw [if_neg h]
      cases m with
      | zero => exact absurd h1 h
      | succ m => exact topP_one h1 _ (by omega)
theorem topP_yes {p : Nat → Bool} : ∀ m, 1 ≤ topP p m → p (topP p m) = true
  | 0, h => by simp [topP] at h
  | m + 1, h1 => by
    unfold topP at h1 ⊢
    by_cases h : p (m + 1) = true
    · rw [if_pos h]; exact h
    · rw [if_neg h] at h1 ⊢
      exact topP_yes m h1
theorem topP_no {p : Nat → Bool} : ∀ m j, topP p m < j → j ≤ m → p j = false
  | 0, j, h1, h2 => by omega
  | m + 1, j, h1, h2 => by
    unfold topP at h1
    by_cases h : p (m + 1) = true
    · rw [if_pos h] at h1; omega
    · rw [if_neg h] at h1
      by_cases e : j = m + 1
      · rw [e]; simpa using h
      · exact topP_no m j h1 (by omega)
theorem topP_is {p : Nat → Bool} {m r : Nat} (hr : r ≤ m) (h1 : 1 ≤ r) (hp : p r = true) (hn : ∀ j, r < j → j ≤ m → p j = false) : topP p m = r := by
  rcases Nat.lt_trichotomy (topP p m) r with h | h | h
  · have := topP_no m r h hr
    rw [hp] at this
    cases this
  · exact h
  · have := topP_yes (p := p) m (by omega)
    rw [hn _ h (topP_le p m)] at this
    cases this
/-- How many points the first block has. -/
def firstC (sig : List Pr) (l : List Pm) (most : Int) : Nat := topP (fun n => fitB sig (l.take n)) (min (min most.toNat 1024) l.length)
/-- How many points each block has. -/
def sizesF (sig : List Pr) (most : Int) : Nat → List Pm → List Nat
  | 0, _ => []
  | f + 1, l => if l.length = 0 then [] else firstC sig l most :: sizesF sig most f (l.drop (firstC sig l most))
def sizesC (sig : List Pr) (l : List Pm) (most : Int) : List Nat := sizesF sig most l.length l
/-- Does each of them fit alone? -/
def aloneC (sig : List Pr) (l : List Pm) : Bool := l.all fun p => fitB sig [p]
/-- Why there are no blocks; 0. -/
def whyC (sig : List Pr) (l : List Pm) (most : Int) : Int := if most < 1 then 1 else if (checkT sig (l.map (·.p))).1 ≠ 0 then (checkT sig (l.map (·.p))).1 else if aloneC sig l = true then 0 else 6
/-- A trace that has blocks. -/
structure COk (sig : List Pr) (l : List Pm) (most : Int) : Prop where
  ok : SOk sig l
  most : 1 ≤ most
  alone : ∀ p ∈ l, fitB sig [p] = true
section
variable {sig : List Pr} {l : List Pm} {most : Int}
theorem cok_of (h : whyC sig l most = 0) (hf : ∀ p ∈ l, p.Fits ∧ ∀ e ∈ p.evs, ∀ a ∈ e.args, a.Fits) : COk sig l most := by
  unfold whyC at h
  by_cases h1 : most < 1
  · rw [if_pos h1] at h; omega
  · rw [if_neg h1] at h
    by_cases h2 : (checkT sig (l.map (·.p))).1 ≠ 0
    · rw [if_pos h2] at h; exact absurd h h2
    · rw [if_neg h2] at h
      by_cases h3 : aloneC sig l = true
      · exact ⟨⟨by simpa using h2, hf⟩, by omega, fun p hp => List.all_eq_true.1 h3 p hp⟩
      · rw [if_neg h3] at h; omega
theorem COk.drop (h : COk sig l most) (k : Nat) : COk sig (l.drop k) most := ⟨h.ok.drop k, h.most, fun p hp => h.alone p (List.mem_of_mem_drop hp)⟩
theorem COk.one (h : COk sig l most) (hl : 0 < l.length) : fitB sig (l.take 1) = true := by
  cases l with
  | nil => simp at hl
  | cons p l => exact h.alone p (List.mem_cons_self ..)
theorem COk.first (h : COk sig l most) (hl : 0 < l.length) : 1 ≤ firstC sig l most ∧ firstC sig l most ≤ l.length ∧ firstC sig l most ≤ 1024 ∧ (firstC sig l most : Int) ≤ most ∧ fitB sig (l.take (firstC sig l most)) = true := by
  have hm := h.most
  have h1 := topP_one (p := fun n => fitB sig (l.take n)) (h.one hl) (min (min most.toNat 1024) l.length) (by omega)
  have h2 := topP_le (fun n => fitB sig (l.take n)) (min (min most.toNat 1024) l.length)
  exact ⟨h1, by unfold firstC; omega, by unfold firstC; omega, by unfold firstC; omega, topP_yes _ h1⟩
/-- One more has no room, where there may be one more. -/
theorem COk.noMore (h : COk sig l most) {k : Nat} (hk : firstC sig l most = k) (h1 : k < l.length) (h2 : k < 1024) (h3 : (k : Int) < most) : (putB sig (l.take (k + 1))).2 = 6 := by
  have := topP_no (p := fun n => fitB sig (l.take n)) (min (min most.toNat 1024) l.length) (k + 1) (by unfold firstC at hk; omega) (by omega)
  exact h.ok.over (by omega) (by omega) (by omega) this
theorem sizesF_more (h : COk sig l most) : ∀ f g, l.length ≤ f → l.length ≤ g → sizesF sig most f l = sizesF sig most g l
  | f, g, hf, hg => by
    induction f generalizing g l with
    | zero =>
      cases g with
      | zero => rfl
      | succ g => rw [sizesF, sizesF, if_pos (by omega)]
    | succ f ih =>
      cases g with
      | zero => rw [sizesF, sizesF, if_pos (by omega)]
      | succ g =>
        rw [sizesF, sizesF]
        by_cases hl : l.length = 0
        · rw [if_pos hl, if_pos hl]
        · rw [if_neg hl, if_neg hl]
          have := (h.first (by omega)).1
          rw [ih (h.drop _) g (by rw [List.length_drop]; omega) (by rw [List.length_drop]; omega)]
theorem sizesC_nil (sig : List Pr) (most : Int) : sizesC sig [] most = [] := rfl
theorem COk.sizes (h : COk sig l most) (hl : 0 < l.length) : sizesC sig l most = firstC sig l most :: sizesC sig (l.drop (firstC sig l most)) most := by
  have h1 := (h.first hl).1
  unfold sizesC
  obtain ⟨n, hn⟩ : ∃ n, l.length = n + 1 := ⟨l.length - 1, by omega⟩
  rw [hn, sizesF, if_neg (by omega), sizesF_more (h.drop _) n (l.drop (firstC sig l most)).length (by rw [List.length_drop]; omega) (Nat.le_refl _)]
theorem COk.length (h : COk sig l most) : ∀ n, l.length = n → (sizesC sig l most).length ≤ n := by
  intro n
  induction n using Nat.strongRecOn generalizing l with
  | _ n ih =>
    intro hn
    rcases Nat.eq_zero_or_pos l.length with h0 | h0
    · rw [List.eq_nil_of_length_eq_zero h0, sizesC_nil]; exact Nat.zero_le _
    · have h1 := h.first h0
      rw [h.sizes h0, List.length_cons]
      have := ih (l.length - firstC sig l most) (by omega) (h.drop (firstC sig l most)) (by rw [List.length_drop])
      omega
end
/-- Of each block of a trace: how many points, of those that are left. -/
inductive CutC (sig : List Pr) (most : Int) : List Pm → List Nat → Prop
  | nil : CutC sig most [] []
  | cons {l : List Pm} {ks : List Nat} {k : Nat} (h : COk sig l most) (hl : 0 < l.length) (hk : firstC sig l most = k) (t : CutC sig most (l.drop k) ks) : CutC sig most l (k :: ks)
theorem COk.cut {sig : List Pr} {most : Int} : ∀ n {l : List Pm}, COk sig l most → l.length = n → CutC sig most l (sizesC sig l most) := by
  intro n
  induction n using Nat.strongRecOn with
  | _ n ih =>
    intro l h hn
    rcases Nat.eq_zero_or_pos l.length with h0 | h0
    · rw [List.eq_nil_of_length_eq_zero h0, sizesC_nil]; exact .nil
    · have h1 := h.first h0
      rw [h.sizes h0]
      exact .cons h h0 rfl (ih (l.length - firstC sig l most) (by omega) (h.drop _) (by rw [List.length_drop]))
end Go.Proofs.YtohibmjjhifggaaGreat
namespace Go.Proofs.YtohibmjjhifggaaGreat
/-- A list in parts of so many each. -/
def cutsOf {α : Type} : List Nat → List α → List (List α)
  | [], _ => []
  | k :: ks, l => l.take k :: cutsOf ks (l.drop k)
theorem cutsOf_length {α : Type} : ∀ (ks : List Nat) (l : List α), (cutsOf ks l).length = ks.length
  | [], _ => rfl
  | k :: ks, l => by rw [cutsOf, List.length_cons, List.length_cons, cutsOf_length ks]
theorem CutC.inv {sig : List Pr} {most : Int} {l : List Pm} {ks : List Nat} {k : Nat} (h : CutC sig most l (k :: ks)) : COk sig l most ∧ 0 < l.length ∧ firstC sig l most = k ∧ CutC sig most (l.drop k) ks := by
  cases h with
  | cons h1 h2 h3 h4 => exact ⟨h1, h2, h3, h4⟩
theorem putB_same {sig : List Pr} {l l' : List Pm} (h : l.map (·.p) = l'.map (·.p)) : putB sig l = putB sig l' := by rw [← putB_plain sig l, h, putB_plain]
end Go.Proofs.YtohibmjjhifggaaGreat
namespace Go.Proofs.YtohibmjjhifggaaGreat
/-- A trace's blocks. -/
def cutsC (sig : List Pr) (l : List Pm) (most : Int) : List (List Pm) := cutsOf (sizesC sig l most) l
/-- Has a block room for a point more? -/
def roomC (sig : List Pr) (most : Int) (b : List Pm) (q : Pm) : Prop := b.length < 1024 ∧ (b.length : Int) < most ∧ fitB sig (b ++ [q]) = true
instance (sig : List Pr) (most : Int) (b : List Pm) (q : Pm) : Decidable (roomC sig most b q) := by unfold roomC; infer_instance
/-- Why a point can't be added; 0. -/
def addW (sig : List Pr) (l : List Pm) (q : Pm) : Int := if (checkT sig ((l.drop (l.length - 1) ++ [q]).map (·.p))).1 ≠ 0 then (checkT sig ((l.drop (l.length - 1) ++ [q]).map (·.p))).1 else (putB sig [q]).2
section
variable {sig : List Pr} {l : List Pm} {q : Pm} {most : Int}
theorem cutsC_nil (sig : List Pr) (most : Int) : cutsC sig [] most = [] := rfl
theorem COk.cons (h : COk sig l most) (hl : 0 < l.length) : cutsC sig l most = l.take (firstC sig l most) :: cutsC sig (l.drop (firstC sig l most)) most := by unfold cutsC; rw [h.sizes hl]; rfl
theorem COk.take (h : COk sig l most) (k : Nat) : COk sig (l.take k) most := ⟨h.ok.take k, h.most, fun p hp => h.alone p (List.mem_of_mem_take hp)⟩
theorem COk.single (h : COk sig [q] most) : cutsC sig [q] most = [[q]] := by
  have hf := h.first (by simp)
  have h1 : firstC sig [q] most = 1 := by
    have := hf.1
    have := hf.2.1
    simp at this
    omega
  rw [h.cons (by simp), h1]
  rfl
theorem snoc_take {n : Nat} (hn : n ≤ l.length) : (l ++ [q]).take n = l.take n := by rw [List.take_append_of_le_length hn]
theorem firstC_less (h' : COk sig (l ++ [q]) most) (hl : 0 < l.length) (hk : firstC sig l most < l.length) : firstC sig (l ++ [q]) most = firstC sig l most := by
  have h : COk sig l most := by
    have := h'.take l.length
    rwa [List.take_left] at this
  have hf := h.first hl
  have hll : (l ++ [q]).length = l.length + 1 := by simp
  obtain ⟨k, hkk⟩ : ∃ k, firstC sig l most = k := ⟨_, rfl⟩
  rw [hkk] at hf hk ⊢
  unfold firstC
  refine topP_is (by rw [hll]; omega) hf.1 (by show fitB sig ((l ++ [q]).take k) = true; rw [snoc_take hf.2.1]; exact hf.2.2.2.2) fun j h1 h2 => ?_
  rw [hll] at h2
  have hno : ∀ j, k < j → j ≤ min (min most.toNat 1024) l.length → fitB sig (l.take j) = false := fun j h3 h4 => topP_no (p := fun n => fitB sig (l.take n)) (min (min most.toNat 1024) l.length) j (by unfold firstC at hkk; omega) h4
  show fitB sig ((l ++ [q]).take j) = false
  by_cases hj : j ≤ l.length
  · rw [snoc_take hj]
    exact hno j h1 (by omega)
  · cases hfj : fitB sig ((l ++ [q]).take j) with
    | false => rfl
    | true =>
      have := h'.ok.fewer (m := k + 1) (n := j) (by omega) (by omega) (by omega) (by omega) hfj
      rw [snoc_take (by omega), hno (k + 1) (by omega) (by omega)] at this
      cases this
theorem firstC_all (h' : COk sig (l ++ [q]) most) (hl : 0 < l.length) (hk : firstC sig l most = l.length) : firstC sig (l ++ [q]) most = if roomC sig most l q then l.length + 1 else l.length := by
  have h : COk sig l most := by
    have := h'.take l.length
    rwa [List.take_left] at this
  have hf := h.first hl
  rw [hk] at hf
  have hll : (l ++ [q]).length = l.length + 1 := by simp
  unfold firstC
  by_cases hr : roomC sig most l q
  · rw [if_pos hr]
    obtain ⟨r1, r2, r3⟩ := hr
    exact topP_is (by rw [hll]; omega) (by omega) (by show fitB sig ((l ++ [q]).take (l.length + 1)) = true; rw [List.take_of_length_le (by omega)]; exact r3) (fun j h1 h2 => by omega)
  · rw [if_neg hr]
    refine topP_is (by rw [hll]; omega) (by omega) (by show fitB sig ((l ++ [q]).take l.length) = true; rw [snoc_take (Nat.le_refl _)]; exact hf.2.2.2.2) (fun j h1 h2 => ?_)
    have hj : j = l.length + 1 := by omega
    subst hj
    show fitB sig ((l ++ [q]).take (l.length + 1)) = false
    rw [List.take_of_length_le (by omega)]
    cases hfj : fitB sig (l ++ [q]) with
    | false => rfl
    | true => exact absurd ⟨by omega, by omega, hfj⟩ hr
end
/-- With a point more: all blocks but the last one stay. -/
theorem cutsC_snoc {sig : List Pr} {q : Pm} {most : Int} : ∀ n {l : List Pm}, l.length = n → COk sig (l ++ [q]) most → 0 < l.length →
    ∃ L b, 0 < b.length ∧ cutsC sig l most = L ++ [b] ∧ cutsC sig (l ++ [q]) most = L ++ (if roomC sig most b q then [b ++ [q]] else [b, [q]]) := by
  intro n
  induction n using Nat.strongRecOn with
  | _ n ih =>
    intro l hn h' hl
    have h : COk sig l most := by
      have := h'.take l.length
      rwa [List.take_left] at this
    have hll : (l ++ [q]).length = l.length + 1 := by simp
    have hf := h.first hl
    rw [h.cons hl, h'.cons (by omega)]
    by_cases hk : firstC sig l most < l.length
    · rw [firstC_less h' hl hk]
      obtain ⟨k, hkk⟩ : ∃ k, firstC sig l most = k := ⟨_, rfl⟩
      rw [hkk] at hf hk ⊢
      have hd : (l ++ [q]).drop k = l.drop k ++ [q] := by rw [List.drop_append_of_le_length (by omega)]
      have hd' : COk sig (l.drop k ++ [q]) most := by rw [← hd]; exact h'.drop k
      obtain ⟨L, b, e0, e1, e2⟩ := ih (l.length - k) (by omega) (l := l.drop k) (by rw [List.length_drop]) hd' (by rw [List.length_drop]; omega)
      refine ⟨l.take k :: L, b, e0, by rw [e1]; rfl, by rw [snoc_take (by omega), hd, e2]; rfl⟩
    · have hka : firstC sig l most = l.length := by omega
      rw [firstC_all h' hl hka, hka, List.take_length, List.drop_length, cutsC_nil]
      refine ⟨[], l, hl, rfl, ?_⟩
      by_cases hr : roomC sig most l q
      · rw [if_pos hr, if_pos hr, List.take_of_length_le (by omega), List.drop_of_length_le (by omega), cutsC_nil]
        rfl
      · have hq : COk sig [q] most := by
          have := h'.drop l.length
          rwa [List.drop_left] at this
        rw [if_neg hr, if_neg hr, snoc_take (Nat.le_refl _), List.take_length, List.drop_left, hq.single]
        rfl
theorem checkT_snoc {sig : List Pr} {t : List Pn} {q : Pn} (h : (checkT sig t).1 = 0) (h2 : (checkT sig (t.drop (t.length - 1) ++ [q])).1 = 0) : (checkT sig (t ++ [q])).1 = 0 := by
  rcases Nat.eq_zero_or_pos t.length with h0 | h0
  · rw [List.eq_nil_of_length_eq_zero h0] at h2 ⊢
    exact h2
  · obtain ⟨hs, ha⟩ := checkT_zero.1 h
    obtain ⟨_, hb⟩ := checkT_zero.1 h2
    have hdl : (t.drop (t.length - 1)).length = 1 := by rw [List.length_drop]; omega
    have e : ∀ i, i < t.length → (t ++ [q]).getD i default = t.getD i default := fun i hi => by simp [List.getD, List.getElem?_append_left hi]
    have e2 : (t ++ [q]).getD t.length default = q := by simp [List.getD]
    refine checkT_zero.2 ⟨hs, fun j hj => ?_⟩
    rw [List.length_append, List.length_cons, List.length_nil] at hj
    by_cases hjt : j < t.length
    · have := ha j hjt
      unfold whyT at this ⊢
      rwa [e j hjt, e (j - 1) (by omega)]
    · have hje : j = t.length := by omega
      subst hje
      have := hb 1 (by rw [List.length_append, hdl]; simp)
      have f1 : (t.drop (t.length - 1) ++ [q]).getD 1 default = q := by
        unfold List.getD
        rw [List.getElem?_append_right (by omega), hdl]
        rfl
      have f0 : (t.drop (t.length - 1) ++ [q]).getD 0 default = t.getD (t.length - 1) default := by
        unfold List.getD
        rw [List.getElem?_append_left (by omega), List.getElem?_drop]
        rfl
      unfold whyT at this ⊢
      rw [f1, show 1 - 1 = 0 from rfl, f0] at this
      rw [e2, e (t.length - 1) (by omega)]
      by_cases hc : q.tm < (t.getD (t.length - 1) default).tm
      · rw [if_pos ⟨by omega, hc⟩] at this
        cases this
      · rw [if_neg (by omega)] at this ⊢
        exact this
/-- What can be added makes a trace that has blocks. -/
theorem COk.snoc {sig : List Pr} {l : List Pm} {q : Pm} {most : Int} (h : COk sig l most) (ha : addW sig l q = 0) (hq : q.Fits ∧ ∀ e ∈ q.evs, ∀ a ∈ e.args, a.Fits) : COk sig (l ++ [q]) most := by
  unfold addW at ha
  by_cases hc : (checkT sig ((l.drop (l.length - 1) ++ [q]).map (·.p))).1 ≠ 0
  · rw [if_pos hc] at ha
    exact absurd ha hc
  · rw [if_neg hc] at ha
    have hc0 : (checkT sig ((l.drop (l.length - 1) ++ [q]).map (·.p))).1 = 0 := by simpa using hc
    refine ⟨⟨?_, fun p hp => ?_⟩, h.most, fun p hp => ?_⟩
    · rw [List.map_append]
      refine checkT_snoc h.ok.chk ?_
      rw [List.map_append, List.map_drop] at hc0
      rwa [List.length_map]
    · rcases List.mem_append.1 hp with hp | hp
      · exact h.ok.fits p hp
      · obtain rfl := List.mem_singleton.1 hp
        exact hq
    · rcases List.mem_append.1 hp with hp | hp
      · exact h.alone p hp
      · obtain rfl := List.mem_singleton.1 hp
        exact fitB_yes.2 ha
theorem COk.none {sig : List Pr} {most : Int} (hs : checkP sig = 0) (hm : 1 ≤ most) : COk sig [] most := ⟨⟨by rw [List.map_nil, checkT_none hs (fun j hj => absurd hj (Nat.not_lt_zero _))], fun p hp => absurd hp (by simp)⟩, hm, fun p hp => absurd hp (by simp)⟩
end Go.Proofs.YtohibmjjhifggaaGreat

namespace Go.Proofs.YtohibmjjhifggaaGreat
open Go.RowKit Go.ChangeShapes Go.WideShapes
theorem list_of {α : Type} {P : Nat → α → Prop} : ∀ {len : Nat}, (∀ i, i < len → ∃ d, P i d) → ∃ l : List α, l.length = len ∧ ∀ i d, l[i]? = some d → P i d
  | 0, _ => ⟨[], rfl, fun i d h => by simp at h⟩
  | n + 1, h => by
    obtain ⟨l, hl, hp⟩ := list_of (fun i hi => h i (Nat.lt_succ_of_lt hi))
    obtain ⟨d, hd⟩ := h n (Nat.lt_succ_self n)
    refine ⟨l ++ [d], by simp [hl], fun i e hi => ?_⟩
    by_cases hlt : i < l.length
    · rw [List.getElem?_append_left hlt] at hi
      exact hp i e hi
    · have hi2 := (List.getElem?_eq_some_iff.1 hi).1
      simp at hi2
      obtain rfl : i = l.length := by omega
      simp at hi
      rw [← hi, hl]
      exact hd
theorem weightsAll_mem {H : Type} {P : Program} {e : TypeId} : ∀ {l : List (DataW H)} {d : DataW H} {n : Nat}, d ∈ l → n ∈ d.weights P e → n ∈ DataW.weightsAll P e l
  | [], d, n, h, _ => by simp at h
  | c :: l, d, n, h, hn => by
    simp only [DataW.weightsAll, List.mem_append]
    rcases List.mem_cons.1 h with rfl | h
    · exact .inl hn
    · exact .inr (weightsAll_mem h hn)
/-- What a slice's elements weigh. -/
theorem slice_weights {H : Type} {P : Program} {t e : TypeId} {es sp : List (DataW H)} {R : Nat} (hu : P.underlying t = some (.slice e)) (h : ∀ n ∈ (DataW.slice es sp).weights P t, n ≤ R) :
    (es.length + sp.length) * P.bytesOf e ≤ R ∧ ∀ d ∈ es, ∀ n ∈ d.weights P e, n ≤ R := by
  simp only [DataW.weights, hu] at h
  exact ⟨h _ (by simp), fun d hd n hn => h n (List.mem_cons_of_mem _ (List.mem_append.2 (.inl (weightsAll_mem hd hn))))⟩
set_option maxRecDepth 100000 in
theorem args_of {H : Type} {enc : TypeId × Value → H} {w : World} {fuel : Nat} {a : Option Addr} {len cap : Nat} {x : DataW H × List MemPlace}
    (h : DataW.trod enc Tryz.prog w 0 (fun _ => true) true fuel 71 [.slice a len cap] = some x) :
    ∃ l : List Ag, l.length = len ∧ GRow w w.heap.size (.slice a len cap) l ∧ ∀ R, (∀ n ∈ x.1.weights Tryz.prog 71, n ≤ R) → len * 32 ≤ R := by
  rcases Go.Deep.open_slice Tryz.underlying71 h with ⟨hcs, _⟩ | ⟨ad, len', cap', m, n, D, Pl, hcs, hb, hl, hm, hmm, rfl, hi⟩
  · simp at hcs
    obtain ⟨rfl, rfl, rfl⟩ := hcs
    exact ⟨[], rfl, ⟨ERow.nil _ _, by simp⟩, by simp⟩
  · simp at hcs
    obtain ⟨rfl, rfl, rfl⟩ := hcs
    have hlm : len ≤ m := by rw [hmm]; split <;> omega
    have ce : (Tryz.prog).cellsOf 75 = 3 := by kernel_rfl
    have c3 : (Tryz.prog).cellsOf 3 = 1 := by kernel_rfl
    have c2 : (Tryz.prog).cellsOf 2 = 1 := by kernel_rfl
    have c9 : (Tryz.prog).cellsOf 9 = 1 := by kernel_rfl
    have each : ∀ i, i < len → ∃ d : Ag, (w.cell? (ad.add (i * 3)) = some (.int .i64 d.t) ∧ w.cell? (ad.add (i * 3 + 1)) = some (.int .i64 d.n) ∧ w.cell? (ad.add (i * 3 + 2)) = some (.string (strOfNums d.s))) ∧ d.Fits := by
      intro i hlt
      obtain ⟨cs', h1, h2⟩ := hi i (by omega)
      rw [ce] at h1
      obtain ⟨_, hlen, hcell⟩ := World.cells?_some h1
      obtain ⟨xs, k, hk, hxy, _, hxl, hf⟩ := DataW.trod_struct Tryz.underlying75 h2
      match xs, hxl, cs', hlen with
      | [y0, y1, y2], _, [v0, v1, v2], _ =>
        have g0 := hf 0 _ rfl
        have g1 := hf 1 _ rfl
        have g2 := hf 2 _ rfl
        simp [c3, c2, c9] at g0 g1 g2
        have e0 := hcell 0 (by omega)
        have e1 := hcell 1 (by omega)
        have e2 := hcell 2 (by omega)
        rw [Go.Deep.add_add] at e0 e1 e2
        obtain ⟨n0, u0, _, w0⟩ := DataW.trod_int (k := .i64) Tryz.underlying3 g0
        obtain ⟨n1, u1, _, w1⟩ := DataW.trod_int (k := .i64) Tryz.underlying2 g1
        obtain ⟨s0, u2, _, hsz⟩ := DataW.trod_string Tryz.underlying9 g2
        injection u0 with u0
        injection u1 with u1
        injection u2 with u2
        obtain ⟨nm, rfl, hnl, hnb⟩ := text_of s0
        subst u0 u1 u2
        exact ⟨⟨n0, n1, nm⟩, ⟨by simpa using e0, by simpa using e1, by simpa using e2⟩, by rw [hnl]; exact hsz, hnb, bounds_i64 w0, bounds_i64 w1⟩
    obtain ⟨l, hll, hlp⟩ := list_of each
    subst hll
    refine ⟨l, rfl, ⟨⟨some ad, cap, rfl, hl, hm, by simp, fun hn => ?_⟩, fun d hd => ?_⟩, fun R hR => ?_⟩
    · obtain ⟨d0, hd0⟩ : ∃ d, l[0]? = some d := ⟨_, List.getElem?_eq_getElem hn⟩
      have h0 := (hlp 0 d0 hd0).1.1
      obtain ⟨b, o, sp⟩ := ad
      have hs : sp = none := by simpa [Addr.add] using World.cell?_spot h0
      subst hs
      refine ⟨b, o, rfl, World.block_lt_of_cell? w ⟨b, o, none⟩ (by simpa [Addr.add] using h0), fun j u hj => ?_⟩
      have hjl := (List.getElem?_eq_some_iff.1 hj).1
      rw [flatG_length] at hjl
      obtain ⟨d, hd⟩ : ∃ d, l[j / 3]? = some d := ⟨_, List.getElem?_eq_getElem (by omega)⟩
      obtain ⟨f0, f1, f2⟩ := flatG_at l _ d hd
      obtain ⟨⟨q0, q1, q2⟩, _⟩ := hlp _ d hd
      rw [add_plain] at q0 q1 q2
      rcases (by omega : j = j / 3 * 3 ∨ j = j / 3 * 3 + 1 ∨ j = j / 3 * 3 + 2) with e | e | e
      · rw [e] at hj ⊢
        rw [f0] at hj
        rw [← hj]
        exact q0
      · rw [e] at hj ⊢
        rw [f1] at hj
        rw [← hj]
        exact q1
      · rw [e] at hj ⊢
        rw [f2] at hj
        rw [← hj]
        exact q2
    · obtain ⟨i, hi'⟩ := List.mem_iff_getElem?.1 hd
      exact (hlp i d hi').2
    · have := (slice_weights Tryz.underlying71 hR).1
      rw [show (Tryz.prog).bytesOf 75 = 32 by kernel_rfl] at this
      simp at this
      omega
set_option maxRecDepth 100000 in
theorem events_of {H : Type} {enc : TypeId × Value → H} {w : World} {fuel : Nat} {a : Option Addr} {len cap : Nat} {x : DataW H × List MemPlace}
    (h : DataW.trod enc Tryz.prog w 0 (fun _ => true) true fuel 33 [.slice a len cap] = some x) :
    ∃ l : List Em, l.length = len ∧ EvRow w w.heap.size (.slice a len cap) l ∧ ∀ R, (∀ n ∈ x.1.weights Tryz.prog 33, n ≤ R) → len * 32 ≤ R ∧ ∀ d ∈ l, d.args.length * 32 ≤ R := by
  rcases Go.Deep.open_slice_pairs Tryz.underlying33 Tryz.underlying73 (by kernel_rfl) rfl rfl (by kernel_rfl) (by kernel_rfl) h with ⟨hcs, _⟩ | ⟨ad, len', cap', m, n, V0, V1, D0, D1, P0, P1, hcs, hb, hl, hm, hmm, rfl, hi⟩
  · simp at hcs
    obtain ⟨rfl, rfl, rfl⟩ := hcs
    exact ⟨[], rfl, ⟨ERow.nil _ _, by simp⟩, by simp⟩
  · simp at hcs
    obtain ⟨rfl, rfl, rfl⟩ := hcs
    have hlm : len ≤ m := by rw [hmm]; split <;> omega
    have each : ∀ i, i < len → ∃ d : Em, (w.cell? (ad.add (i * 2)) = some (.int .i64 d.p) ∧ w.cell? (ad.add (i * 2 + 1)) = some (.slice d.A d.args.length d.c)) ∧ d.Ok w w.heap.size ∧ ∀ R, (∀ n ∈ (D1 i).weights Tryz.prog 71, n ≤ R) → d.args.length * 32 ≤ R := by
      intro i hlt
      obtain ⟨g0, g1, t0, t1⟩ := hi i (by omega)
      obtain ⟨y0, e0, _, w0⟩ := DataW.trod_int (k := .i64) Tryz.underlying3 t0
      injection e0 with e0
      obtain ⟨A, ln, cp, ev⟩ : ∃ a0 len0 cap0, V1 i = .slice a0 len0 cap0 := by
        rcases Go.Deep.open_slice Tryz.underlying71 t1 with ⟨hcs, _⟩ | ⟨x, l, c, _, _, _, _, hcs, _⟩
        · simp at hcs
          exact ⟨none, 0, 0, hcs⟩
        · simp at hcs
          exact ⟨some x, l, c, hcs⟩
      rw [ev] at t1 g1
      rw [e0] at g0
      obtain ⟨zs, rfl, hz, hR⟩ := args_of t1
      exact ⟨⟨y0, zs, A, cp⟩, ⟨g0, g1⟩, ⟨hz, bounds_i64 w0⟩, hR⟩
    obtain ⟨l, hll, hlp⟩ := list_of each
    subst hll
    refine ⟨l, rfl, ⟨⟨some ad, cap, rfl, hl, hm, by simp, fun hn => ?_⟩, fun d hd => ?_⟩, fun R hR => ?_⟩
    · obtain ⟨d0, hd0⟩ : ∃ d, l[0]? = some d := ⟨_, List.getElem?_eq_getElem hn⟩
      have h0 := (hlp 0 d0 hd0).1.1
      obtain ⟨b, o, sp⟩ := ad
      have hs : sp = none := by simpa [Addr.add] using World.cell?_spot h0
      subst hs
      refine ⟨b, o, rfl, World.block_lt_of_cell? w ⟨b, o, none⟩ (by simpa [Addr.add] using h0), fun j u hj => ?_⟩
      have hjl := (List.getElem?_eq_some_iff.1 hj).1
      rw [flatE_length] at hjl
      obtain ⟨d, hd⟩ : ∃ d, l[j / 2]? = some d := ⟨_, List.getElem?_eq_getElem (by omega)⟩
      obtain ⟨f0, f1⟩ := flatE_at l _ d hd
      obtain ⟨⟨q0, q1⟩, _⟩ := hlp _ d hd
      rw [add_plain] at q0 q1
      rcases (by omega : j = j / 2 * 2 ∨ j = j / 2 * 2 + 1) with e | e
      · rw [e] at hj ⊢
        rw [f0] at hj
        rw [← hj]
        exact q0
      · rw [e] at hj ⊢
        rw [f1] at hj
        rw [← hj]
        exact q1
    · obtain ⟨i, hi'⟩ := List.mem_iff_getElem?.1 hd
      exact (hlp i d hi').2.1
    · obtain ⟨hw, hel⟩ := slice_weights Tryz.underlying33 hR
      rw [show (Tryz.prog).bytesOf 73 = 32 by kernel_rfl] at hw
      simp at hw
      refine ⟨by omega, fun d hd => ?_⟩
      obtain ⟨i, hi'⟩ := List.mem_iff_getElem?.1 hd
      have hil := (List.getElem?_eq_some_iff.1 hi').1
      refine (hlp i d hi').2.2 R fun n hn => hel (.agg [D0 i, D1 i]) (List.mem_map.2 ⟨i, List.mem_range.2 hil, rfl⟩) n ?_
      simp only [DataW.weights, Tryz.underlying73, DataW.weightsEach, List.mem_append, List.map]
      exact .inr (.inl hn)
set_option maxRecDepth 100000 in
theorem points_of {H : Type} {enc : TypeId × Value → H} {w : World} {fuel : Nat} {a : Option Addr} {len cap : Nat} {x : DataW H × List MemPlace}
    (h : DataW.trod enc Tryz.prog w 0 (fun _ => true) true fuel 23 [.slice a len cap] = some x) :
    ∃ l : List Pm, l.length = len ∧ TrRow w w.heap.size (.slice a len cap) l ∧ ∀ R, (∀ n ∈ x.1.weights Tryz.prog 23, n ≤ R) → len * 32 ≤ R ∧ ∀ d ∈ l, d.evs.length * 32 ≤ R ∧ ∀ x ∈ d.evs, x.args.length * 32 ≤ R := by
  rcases Go.Deep.open_slice_pairs Tryz.underlying23 Tryz.underlying35 (by kernel_rfl) rfl rfl (by kernel_rfl) (by kernel_rfl) h with ⟨hcs, _⟩ | ⟨ad, len', cap', m, n, V0, V1, D0, D1, P0, P1, hcs, hb, hl, hm, hmm, rfl, hi⟩
  · simp at hcs
    obtain ⟨rfl, rfl, rfl⟩ := hcs
    exact ⟨[], rfl, ⟨ERow.nil _ _, by simp⟩, by simp⟩
  · simp at hcs
    obtain ⟨rfl, rfl, rfl⟩ := hcs
    have hlm : len ≤ m := by rw [hmm]; split <;> omega
    have each : ∀ i, i < len → ∃ d : Pm, (w.cell? (ad.add (i * 2)) = some (.int .u64 d.tm) ∧ w.cell? (ad.add (i * 2 + 1)) = some (.slice d.A d.evs.length d.c)) ∧ d.Ok w w.heap.size ∧ ∀ R, (∀ n ∈ (D1 i).weights Tryz.prog 33, n ≤ R) → d.evs.length * 32 ≤ R ∧ ∀ x ∈ d.evs, x.args.length * 32 ≤ R := by
      intro i hlt
      obtain ⟨g0, g1, t0, t1⟩ := hi i (by omega)
      obtain ⟨y0, e0, _, w0⟩ := DataW.trod_int (k := .u64) Tryz.underlying32 t0
      injection e0 with e0
      obtain ⟨A, ln, cp, ev⟩ : ∃ a0 len0 cap0, V1 i = .slice a0 len0 cap0 := by
        rcases Go.Deep.open_slice Tryz.underlying33 t1 with ⟨hcs, _⟩ | ⟨x, l, c, _, _, _, _, hcs, _⟩
        · simp at hcs
          exact ⟨none, 0, 0, hcs⟩
        · simp at hcs
          exact ⟨some x, l, c, hcs⟩
      rw [ev] at t1 g1
      rw [e0] at g0
      obtain ⟨zs, rfl, hz, hR⟩ := events_of t1
      exact ⟨⟨y0, zs, A, cp⟩, ⟨g0, g1⟩, ⟨hz, by have := bounds_u64 w0; unfold Pm.Fits; dsimp only; omega⟩, hR⟩
    obtain ⟨l, hll, hlp⟩ := list_of each
    subst hll
    refine ⟨l, rfl, ⟨⟨some ad, cap, rfl, hl, hm, by simp, fun hn => ?_⟩, fun d hd => ?_⟩, fun R hR => ?_⟩
    · obtain ⟨d0, hd0⟩ : ∃ d, l[0]? = some d := ⟨_, List.getElem?_eq_getElem hn⟩
      have h0 := (hlp 0 d0 hd0).1.1
      obtain ⟨b, o, sp⟩ := ad
      have hs : sp = none := by simpa [Addr.add] using World.cell?_spot h0
      subst hs
      refine ⟨b, o, rfl, World.block_lt_of_cell? w ⟨b, o, none⟩ (by simpa [Addr.add] using h0), fun j u hj => ?_⟩
      have hjl := (List.getElem?_eq_some_iff.1 hj).1
      rw [flatN_length] at hjl
      obtain ⟨d, hd⟩ : ∃ d, l[j / 2]? = some d := ⟨_, List.getElem?_eq_getElem (by omega)⟩
      obtain ⟨f0, f1⟩ := flatN_at l _ d hd
      obtain ⟨⟨q0, q1⟩, _⟩ := hlp _ d hd
      rw [add_plain] at q0 q1
      rcases (by omega : j = j / 2 * 2 ∨ j = j / 2 * 2 + 1) with e | e
      · rw [e] at hj ⊢
        rw [f0] at hj
        rw [← hj]
        exact q0
      · rw [e] at hj ⊢
        rw [f1] at hj
        rw [← hj]
        exact q1
    · obtain ⟨i, hi'⟩ := List.mem_iff_getElem?.1 hd
      exact (hlp i d hi').2.1
    · obtain ⟨hw, hel⟩ := slice_weights Tryz.underlying23 hR
      rw [show (Tryz.prog).bytesOf 35 = 32 by kernel_rfl] at hw
      simp at hw
      refine ⟨by omega, fun d hd => ?_⟩
      obtain ⟨i, hi'⟩ := List.mem_iff_getElem?.1 hd
      have hil := (List.getElem?_eq_some_iff.1 hi').1
      refine (hlp i d hi').2.2 R fun n hn => hel (.agg [D0 i, D1 i]) (List.mem_map.2 ⟨i, List.mem_range.2 hil, rfl⟩) n ?_
      simp only [DataW.weights, Tryz.underlying35, DataW.weightsEach, List.mem_append, List.map]
      exact .inr (.inl hn)
/-- No slice of the trace's takes more than the form's own reach. -/
def TrFit (l : List Pm) : Prop := l.length ≤ 4398046510976 ∧ ∀ d ∈ l, d.evs.length ≤ 4398046510976 ∧ ∀ x ∈ d.evs, x.args.length ≤ 4398046510976
theorem points_fit {H : Type} {enc : TypeId × Value → H} {w : World} {fuel : Nat} {a : Option Addr} {len cap : Nat} {x : DataW H × List MemPlace}
    (h : DataW.trod enc Tryz.prog w 0 (fun _ => true) true fuel 23 [.slice a len cap] = some x) (hs : ∀ n ∈ x.1.weights Tryz.prog 23, n ≤ reachBytes) :
    ∃ l : List Pm, l.length = len ∧ TrRow w w.heap.size (.slice a len cap) l ∧ TrFit l := by
  obtain ⟨l, h1, h2, h3⟩ := points_of h
  obtain ⟨h4, h5⟩ := h3 _ hs
  unfold reachBytes at h4 h5
  refine ⟨l, h1, h2, by omega, fun d hd => ?_⟩
  obtain ⟨h6, h7⟩ := h5 d hd
  exact ⟨by omega, fun y hy => by have := h7 y hy; omega⟩
end Go.Proofs.YtohibmjjhifggaaGreat

namespace Go.Proofs.YtohibmjjhifggaaGreat
open Go.RowKit Go.Shelf
attribute [local go_sem] Oper.semAt_some
/-- Between two rounds: where the events lie that were laid. -/
def ClJ (N : Nat) (w : World) (A : Option Addr) (c : Nat) (es pre : List Em) (W : World) : Prop :=
  OwnE W (N + 4) (.slice A es.length c) es ∧ es.map (·.e) = pre.map (·.e) ∧ Boxed W (N + 1) 33 (.slice A es.length c) ∧ KeepsE N (N + 2) w W
def ClI (N : Nat) (w : World) (pre : List Em) (W : World) : Prop := ∃ (A : Option Addr) (c : Nat) (es : List Em), ClJ N w A c es pre W
theorem clJ_calm {N m c : Nat} {w X Y : World} {A : Option Addr} {es pre : List Em} (h : N + 2 < w.heap.size) (hm : w.heap.size ≤ m) (hj : ClJ N w A c es pre X) (hc : Calm m X Y) : ClJ N w A c es pre Y := by
  obtain ⟨h1, h2, h3, h4⟩ := hj
  exact ⟨h1.calm hc, h2, hc.boxed h3, abides_below (β := Unit) (by omega) (by omega) () X Y h4.1 hc, (hc.low (N + 2) (by omega) (by have := h4.1.size; omega)).trans h4.2⟩
theorem clI_abides {N m : Nat} {w : World} (h : N + 2 < w.heap.size) (hm : w.heap.size ≤ m) : Abides m (ClI N w) := by
  rintro pre X Y ⟨A, c, es, hj⟩ hc
  exact ⟨A, c, es, clJ_calm h hm hj hc⟩
theorem held_two {W : World} {q : Nat} {t : TypeId} {u v : Value} (h : Held W q t #[u, v]) : W.cell? ⟨q, 0, none⟩ = some u ∧ W.cell? ⟨q, 1, none⟩ = some v := ⟨by have := h.cell 0; simpa using this, by have := h.cell 1; simpa using this⟩
/-- What a round leaves. -/
theorem clone_round {N c c2 c4 : Nat} {A A2 A4 : Option Addr} {w2 W1 V2 V4 : World} {pre es : List Em} {x : Em} {O : Obj} (s2 : w2.heap.size = N + 4) (hes : OwnE W1 (N + 4) (.slice A es.length c) es) (hpm : es.map (·.e) = pre.map (·.e))
    (hbx : Boxed W1 (N + 1) 33 (.slice A es.length c)) (hke : KeepsE N (N + 2) w2 W1) (hf : (∀ a ∈ x.args, a.Fits) ∧ x.Fits) (b2 : Below W1.heap.size W1 V2)
    (hO2 : V2.ownsRow (N + 4) 75 3 (.slice A2 x.args.length c2) x.args.length (flatG x.args)) (hO4 : V4.ownsRow (N + 4) 73 2 (.slice A4 (es.length + 1) c4) (es.length + 1) (flatE es ++ flatE [⟨x.p, x.args, A2, c2⟩]))
    (hg4 : (V2.alloc O).grownBy V4 (Value.slice A es.length c).ownBlock) :
    KeepsFrom w2.heap.size W1 (V4.setCell ⟨N + 1, 0, none⟩ (.slice A4 (es.length + 1) c4)) ∧ KeepsE N (N + 2) W1 (V4.setCell ⟨N + 1, 0, none⟩ (.slice A4 (es.length + 1) c4)) ∧ ClI N w2 (pre ++ [x]) (V4.setCell ⟨N + 1, 0, none⟩ (.slice A4 (es.length + 1) c4)) := by
  have z1 := hke.1.size
  have b3 : Below W1.heap.size W1 (V2.alloc O) := b2.alloc b2.size _
  have z3 := b3.size
  have h3 := hes.below b3
  have hO3 : OwnG (V2.alloc O) (N + 4) ⟨x.p, x.args, A2, c2⟩ := ⟨World.ownsRow.alloc hO2 _, hf⟩
  have ne1 : 75 ≠ 73 := by decide
  have hbl : ∀ k, k < N + 4 → V4.heap[k]? = W1.heap[k]? := fun k hk => (hg4.block k (by omega) (fun e => by have := (World.ownsRow.lt h3.1 k e.symm).1; omega)).trans (b3.block k (by omega))
  have hB4 : Boxed V4 (N + 1) 33 (.slice A es.length c) := (hbl _ (by omega)).trans hbx
  have ke : KeepsE N (N + 2) W1 (V4.setCell ⟨N + 1, 0, none⟩ (.slice A4 (es.length + 1) c4)) :=
    ((keepsE_below b3 (by omega) (by omega)).trans (keepsE_grown h3.1 hg4 (by omega) (by omega) (by omega) (by omega))).trans ⟨(Below.refl _ _).setCell (p := ⟨N + 1, 0, none⟩) (by simp) _, Below.heap_setCell _ _ _ _ (by simp)⟩
  refine ⟨((keeps_below b3).trans ((keeps_grown h3.1 hg4).trans (KeepsOthers.setCell _ _ _))).from _, ke, A4, c4, es ++ [⟨x.p, x.args, A2, c2⟩], ⟨?_, fun d hd => ?_⟩, by simp [hpm], ?_, hke.trans ke⟩
  · rw [flatE_append, List.length_append]
    exact own_put1 hO4 (by omega)
  · refine OwnG.put ?_ (by omega)
    rcases List.mem_append.1 hd with h | h
    · exact (h3.2 d h).grown h3.1 ne1 hg4
    · rw [List.mem_singleton.1 h]
      exact hO3.grown h3.1 ne1 hg4
  · rw [List.length_append]
    exact hB4.set _
set_option maxRecDepth 100000 in
set_option maxHeartbeats 4000000 in
theorem cloneEvents_any (p : Pm) (w : World) (hp : p.Ok w w.heap.size) (hfit : p.evs.length ≤ 4398046510976 ∧ ∀ x ∈ p.evs, x.args.length ≤ 4398046510976) :
    Calls Tryz.prog 45 #[p.val] w fun e w' => ∃ A c es, e = .returned (.slice A es.length c) ∧ OwnE w' w.heap.size (.slice A es.length c) es ∧ es.map (·.e) = p.evs.map (·.e) ∧ Below w.heap.size w w' := by
  obtain ⟨-, hl1, hl2⟩ := hp.1.1.len
  obtain ⟨hf1, hf2⟩ := hfit
  obtain ⟨ig, hig, hg0, hg1, hg2⟩ := info_parts Tryz.infoArg
  obtain ⟨iv, hiv, hv0, hv1, hv2⟩ := info_parts Tryz.infoEvent
  obtain ⟨N, hN⟩ : ∃ N, w.heap.size = N := ⟨_, rfl⟩
  obtain ⟨w1, hw1⟩ : ∃ w1, (w.alloc (.cells #[.int .u64 p.tm, .slice p.A p.evs.length p.c] 35)).alloc (.cells #[.slice none 0 0] 33) = w1 := ⟨_, rfl⟩
  have q1 : (w.alloc (.cells #[.int .u64 p.tm, .slice p.A p.evs.length p.c] 35)).heap.size = N + 1 := by rw [World.size_alloc, hN]
  have s1 : w1.heap.size = N + 2 := by rw [← hw1, World.size_alloc, q1]
  have hbw : Below N w w1 := by rw [← hw1]; exact ((Below.refl _ _).alloc (by omega) _).alloc (by omega) _
  have hB1 : Boxed w1 (N + 1) 33 (.slice none 0 0) := by rw [← hw1, ← q1]; exact Boxed.new _ _ _
  have hH0 : Held w1 N 35 #[.int .u64 p.tm, .slice p.A p.evs.length p.c] := by rw [← hw1, ← hN]; exact (Below.heap_alloc _ _ _ (by rw [World.size_alloc]; omega)).trans (heap_alloc_new _ _)
  have y0 := hH0.cell 0
  have y1 := hH0.cell 1
  simp at y0 y1
  rw [hN] at hp ⊢
  have HOK := Lib.hid hp
  have HF2 := Lib.hid hf2
  have hb4 : Below N w (w1.alloc (.cells #[.int .u64 p.tm, .slice p.A p.evs.length p.c] 35)) := hbw.alloc (by omega) _
  clear hp hf2
  refine (callsIn_wide (n := 9)).1 ?_
  refine callsIn_of_wp_marks Tryz.func45 rfl trivial ?_ rfl
  simp only [Tryz.ntmps45, List.size_toArray, List.length_cons, List.length_nil, Nat.reduceAdd, Nat.reduceSub, Array.replicate_succ, Array.replicate_zero, List.push_toArray, List.append_toArray, List.nil_append, List.cons_append]
  gi_wp2_with (refine ⟨trivial, ?_⟩; gi_at_call 61; refine (callsIn_wide.2 (eventsOf_any _ _ _ _)).mono ?_; rintro e w' ⟨rfl, rfl⟩)
  obtain ⟨w2, hw2⟩ : ∃ w2, (w1.alloc (.cells #[.int .u64 p.tm, .slice p.A p.evs.length p.c] 35)).alloc (.cells #[.slice (some ⟨N + 2, 0, none⟩) 1 1] 23) = w2 := ⟨_, rfl⟩
  have q4 : (w1.alloc (.cells #[.int .u64 p.tm, .slice p.A p.evs.length p.c] 35)).heap.size = N + 3 := by rw [World.size_alloc, s1]
  have s2 : w2.heap.size = N + 4 := by rw [← hw2, World.size_alloc, q4]
  have hbw2 : Below N w w2 := by rw [← hw2]; exact hb4.alloc (by omega) _
  have hC1 : Boxed w2 (N + 1) 33 (.slice none 0 0) := by rw [← hw2]; exact (hB1.alloc _).alloc _
  have hC3 : Boxed w2 (N + 3) 23 (.slice (some ⟨N + 2, 0, none⟩) 1 1) := by rw [← hw2, ← q4]; exact Boxed.new _ _ _
  have hH2 : Held w2 (N + 2) 35 #[.int .u64 p.tm, .slice p.A p.evs.length p.c] := by rw [← hw2, ← s1]; exact (Below.heap_alloc _ _ _ (by rw [World.size_alloc]; omega)).trans (heap_alloc_new _ _)
  have x0 := hH2.cell 0
  have x1 := hH2.cell 1
  simp at x0 x1
  have hat : PtsAt w2 (N + 2) (some ⟨N + 2, 0, none⟩) [p] := by
    intro _
    refine ⟨0, rfl, fun i u hi => ?_⟩
    match i with
    | 0 => simp [flatN] at hi; rw [← hi]; exact x0
    | 1 => simp [flatN] at hi; rw [← hi]; exact x1
    | (k + 2) => simp [flatN] at hi
  have hevs : evsOf [p] = p.evs := by simp [evsOf]
  rw [hw2]
  clear hw1 hw2 q1 q4 s1 hB1 hH0 y0 y1 hH2 x0 x1 hbw hb4
  have HBW2 := Lib.hid hbw2
  have HEVS := Lib.hid hevs
  refine range_gives rfl (by omega) (gf := 79) (lb := #[.pointer (some ⟨N + 2 + 1, 0, none⟩)]) rfl trivial (enters_of Tryz.func79 (by kernel_rfl) rfl)
    (events_gives (9 - 1) (by omega) (N + 3) N (N + 2) (some ⟨N + 2, 0, none⟩) 1 [p] (by simp) w2 hC3 (by omega) (by omega) hat (fun d hd => by rw [List.mem_singleton.1 hd]; exact HOK.out.below hbw2)) (fun _ => rfl) (fun h k => h.trans k) (fun m W1 l1 o o' hl _ h hc => KeepsE.turn (w := w2) (by omega) (by omega) W1 l1 o o' hl h hc)
    (ClI N w2) (fun _ _ => False) (clI_abides (by omega) (by omega)) (fun _ _ _ h _ => h) ⟨none, 0, [], OwnE.nil _ _, rfl, hC1, KeepsE.refl _ _ _⟩
    (fun pre x a' W => (∃ q A c es, a' = { tmps := #[p.val, .pointer (some ⟨N, 0, none⟩), .slice none 0 0, .pointer (some ⟨N + 1, 0, none⟩), .pointer (some ⟨q, 0, none⟩), .agg #[.int .u64 p.tm, .slice p.A p.evs.length p.c], .slice (some ⟨N + 2, 0, none⟩) 1 1, .func (.func 79) #[] #[.pointer (some ⟨N + 2 + 1, 0, none⟩)], x.val, undef, undef, undef, undef, undef, undef, undef, undef, undef, undef], defers := [] } ∧ Held W q 73 #[.int .i64 x.p, .slice x.A x.args.length x.c] ∧ N + 4 ≤ q ∧ some q ≠ (Value.slice A (List.length es) c).ownBlock ∧ ClJ N w2 A c es pre W) ∧ x ∈ evsOf [p] ∧ pre ++ [x] <+: evsOf [p])
    (fun pre x a' => ?own) ?take ?body ?done ?stop
  case own =>
    rintro _ X Y ⟨⟨q, A, c, es, e, h1, h2, h3, h4⟩, h5⟩ hc
    exact ⟨⟨q, A, c, es, e, hc.held h1, h2, h3, clJ_calm (by omega) (by omega) h4 hc⟩, h5⟩
  case take =>
    rintro l2 m pre x W1 K hm hm1 hI hR hK
    obtain ⟨A, c, es, hj⟩ := hI
    have hzw : w2.heap.size ≤ W1.heap.size := hj.2.2.2.1.size
    have hcl := Calm.alloc w2.heap.size W1 (.cells #[.int .i64 x.p, .slice x.A x.args.length x.c] 73)
    have HK := Lib.hid (hK _ _ ((KeepsOthers.alloc W1 _).from _) (KeepsE.alloc (by omega) (by omega) _) ⟨⟨W1.heap.size, A, c, es, rfl, heap_alloc_new W1 _, by omega, fun e => by have := (World.ownsRow.lt hj.1.1 _ e.symm).2; omega, clJ_calm (by omega) (by omega) hj hcl⟩, hR⟩)
    clear hK hj hR hcl hC1 hC3 hat hbw2
    gi_wp2
    exact HK.out
  case body =>
    rintro l2 m pre x a' W1 hm hm1 ⟨⟨q, A, c, es, rfl, hq, hbq, hne, hes, hpm, hbx, hke⟩, hx, hpf⟩
    rw [hevs] at hx hpf
    have hb1 := HBW2.out.trans hke.1
    have hz1 := hb1.size
    have hzk := hke.1.size
    have hok := ((HOK.out.1.2 x hx).below hb1).more (by omega : N ≤ W1.heap.size)
    have hxl := HF2.out x hx
    have hlen : es.length + 1 ≤ 4398046510976 := by
      have h1 := congrArg List.length hpm
      have h2 := hpf.length_le
      simp at h1 h2
      omega
    clear hC1 hC3 hat hbw2
    have HS := Lib.hid (fun W (h : Below W1.heap.size W1 W) => held_two (hq.below h hq.lt))
    have HS2 := Lib.hid (fun W (h : Held W q 73 #[.int .i64 x.p, .slice x.A x.args.length x.c]) => held_two h)
    have HNE := Lib.hid hne
    have HNQ := Lib.hid (show q ≠ N + 1 by omega)
    have hS0 := HS.out _ (Below.refl W1.heap.size W1).drew
    gi_wp2
    refine wpIn_region_round (S := fun W => W.cell? ⟨q, 0, none⟩ = some (.int .i64 x.p) ∧ W.cell? ⟨q, 1, none⟩ = some (.slice x.A x.args.length x.c)) (by kernel_rfl) (by kernel_rfl) (by rintro ⟨a, w, h⟩; exact h) hS0 (fun _ => ?_)
    refine wpAnyH_take (i := 1) (v := .pointer (some ⟨q, 0, none⟩)) rfl (by kernel_rfl) (by kernel_rfl) (by kernel_rfl) (fun _ _ _ h => h) (Or.inl ⟨by rfl, fun W hW => by obtain ⟨u0, u1⟩ := hW; go_simp⟩) hS0 ?_
    try simp only [List.getElem_toArray, List.getElem_cons_zero, List.getElem_cons_succ, Act.put, List.setIfInBounds_toArray, List.set_cons_zero, List.set_cons_succ]
    refine wpAnyH_take (i := 2) (v := .int .i64 x.p) rfl (by kernel_rfl) (by kernel_rfl) (by kernel_rfl) (fun _ _ _ h => h) (Or.inl ⟨by rfl, fun W hW => by obtain ⟨u0, u1⟩ := hW; go_simp⟩) hS0 ?_
    try simp only [List.getElem_toArray, List.getElem_cons_zero, List.getElem_cons_succ, Act.put, List.setIfInBounds_toArray, List.set_cons_zero, List.set_cons_succ]
    refine wpAnyH_take (i := 3) (v := .pointer (some ⟨q, 1, none⟩)) rfl (by kernel_rfl) (by kernel_rfl) (by kernel_rfl) (fun _ _ _ h => h) (Or.inl ⟨by rfl, fun W hW => by obtain ⟨u0, u1⟩ := hW; go_simp⟩) hS0 ?_
    try simp only [List.getElem_toArray, List.getElem_cons_zero, List.getElem_cons_succ, Act.put, List.setIfInBounds_toArray, List.set_cons_zero, List.set_cons_succ]
    refine wpAnyH_take (i := 4) (v := .slice x.A x.args.length x.c) rfl (by kernel_rfl) (by kernel_rfl) (by kernel_rfl) (fun _ _ _ h => h) (Or.inl ⟨by rfl, fun W hW => by obtain ⟨u0, u1⟩ := hW; go_simp⟩) hS0 ?_
    try simp only [List.getElem_toArray, List.getElem_cons_zero, List.getElem_cons_succ, Act.put, List.setIfInBounds_toArray, List.set_cons_zero, List.set_cons_succ]
    refine wpAnyH_ready (rs := [0, 5]) (by kernel_rfl) (by simp) ?_
    refine AllReadyH.cons rfl (fun K hK => ?_) (AllReadyH.cons rfl (fun K hK => ?_) AllReadyH.nil)
    · skip
      have c1' := hbx.cell
      go_simp
      clear c1'
      refine hK.out _ _ hS0 (fun _ => ?_)
      clear hK K
      try simp only [List.getElem_toArray, List.getElem_cons_zero, List.getElem_cons_succ, Act.put, List.setIfInBounds_toArray, List.set_cons_zero, List.set_cons_succ]
      refine wpAnyH_ready (rs := [5]) (by kernel_rfl) (by simp) ?_
      refine AllReadyH.cons rfl (fun K hK => ?_) AllReadyH.nil
      refine step_append_erow (by rfl) (.const (.slice none 0 0)) (.tmp 13) 71 75 (by rfl) (N + 4) ig _ 3 32 Tryz.underlying71 hig hg0 hg1 hg2 rfl (by omega) (.slice none 0 0) 0 [] (by rfl) (World.ownsRow_nil _ _ _ _) W1.heap.size (.slice x.A x.args.length x.c) x.args.length (flatG x.args) (by rfl) (hok.1.1.below (Below.refl _ _).drew) (flatG_length _) (oneG _) (by unfold maxLen; omega) (by omega) (by simp; omega) x.args.length (Nat.zero_add _) (flatG x.args) rfl ?_
      intro A2 c2 V2 hO2 hg2'
      have b2 : Below W1.heap.size W1 V2 := (Below.refl W1.heap.size W1).drew.grown hg2' (by simp) (by intro k e; cases e)
      refine hK.out _ _ (HS.out _ b2) (fun _ => ?_)
      clear hK K
      try simp only [List.getElem_toArray, List.getElem_cons_zero, List.getElem_cons_succ, Act.put, List.setIfInBounds_toArray, List.set_cons_zero, List.set_cons_succ]
      refine wpAnyH_take (i := 6) (v := .agg #[.int .i64 x.p, .slice A2 x.args.length c2]) rfl (by kernel_rfl) (by kernel_rfl) (by kernel_rfl) (fun _ _ _ h => h) (Or.inl ⟨by rfl, fun W hW => by obtain ⟨u0, u1⟩ := hW; go_simp⟩) (HS.out _ b2) ?_
      try simp only [List.getElem_toArray, List.getElem_cons_zero, List.getElem_cons_succ, Act.put, List.setIfInBounds_toArray, List.set_cons_zero, List.set_cons_succ]
      refine wpAnyH_ready (rs := [7]) (by kernel_rfl) (by simp) ?_
      refine AllReadyH.cons rfl (fun K hK => ?_) AllReadyH.nil
      go_simp
      refine hK.out _ _ (HS.out _ (b2.alloc b2.size _)) (fun _ => ?_)
      clear hK K
      try simp only [List.getElem_toArray, List.getElem_cons_zero, List.getElem_cons_succ, Act.put, List.setIfInBounds_toArray, List.set_cons_zero, List.set_cons_succ]
      refine wpAnyH_ready (rs := [8]) (by kernel_rfl) (by simp) ?_
      refine AllReadyH.cons rfl (fun K hK => ?_) AllReadyH.nil
      refine step_append_erow (by rfl) (.tmp 9) (.tmp 16) 33 73 (by rfl) (N + 4) iv _ 2 32 Tryz.underlying33 hiv hv0 hv1 hv2 rfl (by omega) (.slice A es.length c) es.length (flatE es) (by rfl) (hes.below (b2.alloc b2.size _)).1 (V2.heap.size + 1) (.slice (some ⟨V2.heap.size, 0, none⟩) 1 1) 1 (flatE [⟨x.p, x.args, A2, c2⟩]) (by rfl) (ERow.held (t := 73) (heap_alloc_new V2 _) (by omega) (by unfold maxLen; omega)) (flatE_length _) (oneE _) (by unfold maxLen; omega) (by omega) (by have := b2.size; simp; omega) (es.length + 1) rfl (flatE es ++ flatE [⟨x.p, x.args, A2, c2⟩]) rfl ?_
      intro A4 c4 V4 hO4 hg4
      have hb4 : Boxed V4 (N + 1) 33 (.slice A es.length c) := (hg4.block (N + 1) (by have := b2.size; simp; omega) (fun e => by have := (World.ownsRow.lt hes.1 (N + 1) e.symm).1; omega)).trans (((b2.alloc b2.size _).block _ (by omega)).trans hbx)
      have hq4 : Held V4 q 73 #[.int .i64 x.p, .slice x.A x.args.length x.c] := (hg4.block q (by have := b2.size; have := hq.lt; simp; omega) (HNE.out)).trans (((b2.alloc b2.size _).block _ hq.lt).trans hq)
      refine hK.out _ _ (HS2.out _ hq4) (fun _ => ?_)
      clear hK K
      try simp only [List.getElem_toArray, List.getElem_cons_zero, List.getElem_cons_succ, Act.put, List.setIfInBounds_toArray, List.set_cons_zero, List.set_cons_succ]
      refine wpAnyH_ready (rs := [9]) (by kernel_rfl) (by simp) ?_
      refine AllReadyH.cons rfl (fun K hK => ?_) AllReadyH.nil
      have c4' := hb4.cell
      have f4' := hb4.frozen
      go_simp
      clear c4' f4'
      refine hK.out _ _ (HS2.out _ (Held.other_put hq4 HNQ.out _)) (fun _ => ?_)
      clear hK K
      try simp only [List.getElem_toArray, List.getElem_cons_zero, List.getElem_cons_succ, Act.put, List.setIfInBounds_toArray, List.set_cons_zero, List.set_cons_succ]
      refine wpAnyH_done (by kernel_rfl) ?_ _
      exact clone_round s2 hes hpm hbx hke ⟨hok.1.2, hok.2⟩ b2 hO2 hO4 hg4
    · skip
      refine step_append_erow (by rfl) (.const (.slice none 0 0)) (.tmp 13) 71 75 (by rfl) (N + 4) ig _ 3 32 Tryz.underlying71 hig hg0 hg1 hg2 rfl (by omega) (.slice none 0 0) 0 [] (by rfl) (World.ownsRow_nil _ _ _ _) W1.heap.size (.slice x.A x.args.length x.c) x.args.length (flatG x.args) (by rfl) (hok.1.1.below (Below.refl _ _).drew) (flatG_length _) (oneG _) (by unfold maxLen; omega) (by omega) (by simp; omega) x.args.length (Nat.zero_add _) (flatG x.args) rfl ?_
      intro A2 c2 V2 hO2 hg2'
      have b2 : Below W1.heap.size W1 V2 := (Below.refl W1.heap.size W1).drew.grown hg2' (by simp) (by intro k e; cases e)
      refine hK.out _ _ (HS.out _ b2) (fun _ => ?_)
      clear hK K
      try simp only [List.getElem_toArray, List.getElem_cons_zero, List.getElem_cons_succ, Act.put, List.setIfInBounds_toArray, List.set_cons_zero, List.set_cons_succ]
      refine wpAnyH_take (i := 6) (v := .agg #[.int .i64 x.p, .slice A2 x.args.length c2]) rfl (by kernel_rfl) (by kernel_rfl) (by kernel_rfl) (fun _ _ _ h => h) (Or.inl ⟨by rfl, fun W hW => by obtain ⟨u0, u1⟩ := hW; go_simp⟩) (HS.out _ b2) ?_
      try simp only [List.getElem_toArray, List.getElem_cons_zero, List.getElem_cons_succ, Act.put, List.setIfInBounds_toArray, List.set_cons_zero, List.set_cons_succ]
      refine wpAnyH_ready (rs := [0, 7]) (by kernel_rfl) (by simp) ?_
      refine AllReadyH.cons rfl (fun K hK => ?_) (AllReadyH.cons rfl (fun K hK => ?_) AllReadyH.nil)
      · skip
        have c1' := Boxed.cell (show Boxed V2 (N + 1) 33 (.slice A es.length c) from (b2.block _ (by omega)).trans hbx)
        go_simp
        clear c1'
        refine hK.out _ _ (HS.out _ b2) (fun _ => ?_)
        clear hK K
        try simp only [List.getElem_toArray, List.getElem_cons_zero, List.getElem_cons_succ, Act.put, List.setIfInBounds_toArray, List.set_cons_zero, List.set_cons_succ]
        refine wpAnyH_ready (rs := [7]) (by kernel_rfl) (by simp) ?_
        refine AllReadyH.cons rfl (fun K hK => ?_) AllReadyH.nil
        go_simp
        refine hK.out _ _ (HS.out _ (b2.alloc b2.size _)) (fun _ => ?_)
        clear hK K
        try simp only [List.getElem_toArray, List.getElem_cons_zero, List.getElem_cons_succ, Act.put, List.setIfInBounds_toArray, List.set_cons_zero, List.set_cons_succ]
        refine wpAnyH_ready (rs := [8]) (by kernel_rfl) (by simp) ?_
        refine AllReadyH.cons rfl (fun K hK => ?_) AllReadyH.nil
        refine step_append_erow (by rfl) (.tmp 9) (.tmp 16) 33 73 (by rfl) (N + 4) iv _ 2 32 Tryz.underlying33 hiv hv0 hv1 hv2 rfl (by omega) (.slice A es.length c) es.length (flatE es) (by rfl) (hes.below (b2.alloc b2.size _)).1 (V2.heap.size + 1) (.slice (some ⟨V2.heap.size, 0, none⟩) 1 1) 1 (flatE [⟨x.p, x.args, A2, c2⟩]) (by rfl) (ERow.held (t := 73) (heap_alloc_new V2 _) (by omega) (by unfold maxLen; omega)) (flatE_length _) (oneE _) (by unfold maxLen; omega) (by omega) (by have := b2.size; simp; omega) (es.length + 1) rfl (flatE es ++ flatE [⟨x.p, x.args, A2, c2⟩]) rfl ?_
        intro A4 c4 V4 hO4 hg4
        have hb4 : Boxed V4 (N + 1) 33 (.slice A es.length c) := (hg4.block (N + 1) (by have := b2.size; simp; omega) (fun e => by have := (World.ownsRow.lt hes.1 (N + 1) e.symm).1; omega)).trans (((b2.alloc b2.size _).block _ (by omega)).trans hbx)
        have hq4 : Held V4 q 73 #[.int .i64 x.p, .slice x.A x.args.length x.c] := (hg4.block q (by have := b2.size; have := hq.lt; simp; omega) (HNE.out)).trans (((b2.alloc b2.size _).block _ hq.lt).trans hq)
        refine hK.out _ _ (HS2.out _ hq4) (fun _ => ?_)
        clear hK K
        try simp only [List.getElem_toArray, List.getElem_cons_zero, List.getElem_cons_succ, Act.put, List.setIfInBounds_toArray, List.set_cons_zero, List.set_cons_succ]
        refine wpAnyH_ready (rs := [9]) (by kernel_rfl) (by simp) ?_
        refine AllReadyH.cons rfl (fun K hK => ?_) AllReadyH.nil
        have c4' := hb4.cell
        have f4' := hb4.frozen
        go_simp
        clear c4' f4'
        refine hK.out _ _ (HS2.out _ (Held.other_put hq4 HNQ.out _)) (fun _ => ?_)
        clear hK K
        try simp only [List.getElem_toArray, List.getElem_cons_zero, List.getElem_cons_succ, Act.put, List.setIfInBounds_toArray, List.set_cons_zero, List.set_cons_succ]
        refine wpAnyH_done (by kernel_rfl) ?_ _
        exact clone_round s2 hes hpm hbx hke ⟨hok.1.2, hok.2⟩ b2 hO2 hO4 hg4
      · skip
        go_simp
        refine hK.out _ _ (HS.out _ (b2.alloc b2.size _)) (fun _ => ?_)
        clear hK K
        try simp only [List.getElem_toArray, List.getElem_cons_zero, List.getElem_cons_succ, Act.put, List.setIfInBounds_toArray, List.set_cons_zero, List.set_cons_succ]
        refine wpAnyH_ready (rs := [0]) (by kernel_rfl) (by simp) ?_
        refine AllReadyH.cons rfl (fun K hK => ?_) AllReadyH.nil
        have c1' := Boxed.cell (show Boxed (V2.alloc (.cells #[.int .i64 x.p, .slice A2 x.args.length c2] 73)) (N + 1) 33 (.slice A es.length c) from ((b2.alloc b2.size _).block _ (by omega)).trans hbx)
        go_simp
        clear c1'
        refine hK.out _ _ (HS.out _ (b2.alloc b2.size _)) (fun _ => ?_)
        clear hK K
        try simp only [List.getElem_toArray, List.getElem_cons_zero, List.getElem_cons_succ, Act.put, List.setIfInBounds_toArray, List.set_cons_zero, List.set_cons_succ]
        refine wpAnyH_ready (rs := [8]) (by kernel_rfl) (by simp) ?_
        refine AllReadyH.cons rfl (fun K hK => ?_) AllReadyH.nil
        refine step_append_erow (by rfl) (.tmp 9) (.tmp 16) 33 73 (by rfl) (N + 4) iv _ 2 32 Tryz.underlying33 hiv hv0 hv1 hv2 rfl (by omega) (.slice A es.length c) es.length (flatE es) (by rfl) (hes.below (b2.alloc b2.size _)).1 (V2.heap.size + 1) (.slice (some ⟨V2.heap.size, 0, none⟩) 1 1) 1 (flatE [⟨x.p, x.args, A2, c2⟩]) (by rfl) (ERow.held (t := 73) (heap_alloc_new V2 _) (by omega) (by unfold maxLen; omega)) (flatE_length _) (oneE _) (by unfold maxLen; omega) (by omega) (by have := b2.size; simp; omega) (es.length + 1) rfl (flatE es ++ flatE [⟨x.p, x.args, A2, c2⟩]) rfl ?_
        intro A4 c4 V4 hO4 hg4
        have hb4 : Boxed V4 (N + 1) 33 (.slice A es.length c) := (hg4.block (N + 1) (by have := b2.size; simp; omega) (fun e => by have := (World.ownsRow.lt hes.1 (N + 1) e.symm).1; omega)).trans (((b2.alloc b2.size _).block _ (by omega)).trans hbx)
        have hq4 : Held V4 q 73 #[.int .i64 x.p, .slice x.A x.args.length x.c] := (hg4.block q (by have := b2.size; have := hq.lt; simp; omega) (HNE.out)).trans (((b2.alloc b2.size _).block _ hq.lt).trans hq)
        refine hK.out _ _ (HS2.out _ hq4) (fun _ => ?_)
        clear hK K
        try simp only [List.getElem_toArray, List.getElem_cons_zero, List.getElem_cons_succ, Act.put, List.setIfInBounds_toArray, List.set_cons_zero, List.set_cons_succ]
        refine wpAnyH_ready (rs := [9]) (by kernel_rfl) (by simp) ?_
        refine AllReadyH.cons rfl (fun K hK => ?_) AllReadyH.nil
        have c4' := hb4.cell
        have f4' := hb4.frozen
        go_simp
        clear c4' f4'
        refine hK.out _ _ (HS2.out _ (Held.other_put hq4 HNQ.out _)) (fun _ => ?_)
        clear hK K
        try simp only [List.getElem_toArray, List.getElem_cons_zero, List.getElem_cons_succ, Act.put, List.setIfInBounds_toArray, List.set_cons_zero, List.set_cons_succ]
        refine wpAnyH_done (by kernel_rfl) ?_ _
        exact clone_round s2 hes hpm hbx hke ⟨hok.1.2, hok.2⟩ b2 hO2 hO4 hg4
  case done =>
    rintro D ys V hD rfl ⟨A, c, es, hes, hpm, hbx, hke⟩ hK
    have c1 := hbx.cell
    have hbl := HBW2.out.trans hke.1
    have hDV := (Array.getElem?_eq_some_iff.1 hK).1
    rw [HEVS.out] at hpm
    have hfin : OwnE (V.putObj D (.deferred none)) N (.slice A es.length c) es := (hes.base (by omega)).calm (Calm.putObj (m := 0) _ hK rfl (by omega))
    have hbf : Below N w (V.putObj D (.deferred none)) := hbl.trans ((Below.refl N V).grown (grownBy_putObj' V D (.deferred none)) (by omega) (fun k e => by cases e; omega))
    have HFN := Lib.hid (And.intro hfin (And.intro hpm hbf))
    clear hC1 hC3 hat hbw2 hfin hbf hpm hes hbl
    gi_wp2
    refine ⟨by simp, .inl ⟨_, _, rfl, run_takeDeferred hK, ?_⟩⟩
    exact ⟨.slice A es.length c, by simp [results, Tryz.results45, go_sem], A, c, es, rfl, HFN.out⟩
  case stop =>
    rintro D pre V1 _ _ h _
    exact h.elim
end Go.Proofs.YtohibmjjhifggaaGreat
namespace Go.Proofs.YtohibmjjhifggaaGreat
open Go.RowKit
set_option maxRecDepth 100000 in
set_option maxHeartbeats 2000000 in
theorem tclone_any (A : Option Addr) (c : Nat) (ps : List Pm) (w : World) (hrow : TrRow w w.heap.size (.slice A ps.length c) ps) (hfit : TrFit ps) :
    Calls Tryz.prog 26 #[.slice A ps.length c] w fun e w' => ∃ A' c' es, e = .returned (.slice A' es.length c') ∧ OwnT w' w.heap.size (.slice A' es.length c') es ∧ es.map (·.p) = ps.map (·.p) ∧ Below w.heap.size w w' := by
  obtain ⟨i1, hi1, hy0, hy1, hy2⟩ := info_parts Tryz.infoPoint
  obtain ⟨-, hc1, hc2⟩ := hrow.1.len
  obtain ⟨hl1, hl2⟩ := hfit
  have HROW := Lib.hid hrow
  have HFT := Lib.hid hl2
  clear hrow hl2
  obtain ⟨n, hn⟩ : ∃ n, w.heap.size = n := ⟨_, rfl⟩
  rw [hn] at HROW ⊢
  have HN := Lib.hid hn
  clear hn
  go_enter Tryz.func26, Tryz.ntmps26
  go_wp2_with fail
  go_loopg [8, 3] ps.length (fun gk i v wr => ∃ (k : Nat) (A1 : Option Addr) (cc : Nat) (es : List Pm), k ≤ ps.length ∧ i = .int .i64 k ∧ v = .slice A1 es.length cc ∧ Hid (ps.length - k = gk) ∧ Hid (OwnT wr n (.slice A1 es.length cc) es) ∧ Hid (es.map (·.p) = (ps.take k).map (·.p)) ∧ Hid (Below n w wr))
  case atStart => exact ⟨0, none, 0, [], Nat.zero_le _, rfl, rfl, Lib.hid rfl, Lib.hid (OwnT.nil _ _), Lib.hid rfl, Lib.hid (Below.refl _ _)⟩
  case round =>
    obtain ⟨k, A1, cc, es, hk, rfl, rfl, HGK, HOW, HES, HBR⟩ := hrel
    by_cases hlt : k < ps.length
    · obtain ⟨d, hd⟩ : ∃ d, ps[k]? = some d := ⟨_, List.getElem?_eq_getElem hlt⟩
      have HTK := Lib.hid (show (ps.take (k + 1)).map (·.p) = (ps.take k).map (·.p) ++ [d.p] by rw [List.take_add_one, hd, List.map_append]; rfl)
      have HEL := Lib.hid (show es.length = k by have := congrArg List.length HES.out; simp at this; omega)
      obtain ⟨b, o, rfl, hb, x0, x1, hok, ha1, ha2⟩ := (HROW.out.below HBR.out).at hd
      have hda := HFT.out d (List.mem_of_getElem? hd)
      have hnw : n ≤ wr.heap.size := by rw [← HN.out]; exact HBR.out.size
      obtain ⟨w1, hw1⟩ : ∃ w1, wr.alloc (.cells #[.int .u64 d.tm, .slice d.A d.evs.length d.c] 35) = w1 := ⟨_, rfl⟩
      have s1 : w1.heap.size = wr.heap.size + 1 := by rw [← hw1]; simp
      have b1 : Below wr.heap.size wr w1 := by rw [← hw1]; exact (Below.refl _ _).alloc (Nat.le_refl _) _
      have h1 : Held w1 wr.heap.size 35 #[.int .u64 d.tm, .slice d.A d.evs.length d.c] := by rw [← hw1]; exact heap_alloc_new wr _
      have HO1 := Lib.hid (HOW.out.below b1)
      have HB1 := Lib.hid (HBR.out.trans (b1.mono hnw))
      have HCE := Lib.hid (fun W (h : Below w1.heap.size w1 W) => cloneEvents_any d W ((hok.below ((b1.trans (h.mono (by omega))).mono hnw)).more (by have := h.size; omega)) hda)
      have HFD := Lib.hid hok.2
      have hall : ∀ W, Below w1.heap.size w1 W → W.cell? ⟨wr.heap.size, 0, none⟩ = some (.int .u64 d.tm) ∧ W.cell? ⟨wr.heap.size, 1, none⟩ = some (.slice d.A d.evs.length d.c) := fun W h => held_two (h1.below h (by omega))
      have HALL := Lib.hid hall
      have HNE := Lib.hid (show some wr.heap.size ≠ (Value.slice A1 es.length cc).ownBlock from fun e => by have := (World.ownsRow.lt HOW.out.1 _ e.symm).2; omega)
      have hfd := hok.2
      unfold Pm.Fits at hfd
      clear h1 b1 hok hd hall hda
      go_wp2_with fail
      go_region_held3 (fun W => W.cell? ⟨wr.heap.size, 0, none⟩ = some (.int .u64 d.tm) ∧ W.cell? ⟨wr.heap.size, 1, none⟩ = some (.slice d.A d.evs.length d.c))
        (first | exact HALL.out _ (Below.refl _ _) | exact HALL.out _ (Below.refl _ _).drew | exact HALL.out _ b2 | exact HALL.out _ (b2.alloc b2.size _) | exact ⟨(hg4.cell_far ⟨wr.heap.size, 0, none⟩ (by have := b2.size; simp; omega) HNE.out).trans (HALL.out _ (b2.alloc b2.size _)).1, (hg4.cell_far ⟨wr.heap.size, 1, none⟩ (by have := b2.size; simp; omega) HNE.out).trans (HALL.out _ (b2.alloc b2.size _)).2⟩)
        (first
          | (refine step_append_erow (by rfl) (.tmp 12) (.tmp 18) 23 35 (by rfl) n i1 _ 2 32 Tryz.underlying23 hi1 hy0 hy1 hy2 rfl (by omega) (.slice A1 es.length cc) es.length (flatN es) (by rfl) ((HO1.out.below b2).below ((Below.refl _ _).alloc (Nat.le_refl _) _)).1 (w2.heap.size + 1) (.slice (some ⟨w2.heap.size, 0, none⟩) 1 1) 1 (flatN [⟨d.tm, xs, A2, c2⟩]) (by rfl) (ERow.held (t := 35) (heap_alloc_new w2 _) (by omega) (by unfold maxLen; omega)) (flatN_length _) (oneN _) (by have := HEL.out; unfold maxLen; omega) (by have := HEL.out; omega) (by have := b2.size; simp; omega) (es.length + 1) rfl (flatN es ++ flatN [⟨d.tm, xs, A2, c2⟩]) rfl ?_; intro A4 c4 w4 hO4 hg4)
          | (go_at_call 45; (with_reducible refine (HCE.out _ (Below.refl _ _).drew).mono ?_); rintro e w2 ⟨A2, c2, xs, rfl, hO2, hx2, hb2⟩; have b2 : Below w1.heap.size w1 w2 := (Below.refl w1.heap.size w1).drew.trans hb2))
      have ho3 := (HO1.out.below b2).below ((Below.refl w2.heap.size w2).alloc (Nat.le_refl _) (.cells #[.int .u64 d.tm, .slice A2 xs.length c2] 35))
      have hz2 := b2.size
      have hlow : ∀ j, (Value.slice A1 es.length cc).ownBlock = some j → n ≤ j := fun j e => (World.ownsRow.lt HOW.out.1 j e).1
      have b3 := (HB1.out.trans (b2.mono (by omega))).alloc (Nat.le_trans hnw (by omega)) (.cells #[.int .u64 d.tm, .slice A2 xs.length c2] 35)
      have b4 : Below n w w4 := b3.grown hg4 (by simp; omega) hlow
      have ne1 : 75 ≠ 35 := by decide
      have ne2 : 73 ≠ 35 := by decide
      have hT4 : OwnT w4 n (.slice A4 (es ++ [(⟨d.tm, xs, A2, c2⟩ : Pm)]).length c4) (es ++ [⟨d.tm, xs, A2, c2⟩]) := by
        refine ⟨by rw [flatN_append, List.length_append]; exact hO4, fun y hy => ?_⟩
        rcases List.mem_append.1 hy with h | h
        · exact ⟨(ho3.2 y h).1.grown ho3.1 ne1 ne2 hg4, (ho3.2 y h).2⟩
        · rw [List.mem_singleton.1 h]
          exact ⟨((hO2.base (by have := (Below.refl w1.heap.size w1).drew.size; omega)).below ((Below.refl _ _).alloc (Nat.le_refl _) _)).grown ho3.1 ne1 ne2 hg4, HFD.out⟩
      have HO4 := Lib.hid hT4
      have HB4 := Lib.hid b4
      have HES4 := Lib.hid (show (es ++ [(⟨d.tm, xs, A2, c2⟩ : Pm)]).map (·.p) = (ps.take (k + 1)).map (·.p) by rw [HTK.out, List.map_append, HES.out]; simp [Pm.p, hx2])
      have hel : (es ++ [(⟨d.tm, xs, A2, c2⟩ : Pm)]).length = es.length + 1 := by simp
      clear hO2 hx2 hb2 b2 hO4 hg4 hlow b3 b4 hw1 s1 x0 x1 ho3 hT4
      rw [← hel]
      generalize es ++ [(⟨d.tm, xs, A2, c2⟩ : Pm)] = es4 at HO4 HES4 hel ⊢
      clear hel
      go_wp2_with fail
      go_roundg (ps.length - (k + 1))
      case measure => have := HGK.out; omega
      case rel => exact ⟨k + 1, A4, c4, es4, by omega, by go_num, rfl, Lib.hid rfl, HO4, HES4, HB4⟩
    · obtain rfl : k = ps.length := by omega
      go_wp2_with fail
      go_ret
      exact ⟨A1, cc, es, rfl, HOW.out, by rw [HES.out, List.take_length], HBR.out⟩
end Go.Proofs.YtohibmjjhifggaaGreat
