/-
  Traces in blocks, in plain numbers: as many points as can be in one, then the same of those behind. No program here.
-/
import Derived.Test.YtlmpicfhbpnpbaaPlainBlock
namespace Go.Proofs.Ytlmpicfhbpnpbaa

/-- May these points be in one block? -/
def fitB (sig : List Pr) (l : List Pm) : Bool := decide ((putB sig l).2 = 0)
theorem fitB_yes {sig : List Pr} {l : List Pm} : fitB sig l = true ↔ (putB sig l).2 = 0 := by simp [fitB]
/-- Of a trace that is of its signature: just if the payload is short enough. -/
theorem putB_of {sig : List Pr} {l : List Pm} (hc : checkB sig l = 0) : putB sig l = if 4096 < (payB l).length then ([], 6) else (payB l, 0) := by unfold putB; rw [if_pos hc]
theorem fitB_of {sig : List Pr} {l : List Pm} (hc : checkB sig l = 0) : fitB sig l = decide ((payB l).length ≤ 4096) := by
  unfold fitB
  rw [putB_of hc]
  by_cases h : 4096 < (payB l).length
  · rw [if_pos h]; simp; omega
  · rw [if_neg h]; simp; omega

/-- A trace that is of a signature, and what its numbers may be. -/
structure SOk (sig : List Pr) (l : List Pm) : Prop where
  chk : (checkT sig (l.map (·.p))).1 = 0
  fits : ∀ p ∈ l, p.Fits ∧ ∀ e ∈ p.evs, ∀ a ∈ e.args, a.Fits
section
variable {sig : List Pr} {l : List Pm}
theorem SOk.drop (h : SOk sig l) (k : Nat) : SOk sig (l.drop k) := ⟨by rw [List.map_drop, checkT_drop h.chk], fun p hp => h.fits p (List.mem_of_mem_drop hp)⟩
theorem SOk.take (h : SOk sig l) (k : Nat) : SOk sig (l.take k) := ⟨by rw [List.map_take, checkT_take h.chk], fun p hp => h.fits p (List.mem_of_mem_take hp)⟩
theorem SOk.check (h : SOk sig l) (h1 : 0 < l.length) (h2 : l.length ≤ 1024) : checkB sig l = 0 := by
  unfold checkB
  rw [if_neg (by omega), if_neg (by rw [h.chk]; simp), if_neg (by omega)]
theorem SOk.bok (h : SOk sig l) (h2 : l.length ≤ 1024) : BOk l := bok_of h.chk h2 h.fits
theorem SOk.takes (h : SOk sig l) {n : Nat} (h1 : 1 ≤ n) (h2 : n ≤ 1024) (hl : n ≤ l.length) : checkB sig (l.take n) = 0 := (h.take n).check (by rw [List.length_take]; omega) (by rw [List.length_take]; omega)
/-- A payload of fewer points is no longer. -/
theorem SOk.longer (h : SOk sig l) {n : Nat} (h2 : n ≤ 1024) (hl : n ≤ l.length) : ∀ d m, 1 ≤ m → m + d = n → (payB (l.take m)).length ≤ (payB (l.take n)).length
  | 0, m, _, e => by rw [show m = n by omega]; exact Nat.le_refl _
  | d + 1, m, h1, e => by
    refine Nat.le_trans ?_ (SOk.longer h h2 hl d (m + 1) (by omega) (by omega))
    have hb : BOk (l.take (m + 1)) := (h.take (m + 1)).bok (by rw [List.length_take]; omega)
    have := payB_longer hb (n := m) h1 (by rw [List.length_take]; omega)
    rw [List.take_take, List.take_take, Nat.min_eq_left (Nat.le_succ m), Nat.min_self] at this
    omega
theorem SOk.fewer (h : SOk sig l) {m n : Nat} (h1 : 1 ≤ m) (hmn : m ≤ n) (h2 : n ≤ 1024) (hl : n ≤ l.length) (hf : fitB sig (l.take n) = true) : fitB sig (l.take m) = true := by
  rw [fitB_of (h.takes (by omega) h2 hl), decide_eq_true_iff] at hf
  rw [fitB_of (h.takes h1 (by omega) (by omega)), decide_eq_true_iff]
  exact Nat.le_trans (h.longer h2 hl (n - m) m h1 (by omega)) hf
/-- What has no room has too long a payload. -/
theorem SOk.over (h : SOk sig l) {n : Nat} (h1 : 1 ≤ n) (h2 : n ≤ 1024) (hl : n ≤ l.length) (hf : fitB sig (l.take n) = false) : (putB sig (l.take n)).2 = 6 := by
  have hc := h.takes h1 h2 hl
  rw [fitB_of hc, decide_eq_false_iff_not] at hf
  rw [putB_of hc, if_pos (by omega)]
end

/-- The greatest number up to m that p holds of; 0. -/
def topP (p : Nat → Bool) : Nat → Nat
  | 0 => 0
  | m + 1 => if p (m + 1) then m + 1 else topP p m
theorem topP_le (p : Nat → Bool) : ∀ m, topP p m ≤ m
  | 0 => Nat.le_refl _
  | m + 1 => by
    unfold topP
    by_cases h : p (m + 1) = true
    · rw [if_pos h]; exact Nat.le_refl _
    · rw [if_neg h]; have := topP_le p m; omega
theorem topP_one {p : Nat → Bool} (h1 : p 1 = true) : ∀ m, 1 ≤ m → 1 ≤ topP p m
  | m + 1, _ => by
    unfold topP
    by_cases h : p (m + 1) = true
    · rw [if_pos h]; omega
    · rw [if_neg h]
      cases m with
      | zero => exact absurd h1 h
      | succ m => exact topP_one h1 _ (by omega)
theorem topP_yes {p : Nat → Bool} : ∀ m, 1 ≤ topP p m → p (topP p m) = true
  | 0, h => by simp [topP] at h
  | m + 1, h1 => by
    unfold topP at h1 ⊢
    by_cases h : p (m + 1) = true
    · rw [if_pos h]; exact h
    · rw [if_neg h] at h1 ⊢
      exact topP_yes m h1
theorem topP_no {p : Nat → Bool} : ∀ m j, topP p m < j → j ≤ m → p j = false
  | 0, j, h1, h2 => by omega
  | m + 1, j, h1, h2 => by
    unfold topP at h1
    by_cases h : p (m + 1) = true
    · rw [if_pos h] at h1; omega
    · rw [if_neg h] at h1
      by_cases e : j = m + 1
      · rw [e]; simpa using h
      · exact topP_no m j h1 (by omega)
theorem topP_is {p : Nat → Bool} {m r : Nat} (hr : r ≤ m) (h1 : 1 ≤ r) (hp : p r = true) (hn : ∀ j, r < j → j ≤ m → p j = false) : topP p m = r := by
  rcases Nat.lt_trichotomy (topP p m) r with h | h | h
  · have := topP_no m r h hr
    rw [hp] at this
    cases this
  · exact h
  · have := topP_yes (p := p) m (by omega)
    rw [hn _ h (topP_le p m)] at this
    cases this

/-- How many points the first block has. -/
def firstC (sig : List Pr) (l : List Pm) (most : Int) : Nat := topP (fun n => fitB sig (l.take n)) (min (min most.toNat 1024) l.length)
/-- How many points each block has. -/
def sizesF (sig : List Pr) (most : Int) : Nat → List Pm → List Nat
  | 0, _ => []
  | f + 1, l => if l.length = 0 then [] else firstC sig l most :: sizesF sig most f (l.drop (firstC sig l most))
def sizesC (sig : List Pr) (l : List Pm) (most : Int) : List Nat := sizesF sig most l.length l

/-- Does each of them fit alone? -/
def aloneC (sig : List Pr) (l : List Pm) : Bool := l.all fun p => fitB sig [p]
/-- Why there are no blocks; 0. -/
def whyC (sig : List Pr) (l : List Pm) (most : Int) : Int := if most < 1 then 1 else if (checkT sig (l.map (·.p))).1 ≠ 0 then (checkT sig (l.map (·.p))).1 else if aloneC sig l = true then 0 else 6

/-- A trace that has blocks. -/
structure COk (sig : List Pr) (l : List Pm) (most : Int) : Prop where
  ok : SOk sig l
  most : 1 ≤ most
  alone : ∀ p ∈ l, fitB sig [p] = true
section
variable {sig : List Pr} {l : List Pm} {most : Int}
theorem cok_of (h : whyC sig l most = 0) (hf : ∀ p ∈ l, p.Fits ∧ ∀ e ∈ p.evs, ∀ a ∈ e.args, a.Fits) : COk sig l most := by
  unfold whyC at h
  by_cases h1 : most < 1
  · rw [if_pos h1] at h; omega
  · rw [if_neg h1] at h
    by_cases h2 : (checkT sig (l.map (·.p))).1 ≠ 0
    · rw [if_pos h2] at h; exact absurd h h2
    · rw [if_neg h2] at h
      by_cases h3 : aloneC sig l = true
      · exact ⟨⟨by simpa using h2, hf⟩, by omega, fun p hp => List.all_eq_true.1 h3 p hp⟩
      · rw [if_neg h3] at h; omega
theorem COk.drop (h : COk sig l most) (k : Nat) : COk sig (l.drop k) most := ⟨h.ok.drop k, h.most, fun p hp => h.alone p (List.mem_of_mem_drop hp)⟩
theorem COk.one (h : COk sig l most) (hl : 0 < l.length) : fitB sig (l.take 1) = true := by
  cases l with
  | nil => simp at hl
  | cons p l => exact h.alone p (List.mem_cons_self ..)
theorem COk.first (h : COk sig l most) (hl : 0 < l.length) : 1 ≤ firstC sig l most ∧ firstC sig l most ≤ l.length ∧ firstC sig l most ≤ 1024 ∧ (firstC sig l most : Int) ≤ most ∧ fitB sig (l.take (firstC sig l most)) = true := by
  have hm := h.most
  have h1 := topP_one (p := fun n => fitB sig (l.take n)) (h.one hl) (min (min most.toNat 1024) l.length) (by omega)
  have h2 := topP_le (fun n => fitB sig (l.take n)) (min (min most.toNat 1024) l.length)
  exact ⟨h1, by unfold firstC; omega, by unfold firstC; omega, by unfold firstC; omega, topP_yes _ h1⟩
/-- One more has no room, where there may be one more. -/
theorem COk.noMore (h : COk sig l most) {k : Nat} (hk : firstC sig l most = k) (h1 : k < l.length) (h2 : k < 1024) (h3 : (k : Int) < most) : (putB sig (l.take (k + 1))).2 = 6 := by
  have := topP_no (p := fun n => fitB sig (l.take n)) (min (min most.toNat 1024) l.length) (k + 1) (by unfold firstC at hk; omega) (by omega)
  exact h.ok.over (by omega) (by omega) (by omega) this
theorem sizesF_more (h : COk sig l most) : ∀ f g, l.length ≤ f → l.length ≤ g → sizesF sig most f l = sizesF sig most g l
  | f, g, hf, hg => by
    induction f generalizing g l with
    | zero =>
      cases g with
      | zero => rfl
      | succ g => rw [sizesF, sizesF, if_pos (by omega)]
    | succ f ih =>
      cases g with
      | zero => rw [sizesF, sizesF, if_pos (by omega)]
      | succ g =>
        rw [sizesF, sizesF]
        by_cases hl : l.length = 0
        · rw [if_pos hl, if_pos hl]
        · rw [if_neg hl, if_neg hl]
          have := (h.first (by omega)).1
          rw [ih (h.drop _) g (by rw [List.length_drop]; omega) (by rw [List.length_drop]; omega)]
theorem sizesC_nil (sig : List Pr) (most : Int) : sizesC sig [] most = [] := rfl
theorem COk.sizes (h : COk sig l most) (hl : 0 < l.length) : sizesC sig l most = firstC sig l most :: sizesC sig (l.drop (firstC sig l most)) most := by
  have h1 := (h.first hl).1
  unfold sizesC
  obtain ⟨n, hn⟩ : ∃ n, l.length = n + 1 := ⟨l.length - 1, by omega⟩
  rw [hn, sizesF, if_neg (by omega), sizesF_more (h.drop _) n (l.drop (firstC sig l most)).length (by rw [List.length_drop]; omega) (Nat.le_refl _)]
theorem COk.length (h : COk sig l most) : ∀ n, l.length = n → (sizesC sig l most).length ≤ n := by
  intro n
  induction n using Nat.strongRecOn generalizing l with
  | _ n ih =>
    intro hn
    rcases Nat.eq_zero_or_pos l.length with h0 | h0
    · rw [List.eq_nil_of_length_eq_zero h0, sizesC_nil]; exact Nat.zero_le _
    · have h1 := h.first h0
      rw [h.sizes h0, List.length_cons]
      have := ih (l.length - firstC sig l most) (by omega) (h.drop (firstC sig l most)) (by rw [List.length_drop])
      omega
end

/-- Of each block of a trace: how many points, of those that are left. -/
inductive CutC (sig : List Pr) (most : Int) : List Pm → List Nat → Prop
  | nil : CutC sig most [] []
  | cons {l : List Pm} {ks : List Nat} {k : Nat} (h : COk sig l most) (hl : 0 < l.length) (hk : firstC sig l most = k) (t : CutC sig most (l.drop k) ks) : CutC sig most l (k :: ks)
theorem COk.cut {sig : List Pr} {most : Int} : ∀ n {l : List Pm}, COk sig l most → l.length = n → CutC sig most l (sizesC sig l most) := by
  intro n
  induction n using Nat.strongRecOn with
  | _ n ih =>
    intro l h hn
    rcases Nat.eq_zero_or_pos l.length with h0 | h0
    · rw [List.eq_nil_of_length_eq_zero h0, sizesC_nil]; exact .nil
    · have h1 := h.first h0
      rw [h.sizes h0]
      exact .cons h h0 rfl (ih (l.length - firstC sig l most) (by omega) (h.drop _) (by rw [List.length_drop]))
#print axioms COk.cut
end Go.Proofs.Ytlmpicfhbpnpbaa
