/-
  Frames, where they begin, and the parts of bytes, in plain numbers. No program here.
-/
import Derived.Test.YtfknibjejnmghaaPlains
import Derived.Test.YtfknibjejnmghaaCrcs
namespace Go.Proofs.Ytfknibjejnmghaa

/-- What a frame begins with. -/
def markL : List Int := [199, 84, 71, 1]
/-- Why bytes don't begin with it. -/
def markI : List Int → List Int → Int
  | [], _ => 0
  | _ :: _, [] => 2
  | m :: ms, x :: xs => if x = m then markI ms xs else 4
/-- A frame from its kind on, without its sum. -/
def bodyL (k : Int) (p : List Int) : List Int := k :: encT p
/-- A frame's bytes. -/
def encFr (k : Int) (p : List Int) : List Int := markL ++ (bodyL k p ++ le4 (sumX (bodyL k p)))
/-- No frame, and why. -/
def noFr (e : Int) : (Int × List Int) × Nat × Int := ((0, []), 0, e)
/-- The frame behind its kind. -/
def getBody (k : Int) (ys : List Int) : (Int × List Int) × Nat × Int :=
  if (getI ys).2.2 ≠ 0 then noFr (getI ys).2.2
  else if 4096 < (getI ys).1 then noFr 6
  else if ys.length < (getI ys).2.1 + (getI ys).1.toNat + 4 then noFr 2
  else if (ys.drop ((getI ys).2.1 + (getI ys).1.toNat)).take 4 ≠ le4 (sumX (k :: ys.take ((getI ys).2.1 + (getI ys).1.toNat))) then noFr 5
  else ((k, (ys.drop (getI ys).2.1).take (getI ys).1.toNat), 9 + (getI ys).2.1 + (getI ys).1.toNat, 0)
/-- The frame that bytes begin with, how many bytes it has, the error. -/
def getFr (xs : List Int) : (Int × List Int) × Nat × Int :=
  if markI markL xs ≠ 0 then noFr (markI markL xs)
  else match xs.drop 4 with
    | [] => noFr 2
    | k :: ys => if k = 1 ∨ k = 2 then getBody k ys else noFr 4

theorem markI_mark (rest : List Int) : markI markL (markL ++ rest) = 0 := by simp [markI, markL]
theorem markI_back {xs : List Int} (h : markI markL xs = 0) : xs = markL ++ xs.drop 4 := by
  match xs with
  | [] => simp [markI, markL] at h
  | [a] =>
    simp only [markI, markL] at h
    split at h <;> simp at h
  | [a, b] =>
    simp only [markI, markL] at h
    split at h
    · split at h <;> simp at h
    · simp at h
  | [a, b, c] =>
    simp only [markI, markL] at h
    split at h
    · split at h
      · split at h <;> simp at h
      · simp at h
    · simp at h
  | a :: b :: c :: d :: r =>
    simp only [markI, markL] at h
    split at h
    · split at h
      · split at h
        · split at h
          · subst_vars; rfl
          · simp at h
        · simp at h
      · simp at h
    · simp at h
theorem markI_cut {c : Nat} (hc : c < 4) (rest : List Int) : markI markL ((markL ++ rest).take c) = 2 := by
  rcases (by omega : c = 0 ∨ c = 1 ∨ c = 2 ∨ c = 3) with rfl | rfl | rfl | rfl <;> simp [markI, markL]
theorem markI_vals : ∀ (ms xs : List Int), markI ms xs = 0 ∨ markI ms xs = 2 ∨ markI ms xs = 4
  | [], _ => by simp [markI]
  | _ :: _, [] => by simp [markI]
  | m :: ms, x :: xs => by
    simp only [markI]
    split
    · exact markI_vals ms xs
    · simp

theorem getFr_mark (rest : List Int) : getFr (markL ++ rest) = match rest with | [] => noFr 2 | k :: ys => if k = 1 ∨ k = 2 then getBody k ys else noFr 4 := by
  unfold getFr
  rw [if_neg (by rw [markI_mark]; simp), show (markL ++ rest).drop 4 = rest by simp [markL]]
theorem getBody_err {k er : Int} {ys : List Int} (h : (getI ys).2.2 = er) (hne : er ≠ 0) : getBody k ys = noFr er := by
  unfold getBody
  rw [if_pos (by rw [h]; exact hne), h]
theorem getBody_limit {k : Int} {ys : List Int} {n s : Nat} (h : getI ys = ((n : Int), s, 0)) (hl : 4096 < n) : getBody k ys = noFr 6 := by
  unfold getBody
  rw [h, if_neg (by simp), if_pos (by simp only; omega)]
theorem getBody_short {k : Int} {ys : List Int} {n s : Nat} (h : getI ys = ((n : Int), s, 0)) (hl : n ≤ 4096) (hs : ys.length < s + n + 4) : getBody k ys = noFr 2 := by
  unfold getBody
  rw [h, if_neg (by simp), if_neg (by simp only; omega), if_pos (by simp only [Int.toNat_natCast]; exact hs)]
theorem getBody_sum {k : Int} {ys : List Int} {n s : Nat} (h : getI ys = ((n : Int), s, 0)) (hl : n ≤ 4096) (hs : ¬ ys.length < s + n + 4) (hne : (ys.drop (s + n)).take 4 ≠ le4 (sumX (k :: ys.take (s + n)))) : getBody k ys = noFr 5 := by
  unfold getBody
  rw [h, if_neg (by simp), if_neg (by simp only; omega), if_neg (by simp only [Int.toNat_natCast]; exact hs), if_pos (by simp only [Int.toNat_natCast]; exact hne)]
theorem getBody_ok {k : Int} {ys : List Int} {n s : Nat} (h : getI ys = ((n : Int), s, 0)) (hl : n ≤ 4096) (hs : ¬ ys.length < s + n + 4) (he : (ys.drop (s + n)).take 4 = le4 (sumX (k :: ys.take (s + n)))) : getBody k ys = ((k, (ys.drop s).take n), 9 + s + n, 0) := by
  unfold getBody
  rw [h, if_neg (by simp), if_neg (by simp only; omega), if_neg (by simp only [Int.toNat_natCast]; exact hs), if_neg (by simp only [Int.toNat_natCast]; exact fun hn => hn he)]
  simp only [Int.toNat_natCast]

theorem encFr_length (k : Int) (p : List Int) : (encFr k p).length = 9 + (encI p.length).length + p.length := by
  simp only [encFr, markL, bodyL, encT, le4, List.length_append, List.length_cons, List.length_nil]
  omega

/-- Bytes whose parts are known. -/
theorem getFr_parts {k : Int} {p s4 : List Int} (hk : k = 1 ∨ k = 2) (hp : p.length ≤ 4096) (hs : s4.length = 4) (rest : List Int) :
    getFr (markL ++ (bodyL k p ++ (s4 ++ rest))) = if s4 = le4 (sumX (bodyL k p)) then ((k, p), 9 + (encI p.length).length + p.length, 0) else noFr 5 := by
  rw [getFr_mark]
  have hg : getI (encT p ++ (s4 ++ rest)) = ((p.length : Int), (encI p.length).length, 0) := by
    rw [encT, List.append_assoc]
    exact getI_enc (by omega) _
  have hlen : (encT p ++ (s4 ++ rest)).length = (encI p.length).length + p.length + 4 + rest.length := by
    simp only [encT, List.length_append]; omega
  have hdrop : (encT p ++ (s4 ++ rest)).drop ((encI p.length).length + p.length) = s4 ++ rest := by
    rw [← encT_length, List.drop_left]
  have htake : (encT p ++ (s4 ++ rest)).take ((encI p.length).length + p.length) = encT p := by
    rw [← encT_length, List.take_left]
  have h4 : (s4 ++ rest).take 4 = s4 := by rw [← hs, List.take_left]
  by_cases he : s4 = le4 (sumX (bodyL k p))
  · rw [if_pos he]
    simp only [bodyL, List.cons_append] at he ⊢
    rw [if_pos hk, getBody_ok hg hp (by omega) (by rw [hdrop, htake, h4]; exact he)]
    congr 2
    rw [encT, List.append_assoc, List.drop_left, List.take_left]
  · rw [if_neg he]
    simp only [bodyL, List.cons_append] at he ⊢
    rw [if_pos hk, getBody_sum hg hp (by omega) (by rw [hdrop, htake, h4]; exact he)]

/-- There and back, with whatever behind. -/
theorem getFr_enc {k : Int} {p : List Int} (hk : k = 1 ∨ k = 2) (hp : p.length ≤ 4096) (rest : List Int) : getFr (encFr k p ++ rest) = ((k, p), (encFr k p).length, 0) := by
  rw [encFr_length, encFr, List.append_assoc, List.append_assoc, getFr_parts hk hp rfl, if_pos rfl]

/-- Cut off anywhere. -/
theorem getFr_cut {k : Int} {p : List Int} {c : Nat} (hk : k = 1 ∨ k = 2) (hp : p.length ≤ 4096) (hc : c < (encFr k p).length) : getFr ((encFr k p).take c) = noFr 2 := by
  rw [encFr_length] at hc
  by_cases h4 : c < 4
  · unfold getFr
    rw [encFr, if_pos (by rw [markI_cut h4]; simp), markI_cut h4]
  · obtain ⟨m, rfl⟩ : ∃ m, c = 4 + m := ⟨c - 4, by omega⟩
    have e : (encFr k p).take (4 + m) = markL ++ (bodyL k p ++ le4 (sumX (bodyL k p))).take m := by
      rw [encFr, show 4 = markL.length from rfl, List.take_length_add_append]
    rw [e, getFr_mark]
    cases m with
    | zero => simp
    | succ m =>
      simp only [bodyL, List.cons_append, List.take_succ_cons]
      rw [if_pos hk]
      generalize sumX (k :: encT p) = sm
      by_cases hm : m < (encI p.length).length
      · have e2 : (encT p ++ le4 sm).take m = (encI p.length).take m := by
          rw [encT, List.append_assoc, List.take_append_of_le_length (by omega)]
        rw [e2]
        exact getBody_err (by rw [getI_cut (by omega) hm]) (by omega)
      · have e2 : (encT p ++ le4 sm).take m = encI p.length ++ (p ++ le4 sm).take (m - (encI p.length).length) := by
          rw [encT, List.append_assoc, List.take_append, List.take_of_length_le (by omega)]
        rw [e2]
        refine getBody_short (getI_enc (by omega) _) hp ?_
        simp only [List.length_append, List.length_take, le4, List.length_cons, List.length_nil]
        omega

/-- What is read has just the bytes that it was read from. -/
theorem getFr_back (xs : List Int) (hb : ∀ x ∈ xs, 0 ≤ x ∧ x < 256) (h : (getFr xs).2.2 = 0) :
    ((getFr xs).1.1 = 1 ∨ (getFr xs).1.1 = 2) ∧ (getFr xs).1.2.length ≤ 4096 ∧ (getFr xs).2.1 ≤ xs.length ∧ encFr (getFr xs).1.1 (getFr xs).1.2 = xs.take (getFr xs).2.1 ∧ (∀ x ∈ (getFr xs).1.2, 0 ≤ x ∧ x < 256) := by
  by_cases hm : markI markL xs = 0
  · have hx := markI_back hm
    have hb2 : ∀ x ∈ xs.drop 4, 0 ≤ x ∧ x < 256 := fun x hx => hb x (List.mem_of_mem_drop hx)
    generalize xs.drop 4 = r at hx hb2
    subst hx
    rw [getFr_mark] at h ⊢
    cases r with
    | nil => simp [noFr] at h
    | cons k ys =>
      simp only at h ⊢
      by_cases hk : k = 1 ∨ k = 2
      · rw [if_pos hk] at h ⊢
        have hby : ∀ x ∈ ys, 0 ≤ x ∧ x < 256 := fun x hx => hb2 x (by simp [hx])
        by_cases he : (getI ys).2.2 = 0
        · obtain ⟨n, s, hg, h1, h2, h3, h4, h5⟩ := getI_ok ys hby he
          by_cases hl : 4096 < n
          · rw [getBody_limit hg hl] at h; simp [noFr] at h
          · by_cases hs : ys.length < s + n + 4
            · rw [getBody_short hg (by omega) hs] at h; simp [noFr] at h
            · by_cases hq : (ys.drop (s + n)).take 4 = le4 (sumX (k :: ys.take (s + n)))
              · rw [getBody_ok hg (by omega) hs hq]
                have hlen : ((ys.drop s).take n).length = n := by simp; omega
                have henc : encT ((ys.drop s).take n) = ys.take (s + n) := by rw [encT, hlen, h4, ← List.take_add]
                refine ⟨hk, by simp only; omega, by simp [markL]; omega, ?_, fun x hx => hby x (List.mem_of_mem_drop (List.mem_of_mem_take hx))⟩
                have e3 : ys.take (s + n + 4) = ys.take (s + n) ++ (ys.drop (s + n)).take 4 := List.take_add
                simp only [encFr, bodyL, henc]
                rw [← hq, show 9 + s + n = 4 + (s + n + 4 + 1) by omega, show 4 = markL.length from rfl, List.take_length_add_append, List.take_succ_cons, show markL.length = 4 from rfl, e3, List.cons_append]
              · rw [getBody_sum hg (by omega) hs hq] at h; simp [noFr] at h
        · rw [getBody_err rfl he] at h; simp [noFr] at h; exact absurd h he
      · rw [if_neg hk] at h; simp [noFr] at h
  · unfold getFr at h
    rw [if_pos hm] at h
    exact absurd h hm
theorem getFr_none (xs : List Int) (h : (getFr xs).2.2 ≠ 0) : getFr xs = noFr (getFr xs).2.2 := by
  unfold getFr at h ⊢
  split
  · rfl
  · rename_i hm
    rw [if_neg hm] at h
    cases hr : xs.drop 4 with
    | nil => rfl
    | cons k ys =>
      rw [hr] at h
      simp only at h ⊢
      split
      · rename_i hk
        rw [if_pos hk] at h
        unfold getBody at h ⊢
        split
        · rfl
        · split
          · rfl
          · split
            · rfl
            · split
              · rfl
              · rename_i a b c d
                rw [if_neg a, if_neg b, if_neg c, if_neg d] at h
                exact absurd rfl h
      · rfl

/-! Turned bits. -/
theorem big_le4 {n : Nat} (hn : n < 4294967296) : big (toN (le4 n)) = n := by
  simp only [toN, le4, List.map_cons, List.map_nil, big]
  omega
/-- From this state on, a frame's bytes all lead to one state. -/
theorem state_frame (k : Int) (p : List Int) (hk : k = 1 ∨ k = 2) (hb : ∀ x ∈ p, 0 ≤ x ∧ x < 256) (hp : p.length ≤ 4096) : stateI 2472649125 (toN (encFr k p)) = it 32 4294967295 := by
  have hbody : ∀ x ∈ bodyL k p, 0 ≤ x ∧ x < 256 := by
    intro x hx
    simp only [bodyL, encT, List.mem_cons, List.mem_append] at hx
    rcases hx with rfl | hx | hx
    · omega
    · exact encI_bytes (by omega) x hx
    · exact hb x hx
  have hs := sumX_lt hbody
  have hbig := big_le4 hs
  have hst : stateI 2472649125 (toN markL) = 4294967295 := by decide +kernel
  rw [encFr, toN_append, toN_append, state_append, state_append, hst, state_big _ _ (toN_byte (le4_byte hs)), toN_length, le4_length, hbig]
  unfold sumX sumI
  generalize stateI 4294967295 (toN (bodyL k p)) = t
  rw [Nat.xor_comm 4294967295 t, ← Nat.xor_assoc, Nat.xor_self, Nat.zero_xor]

/-- A frame some bits of whose payload or sum are turned isn't read. -/
theorem getFr_told {k : Int} {p zs : List Int} {first turn : Nat} (hk : k = 1 ∨ k = 2) (hb : ∀ x ∈ p, 0 ≤ x ∧ x < 256) (hp : p.length ≤ 4096) (hl : zs.length = (encFr k p).length) (hz : ∀ x ∈ zs, 0 ≤ x ∧ x < 256)
    (hfront : zs.take (5 + (encI p.length).length) = (encFr k p).take (5 + (encI p.length).length)) (ht : turn < 4294967296) (h0 : 0 < turn) (hf : first ≤ 8 * (encFr k p).length)
    (hbig : big (toN zs) = big (toN (encFr k p)) ^^^ (2 ^ first * turn)) : getFr zs = noFr 5 := by
  have hlen := encFr_length k p
  have hfr : (encFr k p).take (5 + (encI p.length).length) = markL ++ k :: encI p.length := by
    rw [encFr, show 5 + (encI p.length).length = markL.length + ((encI p.length).length + 1) by simp [markL]; omega, List.take_length_add_append, bodyL, encT, List.cons_append, List.take_succ_cons, List.append_assoc, List.take_left]
  obtain ⟨p', hp'⟩ : ∃ p', p' = (zs.drop (5 + (encI p.length).length)).take p.length := ⟨_, rfl⟩
  obtain ⟨s4, hs4⟩ : ∃ s4, s4 = (zs.drop (5 + (encI p.length).length)).drop p.length := ⟨_, rfl⟩
  have hpl : p'.length = p.length := by rw [hp']; simp; omega
  have hsl : s4.length = 4 := by rw [hs4]; simp; omega
  have hzs : zs = markL ++ (bodyL k p' ++ (s4 ++ [])) := by
    conv => lhs; rw [← List.take_append_drop (5 + (encI p.length).length) zs, hfront, hfr, ← List.take_append_drop p.length (zs.drop (5 + (encI p.length).length)), ← hp', ← hs4]
    simp [bodyL, encT, hpl]
  have hbp' : ∀ x ∈ p', 0 ≤ x ∧ x < 256 := fun x hx => hz x (by rw [hp'] at hx; exact List.mem_of_mem_drop (List.mem_of_mem_take hx))
  have hne : s4 ≠ le4 (sumX (bodyL k p')) := by
    intro he
    have hzf : zs = encFr k p' := by rw [hzs, encFr, ← he, List.append_nil]
    have e1 := state_frame k p' hk hbp' (by omega)
    have e2 := state_frame k p hk hb hp
    rw [← hzf] at e1
    have hbe : ∀ x ∈ encFr k p, 0 ≤ x ∧ x < 256 := by
      intro x hx
      simp only [encFr, bodyL, encT, List.mem_cons, List.mem_append] at hx
      rcases hx with hx | (rfl | hx | hx) | hx
      · simp only [markL, List.mem_cons, List.not_mem_nil, or_false] at hx
        omega
      · omega
      · exact encI_bytes (by omega) x hx
      · exact hb x hx
      · refine le4_byte (sumX_lt ?_) x hx
        intro x hx
        simp only [List.mem_cons, List.mem_append] at hx
        rcases hx with rfl | hx | hx
        · omega
        · exact encI_bytes (by omega) x hx
        · exact hb x hx
    exact state_told (n := 2472649125) (by rw [toN_length, toN_length, hl]) (toN_byte hbe) (toN_byte hz) ht h0 (by rw [toN_length]; exact hf) hbig (e2.trans e1.symm)
  rw [hzs, getFr_parts hk (by omega) hsl, if_neg hne]
#print axioms getFr_told
#print axioms getFr_back
end Go.Proofs.Ytfknibjejnmghaa

namespace Go.Proofs.Ytfknibjejnmghaa

/-! With whatever behind. -/
theorem lenI_longer (ys : List Int) : ∀ (xs : List Int) (i : Nat), (lenI i xs).2 ≠ 2 → lenI i (xs ++ ys) = lenI i xs
  | [], i => by
    intro h
    by_cases hi : i < 10
    · simp only [lenI, if_pos hi] at h
      exact absurd rfl h
    · cases ys with
      | nil => rfl
      | cons y r => simp only [List.nil_append, lenI, if_neg hi, if_pos (show 10 ≤ i by omega)]
  | x :: r, i => by
    intro h
    simp only [List.cons_append, lenI] at h ⊢
    by_cases hi : 10 ≤ i
    · simp only [if_pos hi]
    · by_cases hx : x < 128
      · simp only [if_neg hi, if_pos hx]
      · simp only [if_neg hi, if_neg hx] at h ⊢
        exact lenI_longer ys r (i + 1) h
theorem getI_longer (xs ys : List Int) (hb : ∀ x ∈ xs, 0 ≤ x ∧ x < 256) (h : (getI xs).2.2 ≠ 2) : getI (xs ++ ys) = getI xs := by
  have h2 : (lenI 0 xs).2 ≠ 2 := by
    intro h2
    apply h
    unfold getI
    rw [if_neg (by rw [h2]; simp)]
    exact h2
  have e := lenI_longer ys xs 0 h2
  unfold getI
  rw [e]
  by_cases h0 : (lenI 0 xs).2 = 0
  · have hl := (getI_back xs hb h0).2.1
    rw [if_pos h0, if_pos h0, List.take_append_of_le_length hl]
  · rw [if_neg h0, if_neg h0]
theorem getBody_longer (k : Int) (xs ys : List Int) (hb : ∀ x ∈ xs, 0 ≤ x ∧ x < 256) (h : (getBody k xs).2.2 ≠ 2) : getBody k (xs ++ ys) = getBody k xs := by
  by_cases he : (getI xs).2.2 = 0
  · obtain ⟨n, s, hg, h1, h2, h3, h4, h5⟩ := getI_ok xs hb he
    have hg2 : getI (xs ++ ys) = ((n : Int), s, 0) := by rw [getI_longer xs ys hb (by rw [he]; simp), hg]
    by_cases hl : 4096 < n
    · rw [getBody_limit hg hl, getBody_limit hg2 hl]
    · by_cases hs : xs.length < s + n + 4
      · rw [getBody_short hg (by omega) hs] at h
        exact absurd rfl h
      · have hs2 : ¬ (xs ++ ys).length < s + n + 4 := by rw [List.length_append]; omega
        have e1 : ((xs ++ ys).drop (s + n)).take 4 = (xs.drop (s + n)).take 4 := by
          rw [List.drop_append_of_le_length (by omega), List.take_append_of_le_length (by rw [List.length_drop]; omega)]
        have e2 : (xs ++ ys).take (s + n) = xs.take (s + n) := List.take_append_of_le_length (by omega)
        have e3 : ((xs ++ ys).drop s).take n = (xs.drop s).take n := by
          rw [List.drop_append_of_le_length (by omega), List.take_append_of_le_length (by rw [List.length_drop]; omega)]
        by_cases hq : (xs.drop (s + n)).take 4 = le4 (sumX (k :: xs.take (s + n)))
        · rw [getBody_ok hg (by omega) hs hq, getBody_ok hg2 (by omega) hs2 (by rw [e1, e2]; exact hq), e3]
        · rw [getBody_sum hg (by omega) hs hq, getBody_sum hg2 (by omega) hs2 (by rw [e1, e2]; exact hq)]
  · have h2 : (getI xs).2.2 ≠ 2 := by
      intro h2
      rw [getBody_err h2 (by simp)] at h
      exact absurd rfl h
    rw [getBody_err rfl he, getBody_err (er := (getI xs).2.2) (by rw [getI_longer xs ys hb h2]) he]
theorem markI_longer (ys : List Int) : ∀ (ms xs : List Int), markI ms xs ≠ 2 → markI ms (xs ++ ys) = markI ms xs
  | [], _ => by intro _; simp only [markI]
  | _ :: _, [] => by intro h; exact absurd rfl h
  | m :: ms, x :: xs => by
    intro h
    simp only [List.cons_append, markI] at h ⊢
    by_cases hx : x = m
    · simp only [if_pos hx] at h ⊢
      exact markI_longer ys ms xs h
    · simp only [if_neg hx]
/-- What begins stays, and what is wrong stays wrong. -/
theorem getFr_longer (xs ys : List Int) (hb : ∀ x ∈ xs, 0 ≤ x ∧ x < 256) (h : (getFr xs).2.2 ≠ 2) : getFr (xs ++ ys) = getFr xs := by
  by_cases hm : markI markL xs = 0
  · have hx := markI_back hm
    have hb2 : ∀ x ∈ xs.drop 4, 0 ≤ x ∧ x < 256 := fun x hx => hb x (List.mem_of_mem_drop hx)
    generalize xs.drop 4 = r at hx hb2
    subst hx
    rw [List.append_assoc, getFr_mark, getFr_mark]
    rw [getFr_mark] at h
    cases r with
    | nil => exact absurd rfl h
    | cons k zs =>
      simp only [List.cons_append] at h ⊢
      by_cases hk : k = 1 ∨ k = 2
      · simp only [if_pos hk] at h ⊢
        exact getBody_longer k zs ys (fun x hx => hb2 x (by simp [hx])) h
      · simp only [if_neg hk]
  · have h2 : markI markL xs ≠ 2 := by
      intro h2
      unfold getFr at h
      rw [if_pos hm] at h
      exact h h2
    have e := markI_longer ys markL xs h2
    unfold getFr
    rw [e, if_pos hm, if_pos hm]
theorem drop_longer {b : List Int} {at_ : Nat} (behind : List Int) (ha : at_ ≤ b.length) (hb : ∀ x ∈ b, 0 ≤ x ∧ x < 256) (h : (getFr (b.drop at_)).2.2 ≠ 2) : getFr ((b ++ behind).drop at_) = getFr (b.drop at_) := by
  rw [List.drop_append_of_le_length ha]
  exact getFr_longer _ _ (fun x hx => hb x (List.mem_of_mem_drop hx)) h

/-! The first place. -/
/-- A frame begins at a place, or, with open, may yet. -/
def begI (opn : Bool) (xs : List Int) (a : Nat) : Bool := (getFr (xs.drop a)).2.2 == 0 || (opn && (getFr (xs.drop a)).2.2 == 2)
/-- The first of n places from a on at which q holds; -1. -/
def firstI (q : Nat → Bool) : Nat → Nat → Int
  | 0, _ => -1
  | n + 1, a => if q a then (a : Int) else firstI q n (a + 1)
/-- Next and Open. -/
def nextI (opn : Bool) (xs : List Int) (frm : Int) : Int := firstI (begI opn xs) (xs.length - frm.toNat) frm.toNat
/-- At how many of the first n places q holds. -/
def countI (q : Nat → Bool) : Nat → Nat
  | 0 => 0
  | n + 1 => countI q n + if q n then 1 else 0

theorem first_found {q : Nat → Bool} : ∀ (n a r : Nat), a ≤ r → r < a + n → (∀ j, a ≤ j → j < r → q j = false) → q r = true → firstI q n a = (r : Int)
  | 0, a, r, h1, h2, _, _ => by omega
  | n + 1, a, r, h1, h2, hn, hr => by
    simp only [firstI]
    by_cases e : a = r
    · subst e
      rw [if_pos hr]
    · rw [if_neg (by rw [hn a (Nat.le_refl _) (by omega)]; simp)]
      exact first_found n (a + 1) r (by omega) (by omega) (fun j hj hj2 => hn j (by omega) hj2) hr
theorem first_none {q : Nat → Bool} : ∀ (n a : Nat), (∀ j, a ≤ j → j < a + n → q j = false) → firstI q n a = -1
  | 0, _, _ => rfl
  | n + 1, a, hn => by
    simp only [firstI]
    rw [if_neg (by rw [hn a (Nat.le_refl _) (by omega)]; simp)]
    exact first_none n (a + 1) (fun j hj hj2 => hn j (by omega) (by omega))
theorem first_cases (q : Nat → Bool) : ∀ (n a : Nat), (firstI q n a = -1 ∧ ∀ j, a ≤ j → j < a + n → q j = false) ∨ ∃ r : Nat, firstI q n a = (r : Int) ∧ a ≤ r ∧ r < a + n ∧ q r = true ∧ ∀ j, a ≤ j → j < r → q j = false
  | 0, a => Or.inl ⟨rfl, fun j h1 h2 => by omega⟩
  | n + 1, a => by
    by_cases h : q a = true
    · exact Or.inr ⟨a, by simp only [firstI, if_pos h], Nat.le_refl _, by omega, h, fun j h1 h2 => by omega⟩
    · have hf : q a = false := by simpa using h
      rcases first_cases q n (a + 1) with ⟨e, hn⟩ | ⟨r, e, h1, h2, h3, h4⟩
      · refine Or.inl ⟨by simp only [firstI, if_neg h]; exact e, fun j h1 h2 => ?_⟩
        by_cases ej : j = a
        · rw [ej]; exact hf
        · exact hn j (by omega) (by omega)
      · refine Or.inr ⟨r, by simp only [firstI, if_neg h]; exact e, by omega, by omega, h3, fun j h5 h6 => ?_⟩
        by_cases ej : j = a
        · rw [ej]; exact hf
        · exact h4 j (by omega) h6

theorem next_found {opn : Bool} {xs : List Int} {frm : Int} {r : Nat} (h1 : frm.toNat ≤ r) (h2 : r < xs.length) (hn : ∀ j : Nat, frm.toNat ≤ j → j < r → begI opn xs j = false) (hr : begI opn xs r = true) : nextI opn xs frm = (r : Int) :=
  first_found _ _ r h1 (by omega) hn hr
theorem next_none {opn : Bool} {xs : List Int} {frm : Int} (hn : ∀ j : Nat, frm.toNat ≤ j → j < xs.length → begI opn xs j = false) : nextI opn xs frm = -1 :=
  first_none _ _ (fun j h1 h2 => hn j h1 (by omega))
/-- None is open: none begins and none may yet. -/
theorem open_none {xs : List Int} (h : nextI true xs 0 = -1) : ∀ j : Nat, j < xs.length → (getFr (xs.drop j)).2.2 ≠ 0 ∧ (getFr (xs.drop j)).2.2 ≠ 2 := by
  intro j hj
  have hq : begI true xs j = false := by
    rcases first_cases (begI true xs) (xs.length - (0 : Int).toNat) (0 : Int).toNat with ⟨_, hn⟩ | ⟨r, e, _⟩
    · exact hn j (by simp) (by simp only [Int.toNat_zero]; omega)
    · unfold nextI at h
      rw [h] at e
      omega
  simp only [begI, Bool.true_and, Bool.or_eq_false_iff, beq_eq_false_iff_ne, ne_eq] at hq
  exact hq

theorem count_mono (q : Nat → Bool) {n m : Nat} (h : n ≤ m) : countI q n ≤ countI q m := by
  induction m with
  | zero =>
    have : n = 0 := by omega
    subst this
    exact Nat.le_refl _
  | succ m ih =>
    by_cases e : n = m + 1
    · subst e
      exact Nat.le_refl _
    · have := ih (by omega)
      simp only [countI]
      omega
theorem count_le (q : Nat → Bool) : ∀ n : Nat, countI q n ≤ n
  | 0 => Nat.le_refl _
  | n + 1 => by
    have := count_le q n
    simp only [countI]
    split <;> omega

/-! Frames, one behind the other. -/
/-- A frame that may be. -/
def Fit (f : Int × List Int) : Prop := (f.1 = 1 ∨ f.1 = 2) ∧ f.2.length ≤ 4096
/-- The bytes of frames, one behind the other. -/
def catFr : List (Int × List Int) → List Int
  | [] => []
  | f :: r => encFr f.1 f.2 ++ catFr r
/-- Where they begin, the first at a. -/
def placesF : Nat → List (Int × List Int) → List Nat
  | _, [] => []
  | a, f :: r => a :: placesF (a + (encFr f.1 f.2).length) r

theorem catFr_append : ∀ (l m : List (Int × List Int)), catFr (l ++ m) = catFr l ++ catFr m
  | [], m => rfl
  | f :: r, m => by simp only [List.cons_append, catFr, catFr_append r m, List.append_assoc]
theorem placesF_append : ∀ (l m : List (Int × List Int)) (a : Nat), placesF a (l ++ m) = placesF a l ++ placesF (a + (catFr l).length) m
  | [], m, a => by simp [placesF, catFr]
  | f :: r, m, a => by
    simp only [List.cons_append, placesF, catFr, placesF_append r m, List.length_append]
    rw [Nat.add_assoc]
theorem placesF_length : ∀ (l : List (Int × List Int)) (a : Nat), (placesF a l).length = l.length
  | [], _ => rfl
  | f :: r, a => by simp only [placesF, List.length_cons, placesF_length r]
theorem encFr_pos (k : Int) (p : List Int) : 9 ≤ (encFr k p).length := by rw [encFr_length]; omega
theorem placesF_get : ∀ (l : List (Int × List Int)) (a i : Nat), i < l.length → (placesF a l).getD i 0 = a + (catFr (l.take i)).length
  | [], _, _, h => by simp at h
  | f :: r, a, 0, _ => by simp [placesF, catFr]
  | f :: r, a, i + 1, h => by
    simp only [List.length_cons] at h
    simp only [placesF, List.getD_cons_succ, List.take_succ_cons, catFr, List.length_append]
    rw [placesF_get r _ i (by omega), Nat.add_assoc]
/-- Behind any bytes each frame is where it stands. -/
theorem getFr_at (ahead : List Int) (l : List (Int × List Int)) (hl : ∀ f ∈ l, Fit f) (i : Nat) (hi : i < l.length) :
    getFr ((ahead ++ catFr l).drop (ahead.length + (catFr (l.take i)).length)) = ((l[i].1, l[i].2), (encFr l[i].1 l[i].2).length, 0) := by
  have e : catFr l = catFr (l.take i) ++ (encFr l[i].1 l[i].2 ++ catFr (l.drop (i + 1))) := by
    have e2 : l = l.take i ++ (l[i] :: l.drop (i + 1)) := by
      rw [← List.drop_eq_getElem_cons hi, List.take_append_drop]
    conv => lhs; rw [e2]
    rw [catFr_append, catFr]
  rw [e, ← List.append_assoc, ← List.length_append, List.drop_left]
  have hf := hl l[i] (List.getElem_mem hi)
  exact getFr_enc hf.1 hf.2 _
theorem place_lt (ahead : List Int) (l : List (Int × List Int)) (i : Nat) (hi : i < l.length) : ahead.length + (catFr (l.take i)).length < (ahead ++ catFr l).length := by
  have e : l = l.take i ++ (l[i] :: l.drop (i + 1)) := by
    rw [← List.drop_eq_getElem_cons hi, List.take_append_drop]
  have e2 : (catFr l).length = (catFr (l.take i)).length + ((encFr l[i].1 l[i].2).length + (catFr (l.drop (i + 1))).length) := by
    conv => lhs; rw [e]
    rw [catFr_append, catFr, List.length_append, List.length_append]
  have := encFr_pos l[i].1 l[i].2
  rw [List.length_append]
  omega
theorem begI_at (opn : Bool) (ahead : List Int) (l : List (Int × List Int)) (hl : ∀ f ∈ l, Fit f) (i : Nat) (hi : i < l.length) : begI opn (ahead ++ catFr l) (ahead.length + (catFr (l.take i)).length) = true := by
  unfold begI
  rw [getFr_at ahead l hl i hi]
  simp
/-- Next from a frame's place is that place. -/
theorem next_at (ahead : List Int) (l : List (Int × List Int)) (hl : ∀ f ∈ l, Fit f) (i : Nat) (hi : i < l.length) : nextI false (ahead ++ catFr l) ((ahead.length + (catFr (l.take i)).length : Nat) : Int) = ((ahead.length + (catFr (l.take i)).length : Nat) : Int) := by
  refine next_found ?_ (place_lt ahead l i hi) ?_ (begI_at false ahead l hl i hi)
  · rw [Int.toNat_natCast]
    exact Nat.le_refl _
  · intro j h1 h2
    rw [Int.toNat_natCast] at h1
    omega
/-- Behind bytes in which none begins or may yet, the first frame is the first place. -/
theorem next_ahead (ahead : List Int) (l : List (Int × List Int)) (hb : ∀ x ∈ ahead, 0 ≤ x ∧ x < 256) (ho : nextI true ahead 0 = -1) (hl : ∀ f ∈ l, Fit f) (h0 : 0 < l.length) : nextI false (ahead ++ catFr l) 0 = (ahead.length : Int) := by
  have hz : ahead.length + (catFr (l.take 0)).length = ahead.length := by simp [catFr]
  refine next_found (by simp) ?_ ?_ ?_
  · have := place_lt ahead l 0 h0
    rw [hz] at this
    exact this
  · intro j _ hj
    obtain ⟨n0, n2⟩ := open_none ho j hj
    unfold begI
    rw [drop_longer (catFr l) (by omega) hb n2]
    simp only [Bool.false_and, Bool.or_false, beq_eq_false_iff_ne, ne_eq]
    exact n0
  · have := begI_at false ahead l hl 0 h0
    rw [hz] at this
    exact this
theorem count_places (q : Nat → Bool) : ∀ (l : List (Int × List Int)) (a hi : Nat), (∀ x ∈ placesF a l, q x = true) → a + (catFr l).length ≤ hi → countI q a + l.length ≤ countI q hi
  | [], a, hi, _, h => by
    simp only [catFr, List.length_nil, Nat.add_zero] at h ⊢
    exact count_mono q h
  | f :: r, a, hi, hq, h => by
    simp only [catFr, List.length_append] at h
    have hp := encFr_pos f.1 f.2
    have h1 : countI q (a + 1) = countI q a + 1 := by
      simp only [countI]
      rw [if_pos (hq a (by simp [placesF]))]
    have h2 := count_mono q (show a + 1 ≤ a + (encFr f.1 f.2).length by omega)
    have h3 := count_places q r (a + (encFr f.1 f.2).length) hi (fun x hx => hq x (by simp [placesF, hx])) (by omega)
    simp only [List.length_cons]
    omega
/-- There are no fewer than the frames that were laid. -/
theorem count_frames (ahead : List Int) (l : List (Int × List Int)) (hl : ∀ f ∈ l, Fit f) : l.length ≤ countI (begI false (ahead ++ catFr l)) (ahead ++ catFr l).length := by
  have h := count_places (begI false (ahead ++ catFr l)) l ahead.length (ahead ++ catFr l).length (by
    intro x hx
    obtain ⟨i, hi, e⟩ := List.getElem_of_mem hx
    rw [placesF_length] at hi
    have hg := placesF_get l ahead.length i hi
    rw [List.getD_eq_getElem?_getD, List.getElem?_eq_getElem (by rw [placesF_length]; exact hi), Option.getD_some, e] at hg
    rw [hg]
    exact begI_at false ahead l hl i hi) (by rw [List.length_append]; exact Nat.le_refl _)
  omega
#print axioms count_frames
#print axioms next_ahead
#print axioms getFr_longer
end Go.Proofs.Ytfknibjejnmghaa

namespace Go.Proofs.Ytfknibjejnmghaa

/-- A part: where it begins, how many bytes it has, whether it is a frame, and that frame. -/
structure Sg where
  frm : Nat
  n : Nat
  isf : Bool
  kind : Int
  pay : List Int
deriving DecidableEq
/-- What is skipped, from a place to another one. -/
def skipS (a r : Nat) : Sg := ⟨a, r - a, false, 0, []⟩
/-- The frame that begins at a place. -/
def frS (xs : List Int) (a : Nat) : Sg := ⟨a, (getFr (xs.drop a)).2.1, true, (getFr (xs.drop a)).1.1, (getFr (xs.drop a)).1.2⟩
/-- A frame begins at a place. -/
def Begins (xs : List Int) (a : Nat) : Prop := (getFr (xs.drop a)).2.2 = 0
/-- The parts of bytes, from a place on. -/
inductive PartsS (xs : List Int) : Nat → List Sg → Prop
  | stop (a : Nat) (h : xs.length ≤ a) : PartsS xs a []
  | rest (a : Nat) (h : a < xs.length) (hn : ∀ j, a ≤ j → j < xs.length → ¬ Begins xs j) : PartsS xs a [skipS a xs.length]
  | fr (a : Nat) (l : List Sg) (h : a < xs.length) (hb : Begins xs a) (hl : PartsS xs (a + (getFr (xs.drop a)).2.1) l) : PartsS xs a (frS xs a :: l)
  | gap (a r : Nat) (l : List Sg) (ha : a < r) (h : r < xs.length) (hn : ∀ j, a ≤ j → j < r → ¬ Begins xs j) (hb : Begins xs r) (hl : PartsS xs (r + (getFr (xs.drop r)).2.1) l) : PartsS xs a (skipS a r :: frS xs r :: l)

/-- How many bytes a frame has, at least and at most; what it is. -/
theorem begins_in {xs : List Int} {a : Nat} (hx : ∀ x ∈ xs, 0 ≤ x ∧ x < 256) (hb : Begins xs a) :
    9 ≤ (getFr (xs.drop a)).2.1 ∧ a + (getFr (xs.drop a)).2.1 ≤ xs.length ∧ ((getFr (xs.drop a)).1.1 = 1 ∨ (getFr (xs.drop a)).1.1 = 2) ∧ (getFr (xs.drop a)).1.2.length ≤ 4096 ∧
    (∀ x ∈ (getFr (xs.drop a)).1.2, 0 ≤ x ∧ x < 256) ∧ (xs.drop a).take (getFr (xs.drop a)).2.1 = encFr (getFr (xs.drop a)).1.1 (getFr (xs.drop a)).1.2 := by
  obtain ⟨h1, h2, h3, h4, h5⟩ := getFr_back (xs.drop a) (fun x h => hx x (List.mem_of_mem_drop h)) hb
  have e1 : ((xs.drop a).take (getFr (xs.drop a)).2.1).length = (getFr (xs.drop a)).2.1 := by rw [List.length_take]; omega
  have e2 := encFr_pos (getFr (xs.drop a)).1.1 (getFr (xs.drop a)).1.2
  rw [h4, e1] at e2
  rw [List.length_drop] at h3
  exact ⟨e2, by omega, h1, h2, h5, h4.symm⟩
theorem begins_lt {xs : List Int} {a : Nat} (hx : ∀ x ∈ xs, 0 ≤ x ∧ x < 256) (hb : Begins xs a) : a < xs.length := by
  have := begins_in hx hb
  omega

/-! Next and the first place at which a frame begins. -/
theorem next_some {xs : List Int} {a r : Nat} (h : nextI false xs a = (r : Int)) : a ≤ r ∧ r < xs.length ∧ Begins xs r ∧ ∀ j, a ≤ j → j < r → ¬ Begins xs j := by
  rcases first_cases (begI false xs) (xs.length - (a : Int).toNat) (a : Int).toNat with ⟨e, _⟩ | ⟨q, e, h1, h2, h3, h4⟩
  · unfold nextI at h
    omega
  · unfold nextI at h
    obtain rfl : q = r := by omega
    rw [Int.toNat_natCast] at h1 h2 h4
    refine ⟨h1, by omega, by simpa [begI, Begins] using h3, fun j hj hj2 => ?_⟩
    have := h4 j hj hj2
    simpa [begI, Begins] using this
theorem next_no {xs : List Int} {a : Nat} (h : nextI false xs a < 0) : ∀ j, a ≤ j → j < xs.length → ¬ Begins xs j := by
  rcases first_cases (begI false xs) (xs.length - (a : Int).toNat) (a : Int).toNat with ⟨_, hn⟩ | ⟨q, e, _⟩
  · rw [Int.toNat_natCast] at hn
    intro j hj hj2
    have := hn j hj (by omega)
    simpa [begI, Begins] using this
  · unfold nextI at h
    omega
theorem next_ways (xs : List Int) (a : Nat) : nextI false xs a = -1 ∨ ∃ r : Nat, nextI false xs a = (r : Int) := by
  rcases first_cases (begI false xs) (xs.length - (a : Int).toNat) (a : Int).toNat with ⟨e, _⟩ | ⟨q, e, _⟩
  · exact .inl e
  · exact .inr ⟨q, e⟩

/-! They are one list alone. -/
theorem PartsS.same {xs : List Int} {a : Nat} {l l' : List Sg} (h : PartsS xs a l) (h' : PartsS xs a l') : l = l' := by
  induction h generalizing l' with
  | stop a h =>
    cases h' with
    | stop _ _ => rfl
    | rest _ h2 _ => omega
    | fr _ _ h2 _ _ => omega
    | gap _ r _ h2 h3 _ _ _ => omega
  | rest a h hn =>
    cases h' with
    | stop _ h2 => omega
    | rest _ _ _ => rfl
    | fr _ _ _ hb _ => exact absurd hb (hn _ (Nat.le_refl _) h)
    | gap _ r _ h2 h3 _ hb _ => exact absurd hb (hn r (by omega) h3)
  | fr a l h hb _ ih =>
    cases h' with
    | stop _ h2 => omega
    | rest _ _ hn => exact absurd hb (hn _ (Nat.le_refl _) h)
    | fr _ _ _ _ hl => rw [ih hl]
    | gap _ r _ h2 _ hn _ _ => exact absurd hb (hn _ (Nat.le_refl _) h2)
  | gap a r l ha h hn hb _ ih =>
    cases h' with
    | stop _ h2 => omega
    | rest _ _ hn2 => exact absurd hb (hn2 r (by omega) h)
    | fr _ _ _ hb2 _ => exact absurd hb2 (hn _ (Nat.le_refl _) ha)
    | gap _ r2 _ h2 _ hn2 hb2 hl =>
      have e : r = r2 := by
        rcases Nat.lt_trichotomy r r2 with h3 | h3 | h3
        · exact absurd hb (hn2 r (by omega) h3)
        · exact h3
        · exact absurd hb2 (hn r2 (by omega) h3)
      subst e
      rw [ih hl]

/-! What has come so far, with what comes from a place on, are all parts. -/
/-- pre, with the parts from a on, are the parts. -/
def Ahead (xs : List Int) (pre : List Sg) (a : Nat) : Prop := ∀ l, PartsS xs a l → PartsS xs 0 (pre ++ l)
theorem Ahead.start (xs : List Int) : Ahead xs [] 0 := fun _ h => h
theorem Ahead.done {xs : List Int} {pre : List Sg} {a : Nat} (h : Ahead xs pre a) (ha : xs.length ≤ a) : PartsS xs 0 pre := by
  have := h [] (.stop a ha)
  rwa [List.append_nil] at this
theorem Ahead.last {xs : List Int} {pre : List Sg} {a : Nat} (h : Ahead xs pre a) (ha : a < xs.length) (hn : ∀ j, a ≤ j → j < xs.length → ¬ Begins xs j) : PartsS xs 0 (pre ++ [skipS a xs.length]) :=
  h _ (.rest a ha hn)
theorem Ahead.fr {xs : List Int} {pre : List Sg} {a : Nat} (h : Ahead xs pre a) (ha : a < xs.length) (hb : Begins xs a) : Ahead xs (pre ++ [frS xs a]) (a + (getFr (xs.drop a)).2.1) := fun l hl => by
  have := h _ (.fr a l ha hb hl)
  simpa using this
theorem Ahead.gap {xs : List Int} {pre : List Sg} {a r : Nat} (h : Ahead xs pre a) (ha : a < r) (hr : r < xs.length) (hn : ∀ j, a ≤ j → j < r → ¬ Begins xs j) (hb : Begins xs r) : Ahead xs ((pre ++ [skipS a r]) ++ [frS xs r]) (r + (getFr (xs.drop r)).2.1) := fun l hl => by
  have := h _ (.gap a r l ha hr hn hb hl)
  simpa using this

/-! The document's way: byte by byte. -/
/-- Behind some bytes: the last part is none that is skipped (and none begins, or it is a frame); or bytes have been skipped from a place on. -/
def Walked (xs : List Int) (out : List Sg) (a : Nat) : Prop :=
  ((∀ o g, out = o ++ [g] → g.isf = true) ∧ Ahead xs out a) ∨
  ∃ o f, out = o ++ [skipS f a] ∧ f < a ∧ (∀ j, f ≤ j → j < a → ¬ Begins xs j) ∧ Ahead xs o f
theorem Walked.start (xs : List Int) : Walked xs [] 0 := .inl ⟨by simp, Ahead.start xs⟩
theorem Walked.done {xs : List Int} {out : List Sg} (h : Walked xs out xs.length) : PartsS xs 0 out := by
  rcases h with ⟨_, h⟩ | ⟨o, f, rfl, hf, hn, h⟩
  · exact h.done (Nat.le_refl _)
  · exact h.last hf hn
theorem last_fr {xs : List Int} {out : List Sg} {a : Nat} : ∀ o g, out ++ [frS xs a] = o ++ [g] → g.isf = true := by
  intro o g e
  have := (List.append_inj' e rfl).2
  simp only [List.cons.injEq, and_true] at this
  rw [← this]
  rfl
theorem Walked.fr {xs : List Int} {out : List Sg} {a : Nat} (h : Walked xs out a) (ha : a < xs.length) (hb : Begins xs a) : Walked xs (out ++ [frS xs a]) (a + (getFr (xs.drop a)).2.1) := by
  rcases h with ⟨_, h⟩ | ⟨o, f, rfl, hf, hn, h⟩
  · exact .inl ⟨last_fr, h.fr ha hb⟩
  · exact .inl ⟨last_fr, h.gap hf ha hn hb⟩
/-- A byte is skipped, and the last part is none that is skipped. -/
theorem Walked.one {xs : List Int} {out : List Sg} {a : Nat} (h : Walked xs out a) (hl : ∀ o g, out = o ++ [g] → g.isf = true) (hb : ¬ Begins xs a) : Walked xs (out ++ [skipS a (a + 1)]) (a + 1) := by
  rcases h with ⟨_, h⟩ | ⟨o, f, rfl, hf, hn, h⟩
  · refine .inr ⟨out, a, rfl, by omega, fun j h1 h2 => ?_, h⟩
    obtain rfl : j = a := by omega
    exact hb
  · exact absurd (hl _ _ rfl) (by simp [skipS])
/-- A byte is skipped, and the last part is one that is skipped. -/
theorem Walked.more {xs : List Int} {out : List Sg} {g : Sg} {a : Nat} (h : Walked xs (out ++ [g]) a) (hl : g.isf = false) (hb : ¬ Begins xs a) : Walked xs (out ++ [{ g with n := g.n + 1 }]) (a + 1) := by
  rcases h with ⟨h, _⟩ | ⟨o, f, e, hf, hn, h⟩
  · have := h _ _ rfl
    rw [hl] at this
    cases this
  · obtain ⟨rfl, e2⟩ := List.append_inj' e rfl
    simp only [List.cons.injEq, and_true] at e2
    subst e2
    refine .inr ⟨out, f, ?_, by omega, fun j h1 h2 => ?_, h⟩
    · simp only [skipS]
      rw [show a - f + 1 = a + 1 - f by omega]
    · by_cases e : j = a
      · rw [e]; exact hb
      · exact hn j h1 (by omega)
/-- Of no more parts than bytes, each of which is within them. -/
def Within (l : List Sg) (a : Nat) : Prop := l.length ≤ a ∧ ∀ s ∈ l, s.frm + s.n ≤ a ∧ s.pay.length ≤ 4096 ∧ (s.kind = 0 ∨ s.kind = 1 ∨ s.kind = 2) ∧ ∀ x ∈ s.pay, 0 ≤ x ∧ x < 256

/-! All of it. -/
/-- The parts from a place on: they stand one behind the other and have all bytes, no two that are skipped side by side; each frame's bytes are its own; where bytes are skipped none begins. -/
def Tiled (xs : List Int) : Nat → Bool → List Sg → Prop
  | a, _, [] => a = xs.length
  | a, sk, s :: l => s.frm = a ∧ 1 ≤ s.n ∧ a + s.n ≤ xs.length ∧ (sk = true → s.isf = true) ∧
      (s.isf = true → (s.kind = 1 ∨ s.kind = 2) ∧ s.pay.length ≤ 4096 ∧ (∀ x ∈ s.pay, 0 ≤ x ∧ x < 256) ∧ (xs.drop a).take s.n = encFr s.kind s.pay) ∧
      (s.isf = false → ∀ j, a ≤ j → j < a + s.n → ¬ Begins xs j) ∧ Tiled xs (a + s.n) (!s.isf) l
theorem tiled_fr {xs : List Int} {a : Nat} {l : List Sg} (hx : ∀ x ∈ xs, 0 ≤ x ∧ x < 256) (hb : Begins xs a) (h : Tiled xs (a + (getFr (xs.drop a)).2.1) false l) (sk : Bool) : Tiled xs a sk (frS xs a :: l) := by
  obtain ⟨h1, h2, h3, h4, h5, h6⟩ := begins_in hx hb
  exact ⟨rfl, by simp only [frS]; omega, by simp only [frS]; omega, fun _ => rfl, fun _ => ⟨h3, h4, h5, h6⟩, fun e => by simp [frS] at e, h⟩
theorem PartsS.tiled {xs : List Int} (hx : ∀ x ∈ xs, 0 ≤ x ∧ x < 256) {a : Nat} {l : List Sg} (h : PartsS xs a l) : a ≤ xs.length → Tiled xs a false l := by
  induction h with
  | stop a h => intro ha; exact Nat.le_antisymm ha h
  | rest a h hn =>
    intro _
    refine ⟨rfl, by simp only [skipS]; omega, by simp only [skipS]; omega, fun e => (by cases e), fun e => by simp [skipS] at e, fun _ j h1 h2 => ?_, ?_⟩
    · simp only [skipS] at h2
      exact hn j h1 (by omega)
    · simp only [skipS, Tiled]
      omega
  | fr a l h hb _ ih =>
    intro _
    have := begins_in hx hb
    exact tiled_fr hx hb (ih (by omega)) _
  | gap a r l ha h hn hb _ ih =>
    intro _
    have := begins_in hx hb
    refine ⟨rfl, by simp only [skipS]; omega, by simp only [skipS]; omega, fun e => (by cases e), fun e => by simp [skipS] at e, fun _ j h1 h2 => ?_, ?_⟩
    · simp only [skipS] at h2
      exact hn j h1 (by omega)
    · simp only [skipS]
      rw [show a + (r - a) = r by omega]
      exact tiled_fr hx hb (ih (by omega)) _

/-! Behind a frame. -/
def shiftS (k : Nat) (s : Sg) : Sg := { s with frm := s.frm + k }
theorem begins_drop (xs : List Int) (k a : Nat) : Begins (xs.drop k) a ↔ Begins xs (k + a) := by
  unfold Begins
  rw [List.drop_drop]
theorem frS_drop (xs : List Int) (k a : Nat) : shiftS k (frS (xs.drop k) a) = frS xs (k + a) := by
  unfold shiftS frS
  simp only [List.drop_drop, Nat.add_comm a k]
theorem skipS_drop (k a r : Nat) : shiftS k (skipS a r) = skipS (k + a) (k + r) := by
  unfold shiftS skipS
  simp only [Sg.mk.injEq, and_true]
  omega
theorem PartsS.shift {xs : List Int} (k : Nat) (hk : k ≤ xs.length) {a : Nat} {l : List Sg} (h : PartsS (xs.drop k) a l) : PartsS xs (k + a) (l.map (shiftS k)) := by
  have hl : (xs.drop k).length = xs.length - k := List.length_drop
  induction h with
  | stop a h => exact .stop _ (by omega)
  | rest a h hn =>
    rw [List.map_cons, skipS_drop, hl, show k + (xs.length - k) = xs.length by omega]
    refine .rest _ (by omega) fun j h1 h2 => ?_
    have := hn (j - k) (by omega) (by omega)
    rwa [begins_drop, show k + (j - k) = j by omega] at this
  | fr a l h hb _ ih =>
    rw [List.map_cons, frS_drop]
    rw [begins_drop] at hb
    refine .fr _ _ (by omega) hb ?_
    rw [List.drop_drop] at ih
    rw [Nat.add_assoc]
    exact ih
  | gap a r l ha h hn hb _ ih =>
    rw [List.map_cons, List.map_cons, frS_drop, skipS_drop]
    rw [begins_drop] at hb
    refine .gap _ _ _ (by omega) (by omega) (fun j h1 h2 => ?_) hb ?_
    · have := hn (j - k) (by omega) (by omega)
      rwa [begins_drop, show k + (j - k) = j by omega] at this
    · rw [List.drop_drop] at ih
      rw [Nat.add_assoc]
      exact ih
/-- Behind a frame that is a part the parts are those from there on. -/
theorem PartsS.behind {xs : List Int} {a : Nat} {l : List Sg} (h : PartsS xs a l) : ∀ (i : Nat) (s : Sg), l[i]? = some s → s.isf = true → PartsS xs (s.frm + s.n) (l.drop (i + 1)) := by
  induction h with
  | stop a h => intro i s hs; simp at hs
  | rest a h hn =>
    intro i s hs hf
    cases i with
    | zero =>
      simp only [List.getElem?_cons_zero, Option.some.injEq] at hs
      subst hs
      simp [skipS] at hf
    | succ i => simp at hs
  | fr a l h hb hl ih =>
    intro i s hs hf
    cases i with
    | zero =>
      simp only [List.getElem?_cons_zero, Option.some.injEq] at hs
      subst hs
      exact hl
    | succ i =>
      rw [List.getElem?_cons_succ] at hs
      exact ih i s hs hf
  | gap a r l ha h hn hb hl ih =>
    intro i s hs hf
    match i with
    | 0 =>
      simp only [List.getElem?_cons_zero, Option.some.injEq] at hs
      subst hs
      simp [skipS] at hf
    | 1 =>
      simp only [List.getElem?_cons_succ, List.getElem?_cons_zero, Option.some.injEq] at hs
      subst hs
      exact hl
    | i + 2 =>
      simp only [List.getElem?_cons_succ] at hs
      exact ih i s hs hf

/-! How many bytes are skipped. -/
def skipN : List Sg → Nat
  | [] => 0
  | s :: l => (if s.isf then 0 else s.n) + skipN l
theorem skipN_append : ∀ (l m : List Sg), skipN (l ++ m) = skipN l + skipN m
  | [], m => by simp [skipN]
  | s :: l, m => by simp only [List.cons_append, skipN, skipN_append l m, Nat.add_assoc]
/-- The parts that are frames. -/
def framesS (l : List Sg) : List Sg := l.filter (·.isf)
theorem framesS_snoc (l : List Sg) (s : Sg) : framesS (l ++ [s]) = framesS l ++ if s.isf then [s] else [] := by
  unfold framesS
  rw [List.filter_append]
  cases h : s.isf <;> simp [h]
#print axioms PartsS.same
#print axioms PartsS.tiled
#print axioms PartsS.shift
#print axioms PartsS.behind
end Go.Proofs.Ytfknibjejnmghaa

namespace Go.Proofs.Ytfknibjejnmghaa

theorem Tiled.le {xs : List Int} : ∀ (l : List Sg) (a : Nat) (sk : Bool), Tiled xs a sk l → l.length + a ≤ xs.length ∧ skipN l + a ≤ xs.length ∧ ∀ s ∈ l, a ≤ s.frm ∧ 1 ≤ s.n ∧ s.frm + s.n ≤ xs.length
  | [], a, _, h => by
    have h' : a = xs.length := h
    simp [skipN, h']
  | s :: l, a, sk, h => by
    obtain ⟨h1, h2, h3, _, _, _, h7⟩ := h
    obtain ⟨i1, i2, i3⟩ := Tiled.le l (a + s.n) _ h7
    refine ⟨by simp only [List.length_cons]; omega, by simp only [skipN]; split <;> omega, fun x hx => ?_⟩
    rcases List.mem_cons.1 hx with rfl | hx
    · omega
    · have := i3 x hx
      omega
theorem PartsS.le {xs : List Int} {l : List Sg} (hx : ∀ x ∈ xs, 0 ≤ x ∧ x < 256) (h : PartsS xs 0 l) : l.length ≤ xs.length ∧ skipN l ≤ xs.length ∧ ∀ s ∈ l, 1 ≤ s.n ∧ s.frm + s.n ≤ xs.length := by
  obtain ⟨h1, h2, h3⟩ := Tiled.le l 0 _ (h.tiled hx (Nat.zero_le _))
  exact ⟨by omega, by omega, fun s hs => (h3 s hs).2⟩
theorem skipN_take (l : List Sg) (k : Nat) : skipN (l.take k) ≤ skipN l := by
  have h : skipN l = skipN (l.take k) + skipN (l.drop k) := by rw [← skipN_append, List.take_append_drop]
  omega
theorem skipN_step {l : List Sg} {k : Nat} {s : Sg} (h : l[k]? = some s) : skipN (l.take (k + 1)) = skipN (l.take k) + if s.isf then 0 else s.n := by
  rw [List.take_add_one, h, skipN_append]
  simp [skipN]
end Go.Proofs.Ytfknibjejnmghaa
