/-
  Frames in plain numbers: a frame's bytes, the frame that bytes begin with; there and back, one way; turned bits are told. No program here, but for what the sums' text bears.
-/
import Derived.Test.YtbbmblodabojeaaPlainBlob
import Derived.Test.YtbbmblodabojeaaPlainCur
import Derived.Test.YtbbmblodabojeaaCrcRef
namespace Go.Proofs.Ytbbmblodabojeaa

/-- What a frame begins with. -/
def markL : List Int := [199, 84, 71, 1]
/-- Why bytes don't begin with it. -/
def markI : List Int → List Int → Int
  | [], _ => 0
  | _ :: _, [] => 2
  | m :: ms, x :: xs => if x = m then markI ms xs else 4
/-- A frame from its kind on, without its sum. -/
def bodyL (k : Int) (p : List Int) : List Int := k :: encT p
/-- A frame's bytes. -/
def encFr (k : Int) (p : List Int) : List Int := markL ++ (bodyL k p ++ le4 (sumX (bodyL k p)))
/-- No frame, and why. -/
def noFr (e : Int) : (Int × List Int) × Nat × Int := ((0, []), 0, e)
/-- The frame behind its kind. -/
def getBody (k : Int) (ys : List Int) : (Int × List Int) × Nat × Int :=
  if (getI ys).2.2 ≠ 0 then noFr (getI ys).2.2
  else if 4096 < (getI ys).1 then noFr 6
  else if ys.length < (getI ys).2.1 + (getI ys).1.toNat + 4 then noFr 2
  else if (ys.drop ((getI ys).2.1 + (getI ys).1.toNat)).take 4 ≠ le4 (sumX (k :: ys.take ((getI ys).2.1 + (getI ys).1.toNat))) then noFr 5
  else ((k, (ys.drop (getI ys).2.1).take (getI ys).1.toNat), 9 + (getI ys).2.1 + (getI ys).1.toNat, 0)
/-- The frame that bytes begin with, how many bytes it has, the error. -/
def getFr (xs : List Int) : (Int × List Int) × Nat × Int :=
  if markI markL xs ≠ 0 then noFr (markI markL xs)
  else match xs.drop 4 with
    | [] => noFr 2
    | k :: ys => if k = 1 ∨ k = 2 then getBody k ys else noFr 4

theorem markI_mark (rest : List Int) : markI markL (markL ++ rest) = 0 := by simp [markI, markL]
theorem markI_back {xs : List Int} (h : markI markL xs = 0) : xs = markL ++ xs.drop 4 := by
  match xs with
  | [] => simp [markI, markL] at h
  | [a] =>
    simp only [markI, markL] at h
    split at h <;> simp at h
  | [a, b] =>
    simp only [markI, markL] at h
    split at h
    · split at h <;> simp at h
    · simp at h
  | [a, b, c] =>
    simp only [markI, markL] at h
    split at h
    · split at h
      · split at h <;> simp at h
      · simp at h
    · simp at h
  | a :: b :: c :: d :: r =>
    simp only [markI, markL] at h
    split at h
    · split at h
      · split at h
        · split at h
          · subst_vars; rfl
          · simp at h
        · simp at h
      · simp at h
    · simp at h
theorem markI_cut {c : Nat} (hc : c < 4) (rest : List Int) : markI markL ((markL ++ rest).take c) = 2 := by
  rcases (by omega : c = 0 ∨ c = 1 ∨ c = 2 ∨ c = 3) with rfl | rfl | rfl | rfl <;> simp [markI, markL]
theorem markI_vals : ∀ (ms xs : List Int), markI ms xs = 0 ∨ markI ms xs = 2 ∨ markI ms xs = 4
  | [], _ => by simp [markI]
  | _ :: _, [] => by simp [markI]
  | m :: ms, x :: xs => by
    simp only [markI]
    split
    · exact markI_vals ms xs
    · simp

theorem getFr_mark (rest : List Int) : getFr (markL ++ rest) = match rest with | [] => noFr 2 | k :: ys => if k = 1 ∨ k = 2 then getBody k ys else noFr 4 := by
  unfold getFr
  rw [if_neg (by rw [markI_mark]; simp), show (markL ++ rest).drop 4 = rest by simp [markL]]
theorem getBody_err {k er : Int} {ys : List Int} (h : (getI ys).2.2 = er) (hne : er ≠ 0) : getBody k ys = noFr er := by
  unfold getBody
  rw [if_pos (by rw [h]; exact hne), h]
theorem getBody_limit {k : Int} {ys : List Int} {n s : Nat} (h : getI ys = ((n : Int), s, 0)) (hl : 4096 < n) : getBody k ys = noFr 6 := by
  unfold getBody
  rw [h, if_neg (by simp), if_pos (by simp only; omega)]
theorem getBody_short {k : Int} {ys : List Int} {n s : Nat} (h : getI ys = ((n : Int), s, 0)) (hl : n ≤ 4096) (hs : ys.length < s + n + 4) : getBody k ys = noFr 2 := by
  unfold getBody
  rw [h, if_neg (by simp), if_neg (by simp only; omega), if_pos (by simp only [Int.toNat_natCast]; exact hs)]
theorem getBody_sum {k : Int} {ys : List Int} {n s : Nat} (h : getI ys = ((n : Int), s, 0)) (hl : n ≤ 4096) (hs : ¬ ys.length < s + n + 4) (hne : (ys.drop (s + n)).take 4 ≠ le4 (sumX (k :: ys.take (s + n)))) : getBody k ys = noFr 5 := by
  unfold getBody
  rw [h, if_neg (by simp), if_neg (by simp only; omega), if_neg (by simp only [Int.toNat_natCast]; exact hs), if_pos (by simp only [Int.toNat_natCast]; exact hne)]
theorem getBody_ok {k : Int} {ys : List Int} {n s : Nat} (h : getI ys = ((n : Int), s, 0)) (hl : n ≤ 4096) (hs : ¬ ys.length < s + n + 4) (he : (ys.drop (s + n)).take 4 = le4 (sumX (k :: ys.take (s + n)))) : getBody k ys = ((k, (ys.drop s).take n), 9 + s + n, 0) := by
  unfold getBody
  rw [h, if_neg (by simp), if_neg (by simp only; omega), if_neg (by simp only [Int.toNat_natCast]; exact hs), if_neg (by simp only [Int.toNat_natCast]; exact fun hn => hn he)]
  simp only [Int.toNat_natCast]

theorem encFr_length (k : Int) (p : List Int) : (encFr k p).length = 9 + (encI p.length).length + p.length := by
  simp only [encFr, markL, bodyL, encT, le4, List.length_append, List.length_cons, List.length_nil]
  omega

/-- Bytes whose parts are known. -/
theorem getFr_parts {k : Int} {p s4 : List Int} (hk : k = 1 ∨ k = 2) (hp : p.length ≤ 4096) (hs : s4.length = 4) (rest : List Int) :
    getFr (markL ++ (bodyL k p ++ (s4 ++ rest))) = if s4 = le4 (sumX (bodyL k p)) then ((k, p), 9 + (encI p.length).length + p.length, 0) else noFr 5 := by
  rw [getFr_mark]
  have hg : getI (encT p ++ (s4 ++ rest)) = ((p.length : Int), (encI p.length).length, 0) := by
    rw [encT, List.append_assoc]
    exact getI_enc (by omega) _
  have hlen : (encT p ++ (s4 ++ rest)).length = (encI p.length).length + p.length + 4 + rest.length := by
    simp only [encT, List.length_append]; omega
  have hdrop : (encT p ++ (s4 ++ rest)).drop ((encI p.length).length + p.length) = s4 ++ rest := by
    rw [← encT_length, List.drop_left]
  have htake : (encT p ++ (s4 ++ rest)).take ((encI p.length).length + p.length) = encT p := by
    rw [← encT_length, List.take_left]
  have h4 : (s4 ++ rest).take 4 = s4 := by rw [← hs, List.take_left]
  by_cases he : s4 = le4 (sumX (bodyL k p))
  · rw [if_pos he]
    simp only [bodyL, List.cons_append] at he ⊢
    rw [if_pos hk, getBody_ok hg hp (by omega) (by rw [hdrop, htake, h4]; exact he)]
    congr 2
    rw [encT, List.append_assoc, List.drop_left, List.take_left]
  · rw [if_neg he]
    simp only [bodyL, List.cons_append] at he ⊢
    rw [if_pos hk, getBody_sum hg hp (by omega) (by rw [hdrop, htake, h4]; exact he)]

/-- There and back, with whatever behind. -/
theorem getFr_enc {k : Int} {p : List Int} (hk : k = 1 ∨ k = 2) (hp : p.length ≤ 4096) (rest : List Int) : getFr (encFr k p ++ rest) = ((k, p), (encFr k p).length, 0) := by
  rw [encFr_length, encFr, List.append_assoc, List.append_assoc, getFr_parts hk hp rfl, if_pos rfl]

/-- Cut off anywhere. -/
theorem getFr_cut {k : Int} {p : List Int} {c : Nat} (hk : k = 1 ∨ k = 2) (hp : p.length ≤ 4096) (hc : c < (encFr k p).length) : getFr ((encFr k p).take c) = noFr 2 := by
  rw [encFr_length] at hc
  by_cases h4 : c < 4
  · unfold getFr
    rw [encFr, if_pos (by rw [markI_cut h4]; simp), markI_cut h4]
  · obtain ⟨m, rfl⟩ : ∃ m, c = 4 + m := ⟨c - 4, by omega⟩
    have e : (encFr k p).take (4 + m) = markL ++ (bodyL k p ++ le4 (sumX (bodyL k p))).take m := by
      rw [encFr, show 4 = markL.length from rfl, List.take_length_add_append]
    rw [e, getFr_mark]
    cases m with
    | zero => simp
    | succ m =>
      simp only [bodyL, List.cons_append, List.take_succ_cons]
      rw [if_pos hk]
      generalize sumX (k :: encT p) = sm
      by_cases hm : m < (encI p.length).length
      · have e2 : (encT p ++ le4 sm).take m = (encI p.length).take m := by
          rw [encT, List.append_assoc, List.take_append_of_le_length (by omega)]
        rw [e2]
        exact getBody_err (by rw [getI_cut (by omega) hm]) (by omega)
      · have e2 : (encT p ++ le4 sm).take m = encI p.length ++ (p ++ le4 sm).take (m - (encI p.length).length) := by
          rw [encT, List.append_assoc, List.take_append, List.take_of_length_le (by omega)]
        rw [e2]
        refine getBody_short (getI_enc (by omega) _) hp ?_
        simp only [List.length_append, List.length_take, le4, List.length_cons, List.length_nil]
        omega

/-- What is read has just the bytes that it was read from. -/
theorem getFr_back (xs : List Int) (hb : ∀ x ∈ xs, 0 ≤ x ∧ x < 256) (h : (getFr xs).2.2 = 0) :
    ((getFr xs).1.1 = 1 ∨ (getFr xs).1.1 = 2) ∧ (getFr xs).1.2.length ≤ 4096 ∧ (getFr xs).2.1 ≤ xs.length ∧ encFr (getFr xs).1.1 (getFr xs).1.2 = xs.take (getFr xs).2.1 ∧ (∀ x ∈ (getFr xs).1.2, 0 ≤ x ∧ x < 256) := by
  by_cases hm : markI markL xs = 0
  · have hx := markI_back hm
    have hb2 : ∀ x ∈ xs.drop 4, 0 ≤ x ∧ x < 256 := fun x hx => hb x (List.mem_of_mem_drop hx)
    generalize xs.drop 4 = r at hx hb2
    subst hx
    rw [getFr_mark] at h ⊢
    cases r with
    | nil => simp [noFr] at h
    | cons k ys =>
      simp only at h ⊢
      by_cases hk : k = 1 ∨ k = 2
      · rw [if_pos hk] at h ⊢
        have hby : ∀ x ∈ ys, 0 ≤ x ∧ x < 256 := fun x hx => hb2 x (by simp [hx])
        by_cases he : (getI ys).2.2 = 0
        · obtain ⟨n, s, hg, h1, h2, h3, h4, h5⟩ := getI_ok ys hby he
          by_cases hl : 4096 < n
          · rw [getBody_limit hg hl] at h; simp [noFr] at h
          · by_cases hs : ys.length < s + n + 4
            · rw [getBody_short hg (by omega) hs] at h; simp [noFr] at h
            · by_cases hq : (ys.drop (s + n)).take 4 = le4 (sumX (k :: ys.take (s + n)))
              · rw [getBody_ok hg (by omega) hs hq]
                have hlen : ((ys.drop s).take n).length = n := by simp; omega
                have henc : encT ((ys.drop s).take n) = ys.take (s + n) := by rw [encT, hlen, h4, ← List.take_add]
                refine ⟨hk, by simp only; omega, by simp [markL]; omega, ?_, fun x hx => hby x (List.mem_of_mem_drop (List.mem_of_mem_take hx))⟩
                have e3 : ys.take (s + n + 4) = ys.take (s + n) ++ (ys.drop (s + n)).take 4 := List.take_add
                simp only [encFr, bodyL, henc]
                rw [← hq, show 9 + s + n = 4 + (s + n + 4 + 1) by omega, show 4 = markL.length from rfl, List.take_length_add_append, List.take_succ_cons, show markL.length = 4 from rfl, e3, List.cons_append]
              · rw [getBody_sum hg (by omega) hs hq] at h; simp [noFr] at h
        · rw [getBody_err rfl he] at h; simp [noFr] at h; exact absurd h he
      · rw [if_neg hk] at h; simp [noFr] at h
  · unfold getFr at h
    rw [if_pos hm] at h
    exact absurd h hm
theorem getFr_none (xs : List Int) (h : (getFr xs).2.2 ≠ 0) : getFr xs = noFr (getFr xs).2.2 := by
  unfold getFr at h ⊢
  split
  · rfl
  · rename_i hm
    rw [if_neg hm] at h
    cases hr : xs.drop 4 with
    | nil => rfl
    | cons k ys =>
      rw [hr] at h
      simp only at h ⊢
      split
      · rename_i hk
        rw [if_pos hk] at h
        unfold getBody at h ⊢
        split
        · rfl
        · split
          · rfl
          · split
            · rfl
            · split
              · rfl
              · rename_i a b c d
                rw [if_neg a, if_neg b, if_neg c, if_neg d] at h
                exact absurd rfl h
      · rfl

/-! Turned bits. -/
theorem big_le4 {n : Nat} (hn : n < 4294967296) : big (toN (le4 n)) = n := by
  simp only [toN, le4, List.map_cons, List.map_nil, big]
  omega
/-- From this state on, a frame's bytes all lead to one state. -/
theorem state_frame (k : Int) (p : List Int) (hk : k = 1 ∨ k = 2) (hb : ∀ x ∈ p, 0 ≤ x ∧ x < 256) (hp : p.length ≤ 4096) : stateI 2472649125 (toN (encFr k p)) = it 32 4294967295 := by
  have hbody : ∀ x ∈ bodyL k p, 0 ≤ x ∧ x < 256 := by
    intro x hx
    simp only [bodyL, encT, List.mem_cons, List.mem_append] at hx
    rcases hx with rfl | hx | hx
    · omega
    · exact encI_bytes (by omega) x hx
    · exact hb x hx
  have hs := sumX_lt hbody
  have hbig := big_le4 hs
  have hst : stateI 2472649125 (toN markL) = 4294967295 := by decide +kernel
  rw [encFr, toN_append, toN_append, state_append, state_append, hst, state_big _ _ (toN_byte (le4_byte hs)), toN_length, le4_length, hbig]
  unfold sumX sumI
  generalize stateI 4294967295 (toN (bodyL k p)) = t
  rw [Nat.xor_comm 4294967295 t, ← Nat.xor_assoc, Nat.xor_self, Nat.zero_xor]

/-- A frame some bits of whose payload or sum are turned isn't read. -/
theorem getFr_told {k : Int} {p zs : List Int} {first turn : Nat} (hk : k = 1 ∨ k = 2) (hb : ∀ x ∈ p, 0 ≤ x ∧ x < 256) (hp : p.length ≤ 4096) (hl : zs.length = (encFr k p).length) (hz : ∀ x ∈ zs, 0 ≤ x ∧ x < 256)
    (hfront : zs.take (5 + (encI p.length).length) = (encFr k p).take (5 + (encI p.length).length)) (ht : turn < 4294967296) (h0 : 0 < turn) (hf : first ≤ 8 * (encFr k p).length)
    (hbig : big (toN zs) = big (toN (encFr k p)) ^^^ (2 ^ first * turn)) : getFr zs = noFr 5 := by
  have hlen := encFr_length k p
  have hfr : (encFr k p).take (5 + (encI p.length).length) = markL ++ k :: encI p.length := by
    rw [encFr, show 5 + (encI p.length).length = markL.length + ((encI p.length).length + 1) by simp [markL]; omega, List.take_length_add_append, bodyL, encT, List.cons_append, List.take_succ_cons, List.append_assoc, List.take_left]
  obtain ⟨p', hp'⟩ : ∃ p', p' = (zs.drop (5 + (encI p.length).length)).take p.length := ⟨_, rfl⟩
  obtain ⟨s4, hs4⟩ : ∃ s4, s4 = (zs.drop (5 + (encI p.length).length)).drop p.length := ⟨_, rfl⟩
  have hpl : p'.length = p.length := by rw [hp']; simp; omega
  have hsl : s4.length = 4 := by rw [hs4]; simp; omega
  have hzs : zs = markL ++ (bodyL k p' ++ (s4 ++ [])) := by
    conv => lhs; rw [← List.take_append_drop (5 + (encI p.length).length) zs, hfront, hfr, ← List.take_append_drop p.length (zs.drop (5 + (encI p.length).length)), ← hp', ← hs4]
    simp [bodyL, encT, hpl]
  have hbp' : ∀ x ∈ p', 0 ≤ x ∧ x < 256 := fun x hx => hz x (by rw [hp'] at hx; exact List.mem_of_mem_drop (List.mem_of_mem_take hx))
  have hne : s4 ≠ le4 (sumX (bodyL k p')) := by
    intro he
    have hzf : zs = encFr k p' := by rw [hzs, encFr, ← he, List.append_nil]
    have e1 := state_frame k p' hk hbp' (by omega)
    have e2 := state_frame k p hk hb hp
    rw [← hzf] at e1
    have hbe : ∀ x ∈ encFr k p, 0 ≤ x ∧ x < 256 := by
      intro x hx
      simp only [encFr, bodyL, encT, List.mem_cons, List.mem_append] at hx
      rcases hx with hx | (rfl | hx | hx) | hx
      · simp only [markL, List.mem_cons, List.not_mem_nil, or_false] at hx
        omega
      · omega
      · exact encI_bytes (by omega) x hx
      · exact hb x hx
      · refine le4_byte (sumX_lt ?_) x hx
        intro x hx
        simp only [List.mem_cons, List.mem_append] at hx
        rcases hx with rfl | hx | hx
        · omega
        · exact encI_bytes (by omega) x hx
        · exact hb x hx
    exact state_told (n := 2472649125) (by rw [toN_length, toN_length, hl]) (toN_byte hbe) (toN_byte hz) ht h0 (by rw [toN_length]; exact hf) hbig (e2.trans e1.symm)
  rw [hzs, getFr_parts hk (by omega) hsl, if_neg hne]
#print axioms getFr_told
#print axioms getFr_back
end Go.Proofs.Ytbbmblodabojeaa
