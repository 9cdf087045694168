/-
  The payload of points in plain lists; what points that are of a signature bound; what block's calls answer. No program here.
-/
import Derived.Test.YtlmpicfhbpnpbaaPlainDict
import Derived.Test.YtlmpicfhbpnpbaaPlains
namespace Go.Proofs.Ytlmpicfhbpnpbaa

/-! Numbers' bytes. -/
theorem encI_mono : ∀ (k m n : Nat), n < k → m ≤ n → (encI m).length ≤ (encI n).length
  | 0, _, _, h, _ => by omega
  | k + 1, m, n, h, hm => by
    by_cases h1 : m < 128
    · rw [encI_small h1]
      by_cases h2 : n < 128
      · rw [encI_small h2]; simp
      · rw [encI_great h2]; simp
    · have h2 : ¬ n < 128 := by omega
      rw [encI_great h1, encI_great h2, List.length_cons, List.length_cons]
      have := encI_mono k (m / 128) (n / 128) (by omega) (by omega)
      omega
theorem encI_one_at_least (n : Nat) : 1 ≤ (encI n).length := by
  by_cases h : n < 128
  · rw [encI_small h]; simp
  · rw [encI_great h]; simp
/-- What stands behind the first number of bytes. -/
def tailI : List Int → List Int
  | [] => []
  | x :: xs => if x < 128 then xs else tailI xs
theorem tailI_enc : ∀ (k n : Nat) (ys : List Int), n < k → tailI (encI n ++ ys) = ys
  | 0, _, _, h => by omega
  | k + 1, n, ys, h => by
    by_cases h1 : n < 128
    · rw [encI_small h1]
      show (if (n : Int) < 128 then ys else _) = ys
      rw [if_pos (by omega)]
    · rw [encI_great h1]
      show (if (n : Int) % 128 + 128 < 128 then _ else tailI (encI (n / 128) ++ ys)) = ys
      rw [if_neg (by omega)]
      exact tailI_enc k (n / 128) ys (by omega)

/-! Points. -/
def tmAt (l : List Pm) (i : Nat) : Int := match l[i]? with
  | some p => p.tm
  | none => 0
def evsAt (l : List Pm) (i : Nat) : List Em := match l[i]? with
  | some p => p.evs
  | none => []
theorem tmAt_of {l : List Pm} {i : Nat} {p : Pm} (h : l[i]? = some p) : tmAt l i = p.tm := by unfold tmAt; rw [h]
theorem evsAt_of {l : List Pm} {i : Nat} {p : Pm} (h : l[i]? = some p) : evsAt l i = p.evs := by unfold evsAt; rw [h]
/-- What is put of an argument. -/
def argN (D : List (List Int)) (a : Ag) : Nat := if a.t = 1 then (foldI a.n).toNat else (placeD D a.s).toNat
def argsB (D : List (List Int)) (l : List Ag) : List Int := l.flatMap fun a => encI (argN D a)
def evB (D : List (List Int)) (e : Em) : List Int := encI e.p.toNat ++ argsB D e.args
def evlB (D : List (List Int)) (l : List Em) : List Int := l.flatMap (evB D)
def evsB (D : List (List Int)) (l : List Em) : List Int := encI l.length ++ evlB D l
def stepN (l : List Pm) (i : Nat) : Nat := (tmAt l i - tmAt l (i - 1)).toNat
def ptB (D : List (List Int)) (l : List Pm) (i : Nat) : List Int := (if 0 < i then encI (stepN l i) else []) ++ evsB D (evsAt l i)
def ptsB (D : List (List Int)) (l : List Pm) (k : Nat) : List Int := (List.range k).flatMap (ptB D l)
def dictB (D : List (List Int)) : List Int := encI D.length ++ catT D
def headB (l : List Pm) : List Int := encI l.length ++ dictB (addT [] l) ++ ptsB (addT [] l) l l.length
/-- The payload of points. -/
def payB (l : List Pm) : List Int := encI (tmAt l 0).toNat ++ headB l
theorem ptsB_zero (D : List (List Int)) (l : List Pm) : ptsB D l 0 = [] := rfl
theorem ptsB_succ (D : List (List Int)) (l : List Pm) (k : Nat) : ptsB D l (k + 1) = ptsB D l k ++ ptB D l k := by simp [ptsB, List.range_succ]
theorem argsB_succ {D : List (List Int)} {l : List Ag} {k : Nat} {a : Ag} (h : l[k]? = some a) : argsB D (l.take (k + 1)) = argsB D (l.take k) ++ encI (argN D a) := by rw [take_one h]; simp [argsB]
theorem evlB_succ {D : List (List Int)} {l : List Em} {k : Nat} {e : Em} (h : l[k]? = some e) : evlB D (l.take (k + 1)) = evlB D (l.take k) ++ evB D e := by rw [take_one h]; simp [evlB]

/-! What a trace that is of a signature bounds. -/
structure AOk (a : Ag) : Prop where
  kind : a.t = 1 ∨ a.t = 2
  len : a.s.length ≤ 200
  fits : a.Fits
structure EOk (e : Em) : Prop where
  low : 0 ≤ e.p
  high : e.p < 64
  few : e.args.length ≤ 8
  args : ∀ a ∈ e.args, AOk a
structure POk (p : Pm) : Prop where
  fits : p.Fits
  few : p.evs.length ≤ 1024
  evs : ∀ e ∈ p.evs, EOk e
structure BOk (l : List Pm) : Prop where
  few : l.length ≤ 1024
  pts : ∀ p ∈ l, POk p
  ord : ∀ i p q, l[i]? = some p → l[i + 1]? = some q → p.tm ≤ q.tm
theorem BOk.take {l : List Pm} (h : BOk l) (n : Nat) : BOk (l.take n) :=
  ⟨by rw [List.length_take]; have := h.few; omega, fun p hp => h.pts p (List.mem_of_mem_take hp), fun i p q h1 h2 => by
    rw [List.getElem?_take] at h1 h2
    split at h2
    · rename_i hlt
      rw [if_pos (by omega)] at h1
      exact h.ord i p q h1 h2
    · cases h2⟩
theorem argN_lt {D : List (List Int)} {a : Ag} (h : AOk a) (hD : D.length ≤ 1000000000) : argN D a < 18446744073709551616 := by
  unfold argN
  split
  · obtain ⟨_, _, _, h1, h2⟩ := h.fits
    obtain ⟨q1, q2⟩ := foldI_range h1 h2
    omega
  · rcases placeD_ways D a.s with ⟨q, _⟩ | ⟨j, h0, q, _⟩
    · rw [q]; decide
    · rw [q]; omega
theorem argsB_len {D : List (List Int)} (hD : D.length ≤ 1000000000) : ∀ (l : List Ag), (∀ a ∈ l, AOk a) → (argsB D l).length ≤ 10 * l.length
  | [], _ => by simp [argsB]
  | a :: l, h => by
    have h1 := argsB_len hD l (fun b hb => h b (List.mem_cons_of_mem _ hb))
    have h2 := (encI_ten (argN_lt (D := D) (h a (List.mem_cons_self ..)) hD)).2
    simp only [argsB, List.flatMap_cons, List.length_append, List.length_cons] at h1 ⊢
    omega
theorem evB_len {D : List (List Int)} (hD : D.length ≤ 1000000000) {e : Em} (h : EOk e) : (evB D e).length ≤ 90 := by
  have h1 := argsB_len hD e.args h.args
  have h2 := (encI_ten (n := e.p.toNat) (by have := h.high; omega)).2
  have := h.few
  simp only [evB, List.length_append]
  omega
theorem evlB_len {D : List (List Int)} (hD : D.length ≤ 1000000000) : ∀ (l : List Em), (∀ e ∈ l, EOk e) → (evlB D l).length ≤ 90 * l.length
  | [], _ => by simp [evlB]
  | a :: l, h => by
    have h1 := evlB_len hD l (fun b hb => h b (List.mem_cons_of_mem _ hb))
    have h2 := evB_len hD (h a (List.mem_cons_self ..))
    simp only [evlB, List.flatMap_cons, List.length_append, List.length_cons] at h1 ⊢
    omega
theorem evsB_len {D : List (List Int)} (hD : D.length ≤ 1000000000) {p : Pm} (h : POk p) : 1 ≤ (evsB D p.evs).length ∧ (evsB D p.evs).length ≤ 92170 := by
  have h1 := evlB_len hD p.evs h.evs
  have h2 := (encI_ten (n := p.evs.length) (by have := h.few; omega)).2
  have h3 := encI_one_at_least p.evs.length
  have := h.few
  simp only [evsB, List.length_append]
  omega
theorem stepN_lt {l : List Pm} (h : ∀ p ∈ l, POk p) (i : Nat) : stepN l i < 18446744073709551616 := by
  have key : ∀ j, 0 ≤ tmAt l j ∧ tmAt l j < 18446744073709551616 := fun j => by
    unfold tmAt
    cases hj : l[j]? with
    | none => exact ⟨Int.le_refl _, by decide⟩
    | some p => exact (h p (List.mem_of_getElem? hj)).fits
  have h1 := key i
  have h2 := key (i - 1)
  unfold stepN
  omega
theorem ptB_len {D : List (List Int)} (hD : D.length ≤ 1000000000) {l : List Pm} (h : ∀ p ∈ l, POk p) {i : Nat} (hi : i < l.length) : 1 ≤ (ptB D l i).length ∧ (ptB D l i).length ≤ 92180 := by
  have h1 := evsB_len hD (h _ (List.getElem_mem hi))
  rw [← evsAt_of (List.getElem?_eq_getElem hi)] at h1
  have h2 := (encI_ten (stepN_lt h i)).2
  simp only [ptB, List.length_append]
  split
  · omega
  · simp; omega
theorem ptsB_len {D : List (List Int)} (hD : D.length ≤ 1000000000) {l : List Pm} (h : ∀ p ∈ l, POk p) : ∀ k, k ≤ l.length → (ptsB D l k).length ≤ 92180 * k
  | 0, _ => by simp [ptsB]
  | k + 1, hk => by
    have h1 := ptsB_len hD h k (by omega)
    have h2 := (ptB_len hD h (i := k) (by omega)).2
    rw [ptsB_succ, List.length_append]
    omega
theorem nA_le : ∀ l : List Em, (∀ e ∈ l, EOk e) → nA l ≤ 8 * l.length
  | [], _ => by simp [nA]
  | e :: l, h => by
    have h1 := nA_le l (fun b hb => h b (List.mem_cons_of_mem _ hb))
    have h2 := (h e (List.mem_cons_self ..)).few
    simp only [nA, List.foldr_cons, List.length_cons] at h1 ⊢
    omega
theorem nT_le : ∀ l : List Pm, (∀ p ∈ l, POk p) → nT l ≤ 8192 * l.length
  | [], _ => by simp [nT]
  | p :: l, h => by
    have h1 := nT_le l (fun b hb => h b (List.mem_cons_of_mem _ hb))
    have h2 := nA_le p.evs (h p (List.mem_cons_self ..)).evs
    have h3 := (h p (List.mem_cons_self ..)).few
    simp only [nT, List.foldr_cons, List.length_cons] at h1 ⊢
    omega
/-- Texts of at most 200 bytes. -/
def Tx200 (L : List (List Int)) : Prop := ∀ t ∈ L, t.length ≤ 200 ∧ ∀ x ∈ t, 0 ≤ x ∧ x < 256
theorem addA_200 : ∀ (l : List Ag) (L : List (List Int)), Tx200 L → (∀ a ∈ l, AOk a) → Tx200 (addA L l)
  | [], _, h, _ => h
  | a :: l, L, h, hl => by
    refine addA_200 l (stepA L a) ?_ (fun b hb => hl b (List.mem_cons_of_mem _ hb))
    have ha := hl a (List.mem_cons_self ..)
    unfold stepA
    split
    · intro t ht
      rcases putD_mem ht with h1 | rfl
      · exact h t h1
      · exact ⟨ha.len, ha.fits.2.1⟩
    · exact h
theorem addE_200 : ∀ (l : List Em) (L : List (List Int)), Tx200 L → (∀ e ∈ l, EOk e) → Tx200 (addE L l)
  | [], _, h, _ => h
  | e :: l, L, h, hl => addE_200 l (addA L e.args) (addA_200 _ _ h (hl e (List.mem_cons_self ..)).args) (fun b hb => hl b (List.mem_cons_of_mem _ hb))
theorem addT_200 : ∀ (l : List Pm) (L : List (List Int)), Tx200 L → (∀ p ∈ l, POk p) → Tx200 (addT L l)
  | [], _, h, _ => h
  | p :: l, L, h, hl => addT_200 l (addE L p.evs) (addE_200 _ _ h (hl p (List.mem_cons_self ..)).evs) (fun b hb => hl b (List.mem_cons_of_mem _ hb))
theorem BOk.dict {l : List Pm} (h : BOk l) : (addT [] l).length ≤ 8388608 ∧ Tx200 (addT [] l) := by
  have h1 := (addT_ok l []).high
  have h2 := nT_le l h.pts
  have h3 := h.few
  simp only [List.length_nil] at h1
  exact ⟨by omega, addT_200 l [] (fun t ht => by simp at ht) h.pts⟩
theorem dictB_len {D : List (List Int)} (h1 : D.length ≤ 8388608) (h2 : Tx200 D) : (dictB D).length ≤ 1761607690 := by
  have h3 := (encI_ten (n := D.length) (by omega)).2
  have h4 := catT_le 200 (by decide) D (fun t ht => (h2 t ht).1)
  simp only [dictB, List.length_append]
  omega
theorem headB_len {l : List Pm} (h : BOk l) : (headB l).length ≤ 1856000020 := by
  obtain ⟨h1, h2⟩ := h.dict
  have h3 := dictB_len h1 h2
  have h4 := ptsB_len (D := addT [] l) (by omega) h.pts l.length (Nat.le_refl _)
  have h5 := (encI_ten (n := l.length) (by have := h.few; omega)).2
  have := h.few
  simp only [headB, List.length_append]
  omega
theorem payB_len {l : List Pm} (h : BOk l) : (payB l).length ≤ 1856000030 := by
  have h1 := headB_len h
  have h2 : (encI (tmAt l 0).toNat).length ≤ 10 := by
    refine (encI_ten ?_).2
    unfold tmAt
    cases hj : l[0]? with
    | none => decide
    | some p => have := (h.pts p (List.mem_of_getElem? hj)).fits; unfold Pm.Fits at this; dsimp only; omega
  simp only [payB, List.length_append]
  omega

/-! A point more. -/
theorem stepA_more (L : List (List Int)) (a : Ag) : ∃ X, stepA L a = L ++ X := by
  unfold stepA putD
  split
  · split
    · exact ⟨_, rfl⟩
    · exact ⟨[], by simp⟩
  · exact ⟨[], by simp⟩
theorem addA_more : ∀ (l : List Ag) (L : List (List Int)), ∃ X, addA L l = L ++ X
  | [], L => ⟨[], by simp [addA]⟩
  | a :: l, L => by
    obtain ⟨X, hX⟩ := stepA_more L a
    obtain ⟨Y, hY⟩ := addA_more l (stepA L a)
    exact ⟨X ++ Y, by rw [show addA L (a :: l) = addA (stepA L a) l from rfl, hY, hX, List.append_assoc]⟩
theorem addE_more : ∀ (l : List Em) (L : List (List Int)), ∃ X, addE L l = L ++ X
  | [], L => ⟨[], by simp [addE]⟩
  | a :: l, L => by
    obtain ⟨X, hX⟩ := addA_more a.args L
    obtain ⟨Y, hY⟩ := addE_more l (addA L a.args)
    exact ⟨X ++ Y, by rw [show addE L (a :: l) = addE (addA L a.args) l from rfl, hY, hX, List.append_assoc]⟩
theorem addT_more : ∀ (l : List Pm) (L : List (List Int)), ∃ X, addT L l = L ++ X
  | [], L => ⟨[], by simp [addT]⟩
  | a :: l, L => by
    obtain ⟨X, hX⟩ := addE_more a.evs L
    obtain ⟨Y, hY⟩ := addT_more l (addE L a.evs)
    exact ⟨X ++ Y, by rw [show addT L (a :: l) = addT (addE L a.evs) l from rfl, hY, hX, List.append_assoc]⟩
theorem placeF_more (x : List Int) (X : List (List Int)) : ∀ (D : List (List Int)) (k : Nat), x ∈ D → placeF x (D ++ X) k = placeF x D k
  | [], _, h => by simp at h
  | t :: D, k, h => by
    simp only [List.cons_append, placeF]
    split
    · rfl
    · rename_i hne
      exact placeF_more x X D (k + 1) ((List.mem_cons.1 h).resolve_left (Ne.symm hne))
theorem argN_more {D X : List (List Int)} {a : Ag} (h : a.t = 2 → a.s ∈ D) (hk : a.t = 1 ∨ a.t = 2) : argN (D ++ X) a = argN D a := by
  unfold argN
  split
  · rfl
  · rename_i h1
    unfold placeD
    rw [placeF_more a.s X D 0 (h (hk.resolve_left h1))]
theorem putD_has {D : List (List Int)} {x : List Int} : x ∈ (putD D x).1 := by
  rcases placeD_ways D x with ⟨h1, h2⟩ | ⟨j, _, h1, h2, _⟩
  · rw [putD_new h1]; simp
  · rw [putD_old h1]; exact List.mem_of_getElem? h2
theorem addA_has : ∀ (l : List Ag) (L : List (List Int)), ∀ a ∈ l, a.t = 2 → a.s ∈ addA L l
  | [], _, a, h, _ => by simp at h
  | b :: l, L, a, h, ht => by
    rw [show addA L (b :: l) = addA (stepA L b) l from rfl]
    rcases List.mem_cons.1 h with rfl | h
    · obtain ⟨X, hX⟩ := addA_more l (stepA L a)
      rw [hX, stepA, if_pos ht]
      exact List.mem_append.2 (.inl putD_has)
    · exact addA_has l _ a h ht
theorem addE_has : ∀ (l : List Em) (L : List (List Int)), ∀ e ∈ l, ∀ a ∈ e.args, a.t = 2 → a.s ∈ addE L l
  | [], _, e, h, _, _, _ => by simp at h
  | b :: l, L, e, h, a, ha, ht => by
    rw [show addE L (b :: l) = addE (addA L b.args) l from rfl]
    rcases List.mem_cons.1 h with rfl | h
    · obtain ⟨X, hX⟩ := addE_more l (addA L e.args)
      rw [hX]
      exact List.mem_append.2 (.inl (addA_has _ _ a ha ht))
    · exact addE_has l _ e h a ha ht
theorem addT_has : ∀ (l : List Pm) (L : List (List Int)), ∀ p ∈ l, ∀ e ∈ p.evs, ∀ a ∈ e.args, a.t = 2 → a.s ∈ addT L l
  | [], _, p, h, _, _, _, _, _ => by simp at h
  | b :: l, L, p, h, e, he, a, ha, ht => by
    rw [show addT L (b :: l) = addT (addE L b.evs) l from rfl]
    rcases List.mem_cons.1 h with rfl | h
    · obtain ⟨X, hX⟩ := addT_more l (addE L p.evs)
      rw [hX]
      exact List.mem_append.2 (.inl (addE_has _ _ e he a ha ht))
    · exact addT_has l _ p h e he a ha ht
theorem flatMap_same {α β : Type} {f g : α → List β} {l : List α} (h : ∀ a ∈ l, f a = g a) : l.flatMap f = l.flatMap g := by
  induction l with
  | nil => rfl
  | cons a l ih => rw [List.flatMap_cons, List.flatMap_cons, h a (List.mem_cons_self ..), ih fun b hb => h b (List.mem_cons_of_mem _ hb)]
theorem evsB_more {D X : List (List Int)} {l : List Em} (h : ∀ e ∈ l, ∀ a ∈ e.args, (a.t = 2 → a.s ∈ D) ∧ (a.t = 1 ∨ a.t = 2)) : evsB (D ++ X) l = evsB D l := by
  unfold evsB evlB
  rw [flatMap_same (g := evB D) fun e he => ?_]
  unfold evB argsB
  rw [flatMap_same (g := fun a => encI (argN D a)) fun a ha => ?_]
  rw [argN_more (h e he a ha).1 (h e he a ha).2]
theorem payB_longer {l : List Pm} (h : BOk l) {n : Nat} (h1 : 1 ≤ n) (hn : n < l.length) : (payB (l.take n)).length < (payB (l.take (n + 1))).length := by
  obtain ⟨p, hp⟩ : ∃ p, l[n]? = some p := ⟨_, List.getElem?_eq_getElem hn⟩
  have hT : addT [] (l.take (n + 1)) = addE (addT [] (l.take n)) p.evs := addT_succ hp
  obtain ⟨X, hX⟩ := addE_more p.evs (addT [] (l.take n))
  have hat : ∀ i, i < n → (l.take n)[i]? = l[i]? ∧ (l.take (n + 1))[i]? = l[i]? := fun i hi => ⟨by rw [List.getElem?_take, if_pos hi], by rw [List.getElem?_take, if_pos (by omega)]⟩
  have htm : ∀ i, i < n → tmAt (l.take (n + 1)) i = tmAt (l.take n) i := fun i hi => by unfold tmAt; rw [(hat i hi).1, (hat i hi).2]
  have hev : ∀ i, i < n → evsAt (l.take (n + 1)) i = evsAt (l.take n) i := fun i hi => by unfold evsAt; rw [(hat i hi).1, (hat i hi).2]
  have hl1 : (l.take n).length = n := by rw [List.length_take]; omega
  have hl2 : (l.take (n + 1)).length = n + 1 := by rw [List.length_take]; omega
  have hB := h.take n
  have hpt : ∀ i, i < n → ptB (addT [] (l.take (n + 1))) (l.take (n + 1)) i = ptB (addT [] (l.take n)) (l.take n) i := fun i hi => by
    obtain ⟨q, hq⟩ : ∃ q, (l.take n)[i]? = some q := ⟨_, List.getElem?_eq_getElem (by omega)⟩
    have hm := List.mem_of_getElem? hq
    unfold ptB stepN
    rw [hev i hi, htm i hi, htm (i - 1) (by omega), hT, hX, evsAt_of hq, evsB_more fun e he a ha => ⟨addT_has _ _ q hm e he a ha, (((hB.pts q hm).evs e he).args a ha).kind⟩]
  have hpts : ∀ k, k ≤ n → ptsB (addT [] (l.take (n + 1))) (l.take (n + 1)) k = ptsB (addT [] (l.take n)) (l.take n) k := fun k => by
    induction k with
    | zero => intro _; rfl
    | succ k ih => intro hk; rw [ptsB_succ, ptsB_succ, ih (by omega), hpt k (by omega)]
  have hlast := (ptB_len (D := addT [] (l.take (n + 1))) (by have := ((h.take (n + 1)).dict).1; omega) (h.take (n + 1)).pts (i := n) (by omega)).1
  unfold payB headB
  rw [htm 0 (by omega), hl1, hl2, ptsB_succ, hpts n (Nat.le_refl _)]
  generalize ptB (addT [] (l.take (n + 1))) (l.take (n + 1)) n = P at hlast ⊢
  rw [hT, hX]
  have m1 := encI_mono (n + 2) n (n + 1) (by omega) (by omega)
  have m2 := encI_mono ((addT [] (l.take n) ++ X).length + 1) (addT [] (l.take n)).length (addT [] (l.take n) ++ X).length (by omega) (by simp)
  simp only [dictB, catT, List.flatMap_append, List.length_append] at m2 ⊢
  omega

/-! All times later. -/
def laterP (d : Int) (p : Pm) : Pm := { p with tm := (p.tm + d) % 18446744073709551616 }
theorem addT_later (d : Int) : ∀ (l : List Pm) (L : List (List Int)), addT L (l.map (laterP d)) = addT L l
  | [], _ => rfl
  | p :: l, L => addT_later d l (addE L p.evs)
theorem later_at {d : Int} {l : List Pm} {i : Nat} {p : Pm} (h : l[i]? = some p) : (l.map (laterP d))[i]? = some (laterP d p) := by rw [List.getElem?_map, h]; rfl
/-- Times don't fall: none is above the last one's. -/
theorem ord_last {l : List Pm} (h : ∀ i p q, l[i]? = some p → l[i + 1]? = some q → p.tm ≤ q.tm) : ∀ (k i : Nat) (p q : Pm), l[i]? = some p → l[i + k]? = some q → p.tm ≤ q.tm
  | 0, i, p, q, h1, h2 => by
    rw [Nat.add_zero, h1] at h2
    cases h2
    exact Int.le_refl _
  | k + 1, i, p, q, h1, h2 => by
    have hlt := (List.getElem?_eq_some_iff.1 h2).1
    obtain ⟨r, hr⟩ : ∃ r, l[i + 1]? = some r := ⟨_, List.getElem?_eq_getElem (by omega)⟩
    exact Int.le_trans (h i p r h1 hr) (ord_last h k (i + 1) r q hr (by rw [show i + 1 + k = i + (k + 1) by omega]; exact h2))
theorem headB_later {l : List Pm} {d : Int} (hd : 0 ≤ d ∧ d ≤ 4611686018427387904) (hf : ∀ p ∈ l, p.Fits) (ho : ∀ i p q, l[i]? = some p → l[i + 1]? = some q → p.tm ≤ q.tm) (hl : ∀ p, l[l.length - 1]? = some p → p.tm ≤ 9223372036854775808) : headB (l.map (laterP d)) = headB l := by
  have hsmall : ∀ (i : Nat) (p : Pm), l[i]? = some p → p.tm ≤ 9223372036854775808 ∧ 0 ≤ p.tm := fun i p hi => by
    have hlt := (List.getElem?_eq_some_iff.1 hi).1
    obtain ⟨q, hq⟩ : ∃ q, l[l.length - 1]? = some q := ⟨_, List.getElem?_eq_getElem (by omega)⟩
    have := ord_last ho (l.length - 1 - i) i p q hi (by rw [show i + (l.length - 1 - i) = l.length - 1 by omega]; exact hq)
    have := hl q hq
    have := (hf p (List.mem_of_getElem? hi)).1
    omega
  have htm : ∀ (i : Nat) (p : Pm), l[i]? = some p → tmAt (l.map (laterP d)) i = tmAt l i + d := fun i p hi => by
    have := hsmall i p hi
    rw [tmAt_of (later_at hi), tmAt_of hi]
    show (p.tm + d) % 18446744073709551616 = _
    rw [Int.emod_eq_of_lt (by omega) (by omega)]
  have hpt : ∀ D i, i < l.length → ptB D (l.map (laterP d)) i = ptB D l i := fun D i hi => by
    obtain ⟨p, hp⟩ : ∃ p, l[i]? = some p := ⟨_, List.getElem?_eq_getElem hi⟩
    obtain ⟨q, hq⟩ : ∃ q, l[i - 1]? = some q := ⟨_, List.getElem?_eq_getElem (by omega)⟩
    unfold ptB stepN
    rw [evsAt_of (later_at hp), evsAt_of hp, htm i p hp, htm (i - 1) q hq, show tmAt l i + d - (tmAt l (i - 1) + d) = tmAt l i - tmAt l (i - 1) by omega]
    rfl
  unfold headB
  rw [addT_later, List.length_map]
  congr 1
  unfold ptsB
  exact flatMap_same fun i hi => hpt _ i (List.mem_range.1 hi)
theorem tail_pay (l : List Pm) : tailI (payB l) = headB l := tailI_enc _ _ _ (Nat.lt_succ_self _)
theorem catT_take_le (L : List (List Int)) (k : Nat) : (catT (L.take k)).length ≤ (catT L).length := by
  have h : catT L = catT (L.take k) ++ catT (L.drop k) := by unfold catT; rw [← List.flatMap_append, List.take_append_drop]
  rw [h, List.length_append]
  omega
theorem flatMap_take_le {α β : Type} (f : α → List β) (l : List α) (k : Nat) : ((l.take k).flatMap f).length ≤ (l.flatMap f).length := by
  have h : l.flatMap f = (l.take k).flatMap f ++ (l.drop k).flatMap f := by rw [← List.flatMap_append, List.take_append_drop]
  rw [h, List.length_append]
  omega
theorem placeD_in {L : List (List Int)} {s : List Int} (h : s ∈ L) : placeD L s = ((placeD L s).toNat : Int) := by
  rcases placeD_ways L s with ⟨_, h1⟩ | ⟨j, _, h1, _⟩
  · exact absurd h h1
  · rw [h1]; rfl
#print axioms payB_longer
#print axioms headB_later
#print axioms payB_len
end Go.Proofs.Ytlmpicfhbpnpbaa

namespace Go.Proofs.Ytlmpicfhbpnpbaa

theorem whyG_zero {t : Int} {a : Ag} (h : whyG t a = 0) : a.t = t ∧ a.s.length ≤ 200 := by
  unfold whyG at h
  split at h
  · cases h
  · rename_i h1
    refine ⟨by simpa using h1, ?_⟩
    split at h
    · cases h
    · split at h
      · cases h
      · split at h
        · cases h
        · omega
theorem eok_of {sig : List Pr} (hs : checkP sig = 0) {e : Em} (h : eventT sig e.e = 0) (hf : ∀ a ∈ e.args, a.Fits) : EOk e := by
  obtain ⟨h1, h2⟩ := checkP_zero.1 hs
  by_cases hp : e.p < 0 ∨ (sig.length : Int) ≤ e.p
  · rw [eventT_name hp] at h
    cases h
  · obtain ⟨p, hp'⟩ : ∃ p, sig[e.p.toNat]? = some p := ⟨_, List.getElem?_eq_getElem (by omega)⟩
    obtain ⟨_, _, o1, o2⟩ := h2 _ p hp'
    rw [eventT_has (k := e.p.toNat) (by show e.p = _; omega) hp'] at h
    split at h
    · cases h
    · rename_i hl
      have hl : e.args.length = p.args.length := by simpa using hl
      refine ⟨by omega, by omega, by omega, fun a ha => ?_⟩
      obtain ⟨i, hi⟩ := List.mem_iff_getElem?.1 ha
      have hil := (List.getElem?_eq_some_iff.1 hi).1
      have hw := firstWhy_zero _ _ h i (Nat.zero_le _) (by show i < 0 + e.args.length; omega)
      rw [show e.e.args.getD i default = a from getD_of hi] at hw
      obtain ⟨w1, w2⟩ := whyG_zero hw
      have ht := o2 (p.args.getD i 0) (by rw [List.getD, List.getElem?_eq_getElem (by omega)]; exact List.getElem_mem (by omega))
      exact ⟨by omega, w2, hf a ha⟩
/-- What points that are of a signature are. -/
theorem bok_of {sig : List Pr} {l : List Pm} (h : (checkT sig (l.map (·.p))).1 = 0) (hlen : l.length ≤ 1024) (hf : ∀ p ∈ l, p.Fits ∧ ∀ e ∈ p.evs, ∀ a ∈ e.args, a.Fits) : BOk l := by
  obtain ⟨hs, hw⟩ := checkT_zero.1 h
  have hat : ∀ (i : Nat) (p : Pm), l[i]? = some p → (l.map (·.p)).getD i default = p.p := fun i p hi => getD_of (at_pn hi)
  have hE : ∀ (i : Nat) (p : Pm), l[i]? = some p → ¬ (0 < i ∧ p.tm < ((l.map (·.p)).getD (i - 1) default).tm) ∧ whyE sig (p.evs.map (·.e)) = 0 := fun i p hi => by
    have hil := (List.getElem?_eq_some_iff.1 hi).1
    have := hw i (by rw [List.length_map]; exact hil)
    unfold whyT at this
    rw [hat i p hi] at this
    split at this
    · cases this
    · rename_i h1
      exact ⟨h1, this⟩
  refine ⟨hlen, fun p hp => ?_, fun i p q h1 h2 => ?_⟩
  · obtain ⟨i, hi⟩ := List.mem_iff_getElem?.1 hp
    have h1 := (hE i p hi).2
    unfold whyE at h1
    split at h1
    · cases h1
    · rename_i hl
      rw [List.length_map] at hl h1
      refine ⟨(hf p hp).1, by omega, fun e he => ?_⟩
      obtain ⟨k, hk⟩ := List.mem_iff_getElem?.1 he
      have hkl := (List.getElem?_eq_some_iff.1 hk).1
      have := firstWhy_zero _ _ h1 k (Nat.zero_le _) (by omega)
      rw [getD_of (at_ev hk)] at this
      exact eok_of hs this ((hf p hp).2 e he)
  · have := (hE (i + 1) q h2).1
    rw [Nat.add_sub_cancel, hat i p h1] at this
    have : ¬ q.tm < p.tm := fun h => this ⟨Nat.succ_pos i, h⟩
    omega

/-- Why points have no payload, however long; 0. -/
def checkB (sig : List Pr) (l : List Pm) : Int := if l.length = 0 then 1 else if (checkT sig (l.map (·.p))).1 ≠ 0 then (checkT sig (l.map (·.p))).1 else if 1024 < l.length then 6 else 0
def wholeB (sig : List Pr) (l : List Pm) : List Int × Int := if checkB sig l = 0 then (payB l, 0) else ([], checkB sig l)
def putB (sig : List Pr) (l : List Pm) : List Int × Int := if checkB sig l = 0 then (if 4096 < (payB l).length then ([], 6) else (payB l, 0)) else ([], checkB sig l)
theorem checkB_zero {sig : List Pr} {l : List Pm} (h : checkB sig l = 0) : 0 < l.length ∧ (checkT sig (l.map (·.p))).1 = 0 ∧ l.length ≤ 1024 := by
  unfold checkB at h
  split at h
  · cases h
  · split at h
    · rename_i h2
      exact absurd h h2
    · rename_i h1 h2
      split at h
      · cases h
      · exact ⟨by omega, by simpa using h2, by omega⟩
theorem TrRow.fits {w : World} {B : Nat} {v : Value} {l : List Pm} (h : TrRow w B v l) : ∀ p ∈ l, p.Fits ∧ ∀ e ∈ p.evs, ∀ a ∈ e.args, a.Fits := fun p hp => ⟨(h.2 p hp).2, fun e he a ha => ((h.2 p hp).1.2 e he).1.2 a ha⟩
theorem TrRow.bok {w : World} {B : Nat} {v : Value} {l : List Pm} {sig : List Pr} (h : TrRow w B v l) (hc : checkB sig l = 0) : BOk l := by
  obtain ⟨_, h1, h2⟩ := checkB_zero hc
  exact bok_of h1 h2 h.fits
theorem argsB_byte {D : List (List Int)} (hD : D.length ≤ 1000000000) {l : List Ag} (h : ∀ a ∈ l, AOk a) : ∀ x ∈ argsB D l, 0 ≤ x ∧ x < 256 := fun x hx => by
  obtain ⟨a, ha, hx⟩ := List.mem_flatMap.1 hx
  exact encI_bytes (argN_lt (D := D) (h a ha) hD) x hx
theorem evsB_byte {D : List (List Int)} (hD : D.length ≤ 1000000000) {p : Pm} (h : POk p) : ∀ x ∈ evsB D p.evs, 0 ≤ x ∧ x < 256 := fun x hx => by
  rcases List.mem_append.1 hx with hx | hx
  · exact encI_bytes (by have := h.few; omega) x hx
  · obtain ⟨e, he, hx⟩ := List.mem_flatMap.1 hx
    rcases List.mem_append.1 hx with hx | hx
    · exact encI_bytes (by have := (h.evs e he).high; omega) x hx
    · exact argsB_byte hD (h.evs e he).args x hx
theorem payB_bytes {l : List Pm} (h : BOk l) : ∀ x ∈ payB l, 0 ≤ x ∧ x < 256 := fun x hx => by
  obtain ⟨h1, h2⟩ := h.dict
  have htm : (tmAt l 0).toNat < 18446744073709551616 := by
    unfold tmAt
    cases hj : l[0]? with
    | none => decide
    | some p => have := (h.pts p (List.mem_of_getElem? hj)).fits; unfold Pm.Fits at this; dsimp only; omega
  simp only [payB, headB, dictB, List.mem_append] at hx
  rcases hx with hx | (hx | hx | hx) | hx
  · exact encI_bytes htm x hx
  · exact encI_bytes (by have := h.few; omega) x hx
  · exact encI_bytes (by omega) x hx
  · obtain ⟨t, ht, hx⟩ := List.mem_flatMap.1 hx
    exact encT_bytes (by have := (h2 t ht).1; omega) (h2 t ht).2 x hx
  · obtain ⟨i, hi, hx⟩ := List.mem_flatMap.1 hx
    have hi := List.mem_range.1 hi
    rcases List.mem_append.1 hx with hx | hx
    · split at hx
      · exact encI_bytes (stepN_lt h.pts i) x hx
      · simp at hx
    · rw [evsAt_of (List.getElem?_eq_getElem hi)] at hx
      exact evsB_byte (by omega) (h.pts _ (List.getElem_mem hi)) x hx
theorem putB_ok {sig : List Pr} {l : List Pm} (h : (putB sig l).2 = 0) : checkB sig l = 0 ∧ (payB l).length ≤ 4096 ∧ putB sig l = (payB l, 0) := by
  unfold putB at h
  split at h
  · rename_i h1
    split at h
    · cases h
    · rename_i h2
      exact ⟨h1, by omega, by rw [putB, if_pos h1, if_neg h2]⟩
  · rename_i h1
    exact absurd h h1
#print axioms payB_bytes
#print axioms bok_of
end Go.Proofs.Ytlmpicfhbpnpbaa
