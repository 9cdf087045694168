/-
  What the theorem of ReadRight rests on, part 4 of 12.
-/
import Derived.Test.YtimihhcidbeonaaGreatRows
import Derived.WalkKit
import Derived.WalkSpells
import Derived.Lib.Hide
import Derived.Deep.RegionHeld3
import Derived.Deep.LoopGhost
import Derived.Deep.QuietTactic
import Derived.BigQuiet
import Derived.Test.YtimihhcidbeonaaGreatReadRightZ3
namespace Go.Proofs.YtimihhcidbeonaaGreat
open Go.RowKit Go.Shelf
set_option maxHeartbeats 1000000 in
/-- blob.Put: b, and the text's bytes behind, in new memory. -/
theorem bput_any (A : Option Addr) (c : Nat) (xs : List Int) (s : List Int) (hs : ∀ x ∈ s, 0 ≤ x ∧ x < 256) (hsm : xs.length ≤ 1000000000) (hsl : s.length ≤ 1000000000) (w : World) (hrow : Row w w.heap.size (.slice A xs.length c) xs) :
    Calls Tryz.prog 62 #[.slice A xs.length c, .string (strOfNums s)] w fun e W' => ∃ v, e = .returned v ∧ W'.ownsRow w.heap.size 5 1 v (xs.length + (encT s).length) ((xs ++ encT s).map (.int .u8)) ∧ Below w.heap.size w W' := by
  have hn : s.length < 18446744073709551616 := by omega
  obtain ⟨l1, l2⟩ := encI_ten hn
  obtain ⟨i0, hi, hz0, hz1, hz2⟩ := info_parts Tryz.infoU8
  have hp := put_any A c xs s.length hn (by omega) w hrow
  have hss : (strOfNums s).size = s.length := strOfNums_size s
  have hcs := strCells_nums s hs
  have HP := Lib.hid hp; clear hp hrow
  have HCS := Lib.hid hcs; clear hcs
  have HET := Lib.hid (encT_length s)
  go_enter Tryz.func62, Tryz.ntmps62
  go_wp2_with fail
  refine HP.out.mono ?_
  rintro e w1 ⟨v1, rfl, hown1, hb1⟩
  have hsz1 := hb1.size
  go_wp2_with (at_builtin; refine Lib.wpList_append_own_string _ rfl _ _ 23 9 rfl w.heap.size 5 i0 Tryz.underlying23 Tryz.underlying9 hi hz0 hz1 hz2 _ _ _ rfl hown1 (strOfNums s) rfl (by rw [hss]; simp only [maxLen]; omega) (by rw [hss]; omega) hsz1 ?_; intro v2 w2 hown2 hg2 hn2)
  go_ret
  refine ⟨v2, rfl, ?_, hb1.grown hg2 hsz1 (fun j ej => (hown1.lt j ej).1)⟩
  rw [HCS.out, hss, ← List.map_append, List.append_assoc] at hown2
  rw [HET.out, ← Nat.add_assoc]
  exact hown2
end Go.Proofs.YtimihhcidbeonaaGreat

namespace Go.Proofs.YtimihhcidbeonaaGreat
open Go.RowKit
theorem fold_any (x : Int) (h1 : -9223372036854775808 ≤ x) (h2 : x ≤ 9223372036854775807) (w : World) :
    Calls Tryz.prog 163 #[.int .i64 x] w fun e w' => e = .returned (.int .u64 (foldI x)) ∧ w = w' := by
  by_cases hx : x < 0
  · have e1 : foldI x = 2 * (-1 - x) + 1 := by unfold foldI; rw [if_pos hx]
    have E1 := Lib.hid e1; clear e1
    go_enter Tryz.func163, Tryz.ntmps163
    go_wp2
    go_ret
    exact ⟨by rw [E1.out]; rfl, rfl⟩
  · have e1 : foldI x = 2 * x := by unfold foldI; rw [if_neg hx]
    have E1 := Lib.hid e1; clear e1
    go_enter Tryz.func163, Tryz.ntmps163
    go_wp2
    go_ret
    exact ⟨by rw [E1.out]; rfl, rfl⟩
end Go.Proofs.YtimihhcidbeonaaGreat

namespace Go.Proofs.YtimihhcidbeonaaGreat
theorem encI_one_at_least (n : Nat) : 1 ≤ (encI n).length := by
  by_cases h : n < 128
  · rw [encI_small h]; simp
  · rw [encI_great h]; simp
def tmAt (l : List Pm) (i : Nat) : Int := match l[i]? with
  | some p => p.tm
  | none => 0
def evsAt (l : List Pm) (i : Nat) : List Em := match l[i]? with
  | some p => p.evs
  | none => []
theorem tmAt_of {l : List Pm} {i : Nat} {p : Pm} (h : l[i]? = some p) : tmAt l i = p.tm := by unfold tmAt; rw [h]
theorem evsAt_of {l : List Pm} {i : Nat} {p : Pm} (h : l[i]? = some p) : evsAt l i = p.evs := by unfold evsAt; rw [h]
/-- What is put of an argument. -/
def argN (D : List (List Int)) (a : Ag) : Nat := if a.t = 1 then (foldI a.n).toNat else (placeD D a.s).toNat
def argsB (D : List (List Int)) (l : List Ag) : List Int := l.flatMap fun a => encI (argN D a)
def evB (D : List (List Int)) (e : Em) : List Int := encI e.p.toNat ++ argsB D e.args
def evlB (D : List (List Int)) (l : List Em) : List Int := l.flatMap (evB D)
def evsB (D : List (List Int)) (l : List Em) : List Int := encI l.length ++ evlB D l
def stepN (l : List Pm) (i : Nat) : Nat := (tmAt l i - tmAt l (i - 1)).toNat
def ptB (D : List (List Int)) (l : List Pm) (i : Nat) : List Int := (if 0 < i then encI (stepN l i) else []) ++ evsB D (evsAt l i)
def ptsB (D : List (List Int)) (l : List Pm) (k : Nat) : List Int := (List.range k).flatMap (ptB D l)
def dictB (D : List (List Int)) : List Int := encI D.length ++ catT D
def headB (l : List Pm) : List Int := encI l.length ++ dictB (addT [] l) ++ ptsB (addT [] l) l l.length
/-- The payload of points. -/
def payB (l : List Pm) : List Int := encI (tmAt l 0).toNat ++ headB l
theorem ptsB_succ (D : List (List Int)) (l : List Pm) (k : Nat) : ptsB D l (k + 1) = ptsB D l k ++ ptB D l k := by simp [ptsB, List.range_succ]
theorem argsB_succ {D : List (List Int)} {l : List Ag} {k : Nat} {a : Ag} (h : l[k]? = some a) : argsB D (l.take (k + 1)) = argsB D (l.take k) ++ encI (argN D a) := by rw [take_one h]; simp [argsB]
theorem evlB_succ {D : List (List Int)} {l : List Em} {k : Nat} {e : Em} (h : l[k]? = some e) : evlB D (l.take (k + 1)) = evlB D (l.take k) ++ evB D e := by rw [take_one h]; simp [evlB]
structure AOk (a : Ag) : Prop where
  kind : a.t = 1 ∨ a.t = 2
  len : a.s.length ≤ 200
  fits : a.Fits
structure EOk (e : Em) : Prop where
  low : 0 ≤ e.p
  high : e.p < 64
  few : e.args.length ≤ 8
  args : ∀ a ∈ e.args, AOk a
structure POk (p : Pm) : Prop where
  fits : p.Fits
  few : p.evs.length ≤ 1024
  evs : ∀ e ∈ p.evs, EOk e
structure BOk (l : List Pm) : Prop where
  few : l.length ≤ 1024
  pts : ∀ p ∈ l, POk p
  ord : ∀ i p q, l[i]? = some p → l[i + 1]? = some q → p.tm ≤ q.tm
theorem argN_lt {D : List (List Int)} {a : Ag} (h : AOk a) (hD : D.length ≤ 1000000000) : argN D a < 18446744073709551616 := by
  unfold argN
  split
  · obtain ⟨_, _, _, h1, h2⟩ := h.fits
    obtain ⟨q1, q2⟩ := foldI_range h1 h2
    omega
  · rcases placeD_ways D a.s with ⟨q, _⟩ | ⟨j, h0, q, _⟩
    · rw [q]; decide
    · rw [q]; omega
theorem argsB_len {D : List (List Int)} (hD : D.length ≤ 1000000000) : ∀ (l : List Ag), (∀ a ∈ l, AOk a) → (argsB D l).length ≤ 10 * l.length
  | [], _ => by simp [argsB]
  | a :: l, h => by
    have h1 := argsB_len hD l (fun b hb => h b (List.mem_cons_of_mem _ hb))
    have h2 := (encI_ten (argN_lt (D := D) (h a (List.mem_cons_self ..)) hD)).2
    simp only [argsB, List.flatMap_cons, List.length_append, List.length_cons] at h1 ⊢
    omega
theorem evB_len {D : List (List Int)} (hD : D.length ≤ 1000000000) {e : Em} (h : EOk e) : (evB D e).length ≤ 90 := by
  have h1 := argsB_len hD e.args h.args
  have h2 := (encI_ten (n := e.p.toNat) (by have := h.high; omega)).2
  have := h.few
  simp only [evB, List.length_append]
  omega
theorem evlB_len {D : List (List Int)} (hD : D.length ≤ 1000000000) : ∀ (l : List Em), (∀ e ∈ l, EOk e) → (evlB D l).length ≤ 90 * l.length
  | [], _ => by simp [evlB]
  | a :: l, h => by
    have h1 := evlB_len hD l (fun b hb => h b (List.mem_cons_of_mem _ hb))
    have h2 := evB_len hD (h a (List.mem_cons_self ..))
    simp only [evlB, List.flatMap_cons, List.length_append, List.length_cons] at h1 ⊢
    omega
theorem evsB_len {D : List (List Int)} (hD : D.length ≤ 1000000000) {p : Pm} (h : POk p) : 1 ≤ (evsB D p.evs).length ∧ (evsB D p.evs).length ≤ 92170 := by
  have h1 := evlB_len hD p.evs h.evs
  have h2 := (encI_ten (n := p.evs.length) (by have := h.few; omega)).2
  have h3 := encI_one_at_least p.evs.length
  have := h.few
  simp only [evsB, List.length_append]
  omega
theorem stepN_lt {l : List Pm} (h : ∀ p ∈ l, POk p) (i : Nat) : stepN l i < 18446744073709551616 := by
  have key : ∀ j, 0 ≤ tmAt l j ∧ tmAt l j < 18446744073709551616 := fun j => by
    unfold tmAt
    cases hj : l[j]? with
    | none => exact ⟨Int.le_refl _, by decide⟩
    | some p => exact (h p (List.mem_of_getElem? hj)).fits
  have h1 := key i
  have h2 := key (i - 1)
  unfold stepN
  omega
theorem ptB_len {D : List (List Int)} (hD : D.length ≤ 1000000000) {l : List Pm} (h : ∀ p ∈ l, POk p) {i : Nat} (hi : i < l.length) : 1 ≤ (ptB D l i).length ∧ (ptB D l i).length ≤ 92180 := by
  have h1 := evsB_len hD (h _ (List.getElem_mem hi))
  rw [← evsAt_of (List.getElem?_eq_getElem hi)] at h1
  have h2 := (encI_ten (stepN_lt h i)).2
  simp only [ptB, List.length_append]
  split
  · omega
  · simp; omega
theorem ptsB_len {D : List (List Int)} (hD : D.length ≤ 1000000000) {l : List Pm} (h : ∀ p ∈ l, POk p) : ∀ k, k ≤ l.length → (ptsB D l k).length ≤ 92180 * k
  | 0, _ => by simp [ptsB]
  | k + 1, hk => by
    have h1 := ptsB_len hD h k (by omega)
    have h2 := (ptB_len hD h (i := k) (by omega)).2
    rw [ptsB_succ, List.length_append]
    omega
theorem nA_le : ∀ l : List Em, (∀ e ∈ l, EOk e) → nA l ≤ 8 * l.length
  | [], _ => by simp [nA]
  | e :: l, h => by
    have h1 := nA_le l (fun b hb => h b (List.mem_cons_of_mem _ hb))
    have h2 := (h e (List.mem_cons_self ..)).few
    simp only [nA, List.foldr_cons, List.length_cons] at h1 ⊢
    omega
theorem nT_le : ∀ l : List Pm, (∀ p ∈ l, POk p) → nT l ≤ 8192 * l.length
  | [], _ => by simp [nT]
  | p :: l, h => by
    have h1 := nT_le l (fun b hb => h b (List.mem_cons_of_mem _ hb))
    have h2 := nA_le p.evs (h p (List.mem_cons_self ..)).evs
    have h3 := (h p (List.mem_cons_self ..)).few
    simp only [nT, List.foldr_cons, List.length_cons] at h1 ⊢
    omega
/-- Texts of at most 200 bytes. -/
def Tx200 (L : List (List Int)) : Prop := ∀ t ∈ L, t.length ≤ 200 ∧ ∀ x ∈ t, 0 ≤ x ∧ x < 256
theorem addA_200 : ∀ (l : List Ag) (L : List (List Int)), Tx200 L → (∀ a ∈ l, AOk a) → Tx200 (addA L l)
  | [], _, h, _ => h
  | a :: l, L, h, hl => by
    refine addA_200 l (stepA L a) ?_ (fun b hb => hl b (List.mem_cons_of_mem _ hb))
    have ha := hl a (List.mem_cons_self ..)
    unfold stepA
    split
    · intro t ht
      rcases putD_mem ht with h1 | rfl
      · exact h t h1
      · exact ⟨ha.len, ha.fits.2.1⟩
    · exact h
theorem addE_200 : ∀ (l : List Em) (L : List (List Int)), Tx200 L → (∀ e ∈ l, EOk e) → Tx200 (addE L l)
  | [], _, h, _ => h
  | e :: l, L, h, hl => addE_200 l (addA L e.args) (addA_200 _ _ h (hl e (List.mem_cons_self ..)).args) (fun b hb => hl b (List.mem_cons_of_mem _ hb))
theorem addT_200 : ∀ (l : List Pm) (L : List (List Int)), Tx200 L → (∀ p ∈ l, POk p) → Tx200 (addT L l)
  | [], _, h, _ => h
  | p :: l, L, h, hl => addT_200 l (addE L p.evs) (addE_200 _ _ h (hl p (List.mem_cons_self ..)).evs) (fun b hb => hl b (List.mem_cons_of_mem _ hb))
theorem BOk.dict {l : List Pm} (h : BOk l) : (addT [] l).length ≤ 8388608 ∧ Tx200 (addT [] l) := by
  have h1 := (addT_ok l []).high
  have h2 := nT_le l h.pts
  have h3 := h.few
  simp only [List.length_nil] at h1
  exact ⟨by omega, addT_200 l [] (fun t ht => by simp at ht) h.pts⟩
theorem dictB_len {D : List (List Int)} (h1 : D.length ≤ 8388608) (h2 : Tx200 D) : (dictB D).length ≤ 1761607690 := by
  have h3 := (encI_ten (n := D.length) (by omega)).2
  have h4 := catT_le 200 (by decide) D (fun t ht => (h2 t ht).1)
  simp only [dictB, List.length_append]
  omega
theorem headB_len {l : List Pm} (h : BOk l) : (headB l).length ≤ 1856000020 := by
  obtain ⟨h1, h2⟩ := h.dict
  have h3 := dictB_len h1 h2
  have h4 := ptsB_len (D := addT [] l) (by omega) h.pts l.length (Nat.le_refl _)
  have h5 := (encI_ten (n := l.length) (by have := h.few; omega)).2
  have := h.few
  simp only [headB, List.length_append]
  omega
theorem payB_len {l : List Pm} (h : BOk l) : (payB l).length ≤ 1856000030 := by
  have h1 := headB_len h
  have h2 : (encI (tmAt l 0).toNat).length ≤ 10 := by
    refine (encI_ten ?_).2
    unfold tmAt
    cases hj : l[0]? with
    | none => decide
    | some p => have := (h.pts p (List.mem_of_getElem? hj)).fits; unfold Pm.Fits at this; dsimp only; omega
  simp only [payB, List.length_append]
  omega
theorem stepA_more (L : List (List Int)) (a : Ag) : ∃ X, stepA L a = L ++ X := by
  unfold stepA putD
  split
  · split
    · exact ⟨_, rfl⟩
    · exact ⟨[], by simp⟩
  · exact ⟨[], by simp⟩
theorem addA_more : ∀ (l : List Ag) (L : List (List Int)), ∃ X, addA L l = L ++ X
  | [], L => ⟨[], by simp [addA]⟩
  | a :: l, L => by
    obtain ⟨X, hX⟩ := stepA_more L a
    obtain ⟨Y, hY⟩ := addA_more l (stepA L a)
    exact ⟨X ++ Y, by rw [show addA L (a :: l) = addA (stepA L a) l from rfl, hY, hX, List.append_assoc]⟩
theorem addE_more : ∀ (l : List Em) (L : List (List Int)), ∃ X, addE L l = L ++ X
  | [], L => ⟨[], by simp [addE]⟩
  | a :: l, L => by
    obtain ⟨X, hX⟩ := addA_more a.args L
    obtain ⟨Y, hY⟩ := addE_more l (addA L a.args)
    exact ⟨X ++ Y, by rw [show addE L (a :: l) = addE (addA L a.args) l from rfl, hY, hX, List.append_assoc]⟩
theorem addT_more : ∀ (l : List Pm) (L : List (List Int)), ∃ X, addT L l = L ++ X
  | [], L => ⟨[], by simp [addT]⟩
  | a :: l, L => by
    obtain ⟨X, hX⟩ := addE_more a.evs L
    obtain ⟨Y, hY⟩ := addT_more l (addE L a.evs)
    exact ⟨X ++ Y, by rw [show addT L (a :: l) = addT (addE L a.evs) l from rfl, hY, hX, List.append_assoc]⟩
theorem putD_has {D : List (List Int)} {x : List Int} : x ∈ (putD D x).1 := by
  rcases placeD_ways D x with ⟨h1, h2⟩ | ⟨j, _, h1, h2, _⟩
  · rw [putD_new h1]; simp
  · rw [putD_old h1]; exact List.mem_of_getElem? h2
theorem addA_has : ∀ (l : List Ag) (L : List (List Int)), ∀ a ∈ l, a.t = 2 → a.s ∈ addA L l
  | [], _, a, h, _ => by simp at h
  | b :: l, L, a, h, ht => by
    rw [show addA L (b :: l) = addA (stepA L b) l from rfl]
    rcases List.mem_cons.1 h with rfl | h
    · obtain ⟨X, hX⟩ := addA_more l (stepA L a)
      rw [hX, stepA, if_pos ht]
      exact List.mem_append.2 (.inl putD_has)
    · exact addA_has l _ a h ht
theorem addE_has : ∀ (l : List Em) (L : List (List Int)), ∀ e ∈ l, ∀ a ∈ e.args, a.t = 2 → a.s ∈ addE L l
  | [], _, e, h, _, _, _ => by simp at h
  | b :: l, L, e, h, a, ha, ht => by
    rw [show addE L (b :: l) = addE (addA L b.args) l from rfl]
    rcases List.mem_cons.1 h with rfl | h
    · obtain ⟨X, hX⟩ := addE_more l (addA L e.args)
      rw [hX]
      exact List.mem_append.2 (.inl (addA_has _ _ a ha ht))
    · exact addE_has l _ e h a ha ht
theorem addT_has : ∀ (l : List Pm) (L : List (List Int)), ∀ p ∈ l, ∀ e ∈ p.evs, ∀ a ∈ e.args, a.t = 2 → a.s ∈ addT L l
  | [], _, p, h, _, _, _, _, _ => by simp at h
  | b :: l, L, p, h, e, he, a, ha, ht => by
    rw [show addT L (b :: l) = addT (addE L b.evs) l from rfl]
    rcases List.mem_cons.1 h with rfl | h
    · obtain ⟨X, hX⟩ := addT_more l (addE L p.evs)
      rw [hX]
      exact List.mem_append.2 (.inl (addE_has _ _ e he a ha ht))
    · exact addT_has l _ p h e he a ha ht
theorem flatMap_same {α β : Type} {f g : α → List β} {l : List α} (h : ∀ a ∈ l, f a = g a) : l.flatMap f = l.flatMap g := by
  induction l with
  | nil => rfl
  | cons a l ih => rw [List.flatMap_cons, List.flatMap_cons, h a (List.mem_cons_self ..), ih fun b hb => h b (List.mem_cons_of_mem _ hb)]
theorem catT_take_le (L : List (List Int)) (k : Nat) : (catT (L.take k)).length ≤ (catT L).length := by
  have h : catT L = catT (L.take k) ++ catT (L.drop k) := by unfold catT; rw [← List.flatMap_append, List.take_append_drop]
  rw [h, List.length_append]
  omega
theorem flatMap_take_le {α β : Type} (f : α → List β) (l : List α) (k : Nat) : ((l.take k).flatMap f).length ≤ (l.flatMap f).length := by
  have h : l.flatMap f = (l.take k).flatMap f ++ (l.drop k).flatMap f := by rw [← List.flatMap_append, List.take_append_drop]
  rw [h, List.length_append]
  omega
theorem placeD_in {L : List (List Int)} {s : List Int} (h : s ∈ L) : placeD L s = ((placeD L s).toNat : Int) := by
  rcases placeD_ways L s with ⟨_, h1⟩ | ⟨j, _, h1, _⟩
  · exact absurd h h1
  · rw [h1]; rfl
end Go.Proofs.YtimihhcidbeonaaGreat
namespace Go.Proofs.YtimihhcidbeonaaGreat
theorem whyG_zero {t : Int} {a : Ag} (h : whyG t a = 0) : a.t = t ∧ a.s.length ≤ 200 := by
  unfold whyG at h
  split at h
  · cases h
  · rename_i h1
    refine ⟨by simpa using h1, ?_⟩
    split at h
    · cases h
    · split at h
      · cases h
      · split at h
        · cases h
        · omega
theorem eok_of {sig : List Pr} (hs : checkP sig = 0) {e : Em} (h : eventT sig e.e = 0) (hf : ∀ a ∈ e.args, a.Fits) : EOk e := by
  obtain ⟨h1, h2⟩ := checkP_zero.1 hs
  by_cases hp : e.p < 0 ∨ (sig.length : Int) ≤ e.p
  · rw [eventT_name hp] at h
    cases h
  · obtain ⟨p, hp'⟩ : ∃ p, sig[e.p.toNat]? = some p := ⟨_, List.getElem?_eq_getElem (by omega)⟩
    obtain ⟨_, _, o1, o2⟩ := h2 _ p hp'
    rw [eventT_has (k := e.p.toNat) (by show e.p = _; omega) hp'] at h
    split at h
    · cases h
    · rename_i hl
      have hl : e.args.length = p.args.length := by simpa using hl
      refine ⟨by omega, by omega, by omega, fun a ha => ?_⟩
      obtain ⟨i, hi⟩ := List.mem_iff_getElem?.1 ha
      have hil := (List.getElem?_eq_some_iff.1 hi).1
      have hw := firstWhy_zero _ _ h i (Nat.zero_le _) (by show i < 0 + e.args.length; omega)
      rw [show e.e.args.getD i default = a from getD_of hi] at hw
      obtain ⟨w1, w2⟩ := whyG_zero hw
      have ht := o2 (p.args.getD i 0) (by rw [List.getD, List.getElem?_eq_getElem (by omega)]; exact List.getElem_mem (by omega))
      exact ⟨by omega, w2, hf a ha⟩
/-- What points that are of a signature are. -/
theorem bok_of {sig : List Pr} {l : List Pm} (h : (checkT sig (l.map (·.p))).1 = 0) (hlen : l.length ≤ 1024) (hf : ∀ p ∈ l, p.Fits ∧ ∀ e ∈ p.evs, ∀ a ∈ e.args, a.Fits) : BOk l := by
  obtain ⟨hs, hw⟩ := checkT_zero.1 h
  have hat : ∀ (i : Nat) (p : Pm), l[i]? = some p → (l.map (·.p)).getD i default = p.p := fun i p hi => getD_of (at_pn hi)
  have hE : ∀ (i : Nat) (p : Pm), l[i]? = some p → ¬ (0 < i ∧ p.tm < ((l.map (·.p)).getD (i - 1) default).tm) ∧ whyE sig (p.evs.map (·.e)) = 0 := fun i p hi => by
    have hil := (List.getElem?_eq_some_iff.1 hi).1
    have := hw i (by rw [List.length_map]; exact hil)
    unfold whyT at this
    rw [hat i p hi] at this
    split at this
    · cases this
    · rename_i h1
      exact ⟨h1, this⟩
  refine ⟨hlen, fun p hp => ?_, fun i p q h1 h2 => ?_⟩
  · obtain ⟨i, hi⟩ := List.mem_iff_getElem?.1 hp
    have h1 := (hE i p hi).2
    unfold whyE at h1
    split at h1
    · cases h1
    · rename_i hl
      rw [List.length_map] at hl h1
      refine ⟨(hf p hp).1, by omega, fun e he => ?_⟩
      obtain ⟨k, hk⟩ := List.mem_iff_getElem?.1 he
      have hkl := (List.getElem?_eq_some_iff.1 hk).1
      have := firstWhy_zero _ _ h1 k (Nat.zero_le _) (by omega)
      rw [getD_of (at_ev hk)] at this
      exact eok_of hs this ((hf p hp).2 e he)
  · have := (hE (i + 1) q h2).1
    rw [Nat.add_sub_cancel, hat i p h1] at this
    have : ¬ q.tm < p.tm := fun h => this ⟨Nat.succ_pos i, h⟩
    omega
/-- Why points have no payload, however long; 0. -/
def checkB (sig : List Pr) (l : List Pm) : Int := if l.length = 0 then 1 else if (checkT sig (l.map (·.p))).1 ≠ 0 then (checkT sig (l.map (·.p))).1 else if 1024 < l.length then 6 else 0
def wholeB (sig : List Pr) (l : List Pm) : List Int × Int := if checkB sig l = 0 then (payB l, 0) else ([], checkB sig l)
def putB (sig : List Pr) (l : List Pm) : List Int × Int := if checkB sig l = 0 then (if 4096 < (payB l).length then ([], 6) else (payB l, 0)) else ([], checkB sig l)
theorem checkB_zero {sig : List Pr} {l : List Pm} (h : checkB sig l = 0) : 0 < l.length ∧ (checkT sig (l.map (·.p))).1 = 0 ∧ l.length ≤ 1024 := by
  unfold checkB at h
  split at h
  · cases h
  · split at h
    · rename_i h2
      exact absurd h h2
    · rename_i h1 h2
      split at h
      · cases h
      · exact ⟨by omega, by simpa using h2, by omega⟩
theorem TrRow.fits {w : World} {B : Nat} {v : Value} {l : List Pm} (h : TrRow w B v l) : ∀ p ∈ l, p.Fits ∧ ∀ e ∈ p.evs, ∀ a ∈ e.args, a.Fits := fun p hp => ⟨(h.2 p hp).2, fun e he a ha => ((h.2 p hp).1.2 e he).1.2 a ha⟩
theorem TrRow.bok {w : World} {B : Nat} {v : Value} {l : List Pm} {sig : List Pr} (h : TrRow w B v l) (hc : checkB sig l = 0) : BOk l := by
  obtain ⟨_, h1, h2⟩ := checkB_zero hc
  exact bok_of h1 h2 h.fits
theorem argsB_byte {D : List (List Int)} (hD : D.length ≤ 1000000000) {l : List Ag} (h : ∀ a ∈ l, AOk a) : ∀ x ∈ argsB D l, 0 ≤ x ∧ x < 256 := fun x hx => by
  obtain ⟨a, ha, hx⟩ := List.mem_flatMap.1 hx
  exact encI_bytes (argN_lt (D := D) (h a ha) hD) x hx
theorem evsB_byte {D : List (List Int)} (hD : D.length ≤ 1000000000) {p : Pm} (h : POk p) : ∀ x ∈ evsB D p.evs, 0 ≤ x ∧ x < 256 := fun x hx => by
  rcases List.mem_append.1 hx with hx | hx
  · exact encI_bytes (by have := h.few; omega) x hx
  · obtain ⟨e, he, hx⟩ := List.mem_flatMap.1 hx
    rcases List.mem_append.1 hx with hx | hx
    · exact encI_bytes (by have := (h.evs e he).high; omega) x hx
    · exact argsB_byte hD (h.evs e he).args x hx
theorem payB_bytes {l : List Pm} (h : BOk l) : ∀ x ∈ payB l, 0 ≤ x ∧ x < 256 := fun x hx => by
  obtain ⟨h1, h2⟩ := h.dict
  have htm : (tmAt l 0).toNat < 18446744073709551616 := by
    unfold tmAt
    cases hj : l[0]? with
    | none => decide
    | some p => have := (h.pts p (List.mem_of_getElem? hj)).fits; unfold Pm.Fits at this; dsimp only; omega
  simp only [payB, headB, dictB, List.mem_append] at hx
  rcases hx with hx | (hx | hx | hx) | hx
  · exact encI_bytes htm x hx
  · exact encI_bytes (by have := h.few; omega) x hx
  · exact encI_bytes (by omega) x hx
  · obtain ⟨t, ht, hx⟩ := List.mem_flatMap.1 hx
    exact encT_bytes (by have := (h2 t ht).1; omega) (h2 t ht).2 x hx
  · obtain ⟨i, hi, hx⟩ := List.mem_flatMap.1 hx
    have hi := List.mem_range.1 hi
    rcases List.mem_append.1 hx with hx | hx
    · split at hx
      · exact encI_bytes (stepN_lt h.pts i) x hx
      · simp at hx
    · rw [evsAt_of (List.getElem?_eq_getElem hi)] at hx
      exact evsB_byte (by omega) (h.pts _ (List.getElem_mem hi)) x hx
theorem putB_ok {sig : List Pr} {l : List Pm} (h : (putB sig l).2 = 0) : checkB sig l = 0 ∧ (payB l).length ≤ 4096 ∧ putB sig l = (payB l, 0) := by
  unfold putB at h
  split at h
  · rename_i h1
    split at h
    · cases h
    · rename_i h2
      exact ⟨h1, by omega, by rw [putB, if_pos h1, if_neg h2]⟩
  · rename_i h1
    exact absurd h h1
end Go.Proofs.YtimihhcidbeonaaGreat

namespace Go.Proofs.YtimihhcidbeonaaGreat
open Go.RowKit Go.ChangeShapes Go.WideShapes
/-- append as a step of a drawn region: of any row behind a row of the call's own; and where the new row lies. -/
theorem step_append_erow_at {P : Program} {w : World} {ops : Array Oper} {o : Oper} {a : Act} {K : Act → World → Prop} {Q : Exit → Act → World → Prop} {E : Prop} (hgd : o.guard = none) (s x : Operand) (t e : TypeId) (ho : o.op = .call { callee := .builtin .append, args := #[s, x], argTypes := #[t, t] })
    (base : Nat) (i : TypeInfo) (z : Value) (size bytes : Nat) (ht : P.underlying t = some (.slice e)) (hi : P.info? e = some i) (hz : i.zero = some z) (hsize : i.size = size) (hby : i.bytes = bytes) (hzs : z.cells.size = size) (hsz : 0 < size)
    (v : Value) (n : Nat) (xs : List Value) (hs : a.eval s = v) (hown : w.ownsRow base e size v n xs) (B : Nat) (sv : Value) (m : Nat) (us : List Value) (hx : a.eval x = sv) (hr : ERow w B sv m us) (hl : us.length = m * size) (h1 : ∀ u ∈ us, u.oneCell' = true)
    (h63 : n + m ≤ maxLen) (hbytes : (n + m) * bytes ≤ 140737488355328) (hbase : base ≤ w.heap.size) (N : Nat) (hN : n + m = N) (ys : List Value) (hys : xs ++ us = ys)
    (h : ∀ A c w', w'.ownsRow base e size (.slice A N c) N ys → w.grownBy w' v.ownBlock → ((Value.slice A N c).ownBlock = v.ownBlock ∨ (Value.slice A N c).ownBlock = some w.heap.size) → K (a.put o.dst (.slice A N c)) w') : if Region.wanted o (yielded ops a.tmps) = true then Oper.wp P o a w K Q else E := by
  subst hN hys
  have hw : Region.wanted o (yielded ops a.tmps) = true := by simp [Region.wanted, hgd]
  obtain ⟨v', w', hrun, h2, h3, h4⟩ := run_append_erow_at (P := P) w base t o.type e i z size bytes ht hi hz hsize hby hzs hsz v n xs hown B sv m us hr hl h1 h63 hbytes hbase
  obtain ⟨A, c, rfl⟩ := own_form h2
  rw [if_pos hw]
  unfold Oper.wp execOp
  simp only [ho, resolve, invoke, builtin, Sem.run_bind, Sem.run_pure, Result.andThen_ok, List.map_toArray, List.map_cons, List.map_nil, hs, hx, hrun]
  exact h A c w' h2 h3 h4
section
variable {w w' w2 : World} {base g n k : Nat} {v u : Value} {us : List Value} {T : TypeId}
/-- What is of another type is kept by what turns a block of type T and a row of bytes. -/
theorem apart_held {j : Nat} {t : TypeId} {cs : Array Value} (hh : Held w g T #[u]) (ho : w.ownsRow base 5 1 v n us) (hb : But w w' v.ownBlock g) (hk : Held w j t cs) (h1 : t ≠ T) (h2 : t ≠ 5) : Held w' j t cs :=
  hb.held hk (fun e => by
    subst e
    rw [Held, hh] at hk
    injection hk with hk
    injection hk with _ e2
    exact h1 e2.symm) (own_not_held ho hk (Ne.symm h2))
theorem apart_own {n2 k2 size : Nat} {e : TypeId} {vx : Value} {ux : List Value} (hh : Held w g T #[u]) (ho : w.ownsRow base 5 1 v n us) (hb : But w w' v.ownBlock g) (hx : w.ownsRow n2 e size vx k2 ux) (h1 : e ≠ T) (h2 : e ≠ 5) : w'.ownsRow n2 e size vx k2 ux :=
  own_but hx hb (.inr (Ne.symm (own_not_held hx hh h1))) (by
    rcases hx.2 with ⟨rfl, _⟩ | ⟨b, cap, cur, rfl, _, hgb, _⟩
    · exact .inl rfl
    · exact .inr (own_not_held (g := b) ho (show Held w b e cur from hgb) (Ne.symm h2)))
theorem apart_dict {b2 D r : Nat} {vd : Value} {L : List (List Int)} (hh : Held w g T #[u]) (ho : w.ownsRow base 5 1 v n us) (hb : But w w' v.ownBlock g) (hd : DictAt w b2 D r vd L) (h1 : 248 ≠ T) (h2 : 9 ≠ T) : DictAt w' b2 D r vd L := by
  refine ⟨apart_held hh ho hb hd.held h1 (by decide), apart_own hh ho hb hd.own h2 (by decide), ?_, hd.hD, hd.hr, hd.tx⟩
  obtain ⟨es, cl, he, _⟩ := hd.map
  refine hd.map.keep (hb.block r hd.map.lt (fun e => ?_) (own_not_map ho he))
  subst e
  rw [show w.heap[r]? = _ from hh] at he
  cases he
/-- The slice variable g reads as the bytes that were put. -/
structure SnkP (w : World) (base g : Nat) (v : Value) (zs : List Int) : Prop where
  held : Held w g 23 #[v]
  hg : base ≤ g
  own : w.ownsRow base 5 1 v zs.length (zs.map (.int .u8))
/-- The variable g is how many bytes were put. -/
structure SnkS (w : World) (base g : Nat) (v : Value) (zs : List Int) : Prop where
  held : Held w g 3 #[.int .i64 zs.length]
  hg : base ≤ g
  own : w.ownsRow base 5 1 v 0 []
theorem SnkP.below {zs : List Int} (h : SnkP w base g v zs) (hb : Below w.heap.size w w') : SnkP w' base g v zs := ⟨h.held.below hb h.held.lt, h.hg, own_below h.own hb⟩
/-- What is left behind more that was put. -/
def LeftP (w : World) (base g : Nat) (v : Value) (zs : List Int) (w' : World) : Prop := ∃ v', SnkP w' base g v' zs ∧ But w w' v.ownBlock g ∧ ∀ j, v'.ownBlock = some j → v.ownBlock = some j ∨ w.heap.size ≤ j
theorem LeftP.of_below {zs : List Int} (h : SnkP w base g v zs) (hb : Below w.heap.size w w') : LeftP w base g v zs w' := ⟨v, h.below hb, But.of_below hb _ _, fun _ e => .inl e⟩
theorem LeftP.trans {v1 : Value} {zs : List Int} (hb : But w w' v.ownBlock g) (hv : ∀ j, v1.ownBlock = some j → v.ownBlock = some j ∨ w.heap.size ≤ j) (k : LeftP w' base g v1 zs w2) : LeftP w base g v zs w2 := by
  obtain ⟨v2, h1, h2, h3⟩ := k
  refine ⟨v2, h1, hb.trans h2 hv, fun j e => ?_⟩
  rcases h3 j e with h | h
  · exact hv j h
  · exact .inr (Nat.le_trans hb.size h)
theorem LeftP.ahead {zs : List Int} (hb : Below w.heap.size w w') (k : LeftP w' base g v zs w2) : LeftP w base g v zs w2 := LeftP.trans (But.of_below hb _ _) (fun _ e => .inl e) k
theorem LeftP.behind {zs : List Int} (k : LeftP w base g v zs w') (hb : Below w'.heap.size w' w2) : LeftP w base g v zs w2 := by
  obtain ⟨v1, h1, h2, h3⟩ := k
  exact LeftP.trans h2 h3 (LeftP.of_below h1 hb)
theorem LeftP.low {zs ys : List Int} (k : LeftP w base g v zs w') (h : SnkP w base g v ys) (hn : base ≤ w.heap.size) : Below base w w' := by
  obtain ⟨v1, h1, h2, h3⟩ := k
  exact h2.low hn h.hg (fun j e => (World.ownsRow.lt h.own j e).1)
theorem LeftP.size {zs : List Int} (k : LeftP w base g v zs w') : w.heap.size ≤ w'.heap.size := by
  obtain ⟨v1, h1, h2, h3⟩ := k
  exact h2.size
theorem LeftP.held {zs ys : List Int} {j : Nat} {t : TypeId} {cs : Array Value} (k : LeftP w base g v zs w') (h : SnkP w base g v ys) (hk : Held w j t cs) (h1 : t ≠ 23) (h2 : t ≠ 5) : Held w' j t cs := by
  obtain ⟨v1, q1, q2, q3⟩ := k
  exact apart_held h.held h.own q2 hk h1 h2
theorem LeftP.keep {zs ys : List Int} {n2 k2 size : Nat} {e : TypeId} {vx : Value} {ux : List Value} (k : LeftP w base g v zs w') (h : SnkP w base g v ys) (hx : w.ownsRow n2 e size vx k2 ux) (h1 : e ≠ 23) (h2 : e ≠ 5) : w'.ownsRow n2 e size vx k2 ux := by
  obtain ⟨v1, q1, q2, q3⟩ := k
  exact apart_own h.held h.own q2 hx h1 h2
theorem LeftP.dict {zs ys : List Int} {b2 D r : Nat} {vd : Value} {L : List (List Int)} (k : LeftP w base g v zs w') (h : SnkP w base g v ys) (hd : DictAt w b2 D r vd L) : DictAt w' b2 D r vd L := by
  obtain ⟨v1, q1, q2, q3⟩ := k
  exact apart_dict h.held h.own q2 hd (by decide) (by decide)
theorem SnkS.below {zs : List Int} (h : SnkS w base g v zs) (hb : Below w.heap.size w w') : SnkS w' base g v zs := ⟨h.held.below hb h.held.lt, h.hg, own_below h.own hb⟩
/-- What is left behind more that was put. -/
def LeftS (w : World) (base g : Nat) (v : Value) (zs : List Int) (w' : World) : Prop := ∃ v', SnkS w' base g v' zs ∧ But w w' v.ownBlock g ∧ ∀ j, v'.ownBlock = some j → v.ownBlock = some j ∨ w.heap.size ≤ j
theorem LeftS.of_below {zs : List Int} (h : SnkS w base g v zs) (hb : Below w.heap.size w w') : LeftS w base g v zs w' := ⟨v, h.below hb, But.of_below hb _ _, fun _ e => .inl e⟩
theorem LeftS.trans {v1 : Value} {zs : List Int} (hb : But w w' v.ownBlock g) (hv : ∀ j, v1.ownBlock = some j → v.ownBlock = some j ∨ w.heap.size ≤ j) (k : LeftS w' base g v1 zs w2) : LeftS w base g v zs w2 := by
  obtain ⟨v2, h1, h2, h3⟩ := k
  refine ⟨v2, h1, hb.trans h2 hv, fun j e => ?_⟩
  rcases h3 j e with h | h
  · exact hv j h
  · exact .inr (Nat.le_trans hb.size h)
theorem LeftS.ahead {zs : List Int} (hb : Below w.heap.size w w') (k : LeftS w' base g v zs w2) : LeftS w base g v zs w2 := LeftS.trans (But.of_below hb _ _) (fun _ e => .inl e) k
theorem LeftS.behind {zs : List Int} (k : LeftS w base g v zs w') (hb : Below w'.heap.size w' w2) : LeftS w base g v zs w2 := by
  obtain ⟨v1, h1, h2, h3⟩ := k
  exact LeftS.trans h2 h3 (LeftS.of_below h1 hb)
theorem LeftS.low {zs ys : List Int} (k : LeftS w base g v zs w') (h : SnkS w base g v ys) (hn : base ≤ w.heap.size) : Below base w w' := by
  obtain ⟨v1, h1, h2, h3⟩ := k
  exact h2.low hn h.hg (fun j e => (World.ownsRow.lt h.own j e).1)
theorem LeftS.size {zs : List Int} (k : LeftS w base g v zs w') : w.heap.size ≤ w'.heap.size := by
  obtain ⟨v1, h1, h2, h3⟩ := k
  exact h2.size
theorem LeftS.held {zs ys : List Int} {j : Nat} {t : TypeId} {cs : Array Value} (k : LeftS w base g v zs w') (h : SnkS w base g v ys) (hk : Held w j t cs) (h1 : t ≠ 3) (h2 : t ≠ 5) : Held w' j t cs := by
  obtain ⟨v1, q1, q2, q3⟩ := k
  exact apart_held h.held h.own q2 hk h1 h2
theorem LeftS.keep {zs ys : List Int} {n2 k2 size : Nat} {e : TypeId} {vx : Value} {ux : List Value} (k : LeftS w base g v zs w') (h : SnkS w base g v ys) (hx : w.ownsRow n2 e size vx k2 ux) (h1 : e ≠ 3) (h2 : e ≠ 5) : w'.ownsRow n2 e size vx k2 ux := by
  obtain ⟨v1, q1, q2, q3⟩ := k
  exact apart_own h.held h.own q2 hx h1 h2
theorem LeftS.dict {zs ys : List Int} {b2 D r : Nat} {vd : Value} {L : List (List Int)} (k : LeftS w base g v zs w') (h : SnkS w base g v ys) (hd : DictAt w b2 D r vd L) : DictAt w' b2 D r vd L := by
  obtain ⟨v1, q1, q2, q3⟩ := k
  exact apart_dict h.held h.own q2 hd (by decide) (by decide)
end
end Go.Proofs.YtimihhcidbeonaaGreat
namespace Go.Proofs.YtimihhcidbeonaaGreat
open Go.RowKit Go.ChangeShapes Go.WideShapes
theorem put_nil_own (n : Nat) (hn : n < 18446744073709551616) (w : World) :
    Calls Tryz.prog 60 #[.slice none 0 0, .int .u64 n] w fun e W' => ∃ A c, e = .returned (.slice A (encI n).length c) ∧ W'.ownsRow w.heap.size 5 1 (.slice A (encI n).length c) (encI n).length ((encI n).map (.int .u8)) ∧ Below w.heap.size w W' := by
  refine (put_nil n hn w).mono ?_
  rintro e w1 ⟨v, rfl, h1, h2⟩
  obtain ⟨A, c, rfl⟩ := own_form h1
  exact ⟨A, c, rfl, h1, h2⟩
theorem bput_nil_own (s : List Int) (hb : ∀ x ∈ s, 0 ≤ x ∧ x < 256) (hs : s.length ≤ 1000000000) (w : World) :
    Calls Tryz.prog 62 #[.slice none 0 0, .string (strOfNums s)] w fun e W' => ∃ A c, e = .returned (.slice A (encT s).length c) ∧ W'.ownsRow w.heap.size 5 1 (.slice A (encT s).length c) (encT s).length ((encT s).map (.int .u8)) ∧ Below w.heap.size w W' := by
  have h := bput_any none 0 [] s hb (by simp) hs w (Row.nil _ _)
  refine h.mono ?_
  rintro e w1 ⟨v, rfl, h1, h2⟩
  simp only [List.nil_append, List.length_nil, Nat.zero_add] at h1
  obtain ⟨A, c, rfl⟩ := own_form h1
  exact ⟨A, c, rfl, h1, h2⟩
theorem left_put {w w1 w2 : World} {base g : Nat} {v : Value} {zs ys : List Int} {A : Option Addr} {c : Nat} (h : SnkP w base g v zs) (hb : Below w.heap.size w w1) (ho : w2.ownsRow base 5 1 (.slice A ys.length c) ys.length (ys.map (.int .u8))) (hg : w1.grownBy w2 v.ownBlock)
    (hat : (Value.slice A ys.length c).ownBlock = v.ownBlock ∨ (Value.slice A ys.length c).ownBlock = some w1.heap.size) (hh : Held w2 g 23 #[v]) : LeftP w base g v ys (w2.setCell ⟨g, 0, none⟩ (.slice A ys.length c)) := by
  have hh2 := hh.put 0 (.slice A ys.length c)
  have hne := own_not_held ho hh (by decide)
  refine ⟨.slice A ys.length c, ⟨by simpa using hh2, h.hg, ownsRow_setCell_other ho (Ne.symm hne) _⟩, ?_, fun j e => ?_⟩
  · exact (But.of_below hb _ _).trans ((But.of_row hg g).trans (But.of_one (grown_put w2 g 0 _) v.ownBlock) (fun j e => .inl e)) (fun j e => .inl e)
  · rcases hat with q | q
    · exact .inl (q ▸ e)
    · rw [q] at e
      cases e
      exact .inr hb.size
set_option maxRecDepth 100000 in
set_option maxHeartbeats 1000000 in
theorem putn_any {w : World} {base g : Nat} {v : Value} {zs : List Int} (h : SnkP w base g v zs) (n : Nat) (hn : n < 18446744073709551616) (hl : zs.length ≤ 10000000000) (hbs : base ≤ w.heap.size) :
    Calls Tryz.prog 59 #[.int .u64 n, .pointer (some ⟨g, 0, none⟩)] w fun e w' => e = .returned (.tuple #[]) ∧ LeftP w base g v (zs ++ encI n) w' := by
  obtain ⟨i0, hi, hz0, hz1, hz2⟩ := info_parts Tryz.infoU8
  have hlen : (encI n).length ≤ 1000000100 := by have := (encI_ten hn).2; omega
  have HC := Lib.hid (fun W => put_nil_own n hn W)
  have HH := Lib.hid (fun (W : World) (hb : Below w.heap.size w W) => (h.below hb))
  have h0 := h
  have hng := own_not_held h.own h.held (by decide)
  generalize encI n = E at hlen HC ⊢
  clear h
  go_enter Tryz.func59, Tryz.ntmps59
  go_wp2_with fail
  refine wp_region_held_drew (S := fun _ => True) (by kernel_rfl) trivial (fun _ => ?_)
  refine wpAnyH_take (i := 1) (v := .int .u64 n) rfl (by kernel_rfl) (by kernel_rfl) (by kernel_rfl) (fun _ _ _ h => h) (Or.inl ⟨by rfl, fun W _ => by go_simp⟩) trivial ?_
  try simp only [List.getElem_toArray, List.getElem_cons_zero, List.getElem_cons_succ, Act.put, List.setIfInBounds_toArray, List.set_cons_zero, List.set_cons_succ]
  refine wpAnyH_ready (rs := [0, 2]) (by kernel_rfl) (by simp) ?_
  refine AllReadyH.cons rfl (fun K hK => ?_) (AllReadyH.cons rfl (fun K hK => ?_) AllReadyH.nil)
  · skip
    have y0 := (HH.out _ (Below.refl _ _).drew).held.cell 0
    simp at y0
    go_simp
    clear y0
    refine hK.out _ _ trivial (fun _ => ?_)
    clear hK K
    try simp only [List.getElem_toArray, List.getElem_cons_zero, List.getElem_cons_succ, Act.put, List.setIfInBounds_toArray, List.set_cons_zero, List.set_cons_succ]
    refine wpAnyH_ready (rs := [2]) (by kernel_rfl) (by simp) ?_
    refine AllReadyH.cons rfl (fun K hK => ?_) AllReadyH.nil
    go_simp
    refine (HC.out _).mono ?_
    rintro e w1 ⟨A1, c1, rfl, hown1, hb1⟩
    have b1 : Below w.heap.size w w1 := (Below.refl _ _).drew.trans hb1
    refine hK.out _ _ trivial (fun _ => ?_)
    clear hK K
    try simp only [List.getElem_toArray, List.getElem_cons_zero, List.getElem_cons_succ, Act.put, List.setIfInBounds_toArray, List.set_cons_zero, List.set_cons_succ]
    refine wpAnyH_ready (rs := [3]) (by kernel_rfl) (by simp) ?_
    refine AllReadyH.cons rfl (fun K hK => ?_) AllReadyH.nil
    refine step_append_erow_at (by rfl) (.tmp 3) (.tmp 5) 23 5 (by rfl) base i0 (.int .u8 0) 1 1 Tryz.underlying23 hi hz0 hz1 hz2 rfl (by decide) v zs.length (zs.map (.int .u8)) (by rfl) (HH.out _ b1).own _ (.slice A1 E.length c1) E.length (E.map (.int .u8)) (by rfl) (ERow.of_own hown1) (by simp) (by simp [Value.oneCell']) (by simp only [maxLen]; omega) (by omega) (by have := b1.size; omega) (zs ++ E).length (by simp) ((zs ++ E).map (.int .u8)) (by simp) ?_
    intro A c w2 hown2 hg2 hat2
    refine hK.out _ _ trivial (fun _ => ?_)
    clear hK K
    try simp only [List.getElem_toArray, List.getElem_cons_zero, List.getElem_cons_succ, Act.put, List.setIfInBounds_toArray, List.set_cons_zero, List.set_cons_succ]
    refine wpAnyH_ready (rs := [4]) (by kernel_rfl) (by simp) ?_
    refine AllReadyH.cons rfl (fun K hK => ?_) AllReadyH.nil
    have hh2 := (HH.out _ b1).held.grown hg2 hng
    have y0 := hh2.cell 0
    have yf := hh2.frozen 0
    simp at y0
    go_simp
    clear y0 yf
    refine hK.out _ _ trivial (fun _ => ?_)
    clear hK K
    try simp only [List.getElem_toArray, List.getElem_cons_zero, List.getElem_cons_succ, Act.put, List.setIfInBounds_toArray, List.set_cons_zero, List.set_cons_succ]
    refine wpAnyH_done (by kernel_rfl) ?_ _
    go_wp2_with fail
    go_end0
    refine ⟨rfl, ?_⟩
    rw [← List.length_append]
    exact left_put h0 b1 hown2 hg2 hat2 hh2
  · skip
    go_simp
    refine (HC.out _).mono ?_
    rintro e w1 ⟨A1, c1, rfl, hown1, hb1⟩
    have b1 : Below w.heap.size w w1 := (Below.refl _ _).drew.trans hb1
    refine hK.out _ _ trivial (fun _ => ?_)
    clear hK K
    try simp only [List.getElem_toArray, List.getElem_cons_zero, List.getElem_cons_succ, Act.put, List.setIfInBounds_toArray, List.set_cons_zero, List.set_cons_succ]
    refine wpAnyH_ready (rs := [0]) (by kernel_rfl) (by simp) ?_
    refine AllReadyH.cons rfl (fun K hK => ?_) AllReadyH.nil
    have y0 := (HH.out _ b1).held.cell 0
    simp at y0
    go_simp
    clear y0
    refine hK.out _ _ trivial (fun _ => ?_)
    clear hK K
    try simp only [List.getElem_toArray, List.getElem_cons_zero, List.getElem_cons_succ, Act.put, List.setIfInBounds_toArray, List.set_cons_zero, List.set_cons_succ]
    refine wpAnyH_ready (rs := [3]) (by kernel_rfl) (by simp) ?_
    refine AllReadyH.cons rfl (fun K hK => ?_) AllReadyH.nil
    refine step_append_erow_at (by rfl) (.tmp 3) (.tmp 5) 23 5 (by rfl) base i0 (.int .u8 0) 1 1 Tryz.underlying23 hi hz0 hz1 hz2 rfl (by decide) v zs.length (zs.map (.int .u8)) (by rfl) (HH.out _ b1).own _ (.slice A1 E.length c1) E.length (E.map (.int .u8)) (by rfl) (ERow.of_own hown1) (by simp) (by simp [Value.oneCell']) (by simp only [maxLen]; omega) (by omega) (by have := b1.size; omega) (zs ++ E).length (by simp) ((zs ++ E).map (.int .u8)) (by simp) ?_
    intro A c w2 hown2 hg2 hat2
    refine hK.out _ _ trivial (fun _ => ?_)
    clear hK K
    try simp only [List.getElem_toArray, List.getElem_cons_zero, List.getElem_cons_succ, Act.put, List.setIfInBounds_toArray, List.set_cons_zero, List.set_cons_succ]
    refine wpAnyH_ready (rs := [4]) (by kernel_rfl) (by simp) ?_
    refine AllReadyH.cons rfl (fun K hK => ?_) AllReadyH.nil
    have hh2 := (HH.out _ b1).held.grown hg2 hng
    have y0 := hh2.cell 0
    have yf := hh2.frozen 0
    simp at y0
    go_simp
    clear y0 yf
    refine hK.out _ _ trivial (fun _ => ?_)
    clear hK K
    try simp only [List.getElem_toArray, List.getElem_cons_zero, List.getElem_cons_succ, Act.put, List.setIfInBounds_toArray, List.set_cons_zero, List.set_cons_succ]
    refine wpAnyH_done (by kernel_rfl) ?_ _
    go_wp2_with fail
    go_end0
    refine ⟨rfl, ?_⟩
    rw [← List.length_append]
    exact left_put h0 b1 hown2 hg2 hat2 hh2
set_option maxRecDepth 100000 in
set_option maxHeartbeats 1000000 in
theorem putt_any {w : World} {base g : Nat} {v : Value} {zs : List Int} (h : SnkP w base g v zs) (s : List Int) (hsb : ∀ x ∈ s, 0 ≤ x ∧ x < 256) (hs : s.length ≤ 1000000000) (hl : zs.length ≤ 10000000000) (hbs : base ≤ w.heap.size) :
    Calls Tryz.prog 61 #[.string (strOfNums s), .pointer (some ⟨g, 0, none⟩)] w fun e w' => e = .returned (.tuple #[]) ∧ LeftP w base g v (zs ++ encT s) w' := by
  obtain ⟨i0, hi, hz0, hz1, hz2⟩ := info_parts Tryz.infoU8
  have hlen : (encT s).length ≤ 1000000100 := by rw [encT_length]; have := (encI_ten (n := s.length) (by omega)).2; omega
  have HC := Lib.hid (fun W => bput_nil_own s hsb hs W)
  have HH := Lib.hid (fun (W : World) (hb : Below w.heap.size w W) => (h.below hb))
  have h0 := h
  have hng := own_not_held h.own h.held (by decide)
  generalize encT s = E at hlen HC ⊢
  clear h
  go_enter Tryz.func61, Tryz.ntmps61
  go_wp2_with fail
  refine wp_region_held_drew (S := fun _ => True) (by kernel_rfl) trivial (fun _ => ?_)
  refine wpAnyH_take (i := 1) (v := .string (strOfNums s)) rfl (by kernel_rfl) (by kernel_rfl) (by kernel_rfl) (fun _ _ _ h => h) (Or.inl ⟨by rfl, fun W _ => by go_simp⟩) trivial ?_
  try simp only [List.getElem_toArray, List.getElem_cons_zero, List.getElem_cons_succ, Act.put, List.setIfInBounds_toArray, List.set_cons_zero, List.set_cons_succ]
  refine wpAnyH_ready (rs := [0, 2]) (by kernel_rfl) (by simp) ?_
  refine AllReadyH.cons rfl (fun K hK => ?_) (AllReadyH.cons rfl (fun K hK => ?_) AllReadyH.nil)
  · skip
    have y0 := (HH.out _ (Below.refl _ _).drew).held.cell 0
    simp at y0
    go_simp
    clear y0
    refine hK.out _ _ trivial (fun _ => ?_)
    clear hK K
    try simp only [List.getElem_toArray, List.getElem_cons_zero, List.getElem_cons_succ, Act.put, List.setIfInBounds_toArray, List.set_cons_zero, List.set_cons_succ]
    refine wpAnyH_ready (rs := [2]) (by kernel_rfl) (by simp) ?_
    refine AllReadyH.cons rfl (fun K hK => ?_) AllReadyH.nil
    go_simp
    refine (HC.out _).mono ?_
    rintro e w1 ⟨A1, c1, rfl, hown1, hb1⟩
    have b1 : Below w.heap.size w w1 := (Below.refl _ _).drew.trans hb1
    refine hK.out _ _ trivial (fun _ => ?_)
    clear hK K
    try simp only [List.getElem_toArray, List.getElem_cons_zero, List.getElem_cons_succ, Act.put, List.setIfInBounds_toArray, List.set_cons_zero, List.set_cons_succ]
    refine wpAnyH_ready (rs := [3]) (by kernel_rfl) (by simp) ?_
    refine AllReadyH.cons rfl (fun K hK => ?_) AllReadyH.nil
    refine step_append_erow_at (by rfl) (.tmp 3) (.tmp 5) 23 5 (by rfl) base i0 (.int .u8 0) 1 1 Tryz.underlying23 hi hz0 hz1 hz2 rfl (by decide) v zs.length (zs.map (.int .u8)) (by rfl) (HH.out _ b1).own _ (.slice A1 E.length c1) E.length (E.map (.int .u8)) (by rfl) (ERow.of_own hown1) (by simp) (by simp [Value.oneCell']) (by simp only [maxLen]; omega) (by omega) (by have := b1.size; omega) (zs ++ E).length (by simp) ((zs ++ E).map (.int .u8)) (by simp) ?_
    intro A c w2 hown2 hg2 hat2
    refine hK.out _ _ trivial (fun _ => ?_)
    clear hK K
    try simp only [List.getElem_toArray, List.getElem_cons_zero, List.getElem_cons_succ, Act.put, List.setIfInBounds_toArray, List.set_cons_zero, List.set_cons_succ]
    refine wpAnyH_ready (rs := [4]) (by kernel_rfl) (by simp) ?_
    refine AllReadyH.cons rfl (fun K hK => ?_) AllReadyH.nil
    have hh2 := (HH.out _ b1).held.grown hg2 hng
    have y0 := hh2.cell 0
    have yf := hh2.frozen 0
    simp at y0
    go_simp
    clear y0 yf
    refine hK.out _ _ trivial (fun _ => ?_)
    clear hK K
    try simp only [List.getElem_toArray, List.getElem_cons_zero, List.getElem_cons_succ, Act.put, List.setIfInBounds_toArray, List.set_cons_zero, List.set_cons_succ]
    refine wpAnyH_done (by kernel_rfl) ?_ _
    go_wp2_with fail
    go_end0
    refine ⟨rfl, ?_⟩
    rw [← List.length_append]
    exact left_put h0 b1 hown2 hg2 hat2 hh2
  · skip
    go_simp
    refine (HC.out _).mono ?_
    rintro e w1 ⟨A1, c1, rfl, hown1, hb1⟩
    have b1 : Below w.heap.size w w1 := (Below.refl _ _).drew.trans hb1
    refine hK.out _ _ trivial (fun _ => ?_)
    clear hK K
    try simp only [List.getElem_toArray, List.getElem_cons_zero, List.getElem_cons_succ, Act.put, List.setIfInBounds_toArray, List.set_cons_zero, List.set_cons_succ]
    refine wpAnyH_ready (rs := [0]) (by kernel_rfl) (by simp) ?_
    refine AllReadyH.cons rfl (fun K hK => ?_) AllReadyH.nil
    have y0 := (HH.out _ b1).held.cell 0
    simp at y0
    go_simp
    clear y0
    refine hK.out _ _ trivial (fun _ => ?_)
    clear hK K
    try simp only [List.getElem_toArray, List.getElem_cons_zero, List.getElem_cons_succ, Act.put, List.setIfInBounds_toArray, List.set_cons_zero, List.set_cons_succ]
    refine wpAnyH_ready (rs := [3]) (by kernel_rfl) (by simp) ?_
    refine AllReadyH.cons rfl (fun K hK => ?_) AllReadyH.nil
    refine step_append_erow_at (by rfl) (.tmp 3) (.tmp 5) 23 5 (by rfl) base i0 (.int .u8 0) 1 1 Tryz.underlying23 hi hz0 hz1 hz2 rfl (by decide) v zs.length (zs.map (.int .u8)) (by rfl) (HH.out _ b1).own _ (.slice A1 E.length c1) E.length (E.map (.int .u8)) (by rfl) (ERow.of_own hown1) (by simp) (by simp [Value.oneCell']) (by simp only [maxLen]; omega) (by omega) (by have := b1.size; omega) (zs ++ E).length (by simp) ((zs ++ E).map (.int .u8)) (by simp) ?_
    intro A c w2 hown2 hg2 hat2
    refine hK.out _ _ trivial (fun _ => ?_)
    clear hK K
    try simp only [List.getElem_toArray, List.getElem_cons_zero, List.getElem_cons_succ, Act.put, List.setIfInBounds_toArray, List.set_cons_zero, List.set_cons_succ]
    refine wpAnyH_ready (rs := [4]) (by kernel_rfl) (by simp) ?_
    refine AllReadyH.cons rfl (fun K hK => ?_) AllReadyH.nil
    have hh2 := (HH.out _ b1).held.grown hg2 hng
    have y0 := hh2.cell 0
    have yf := hh2.frozen 0
    simp at y0
    go_simp
    clear y0 yf
    refine hK.out _ _ trivial (fun _ => ?_)
    clear hK K
    try simp only [List.getElem_toArray, List.getElem_cons_zero, List.getElem_cons_succ, Act.put, List.setIfInBounds_toArray, List.set_cons_zero, List.set_cons_succ]
    refine wpAnyH_done (by kernel_rfl) ?_ _
    go_wp2_with fail
    go_end0
    refine ⟨rfl, ?_⟩
    rw [← List.length_append]
    exact left_put h0 b1 hown2 hg2 hat2 hh2
end Go.Proofs.YtimihhcidbeonaaGreat
namespace Go.Proofs.YtimihhcidbeonaaGreat
open Go.RowKit Go.ChangeShapes Go.WideShapes
theorem left_sum {w w1 : World} {base g : Nat} {v : Value} {zs ys : List Int} {Z E : Nat} (h : SnkS w base g v zs) (hb : Below w.heap.size w w1) (hE : ys.length = E) (hZ : zs.length = Z) : LeftS w base g v (zs ++ ys) (w1.setCell ⟨g, 0, none⟩ (.int .i64 ((Z : Int) + (E : Int)))) := by
  have h1 := h.below hb
  have hh2 := h1.held.put 0 (.int .i64 ((Z : Int) + (E : Int)))
  have hne := own_not_held h1.own h1.held (by decide)
  refine ⟨v, ⟨by rw [List.length_append, hE, hZ]; simpa using hh2, h.hg, ownsRow_setCell_other h1.own (Ne.symm hne) _⟩, ?_, fun j e => .inl e⟩
  exact (But.of_below hb _ _).trans (But.of_one (grown_put w1 g 0 _) v.ownBlock) (fun j e => .inl e)
set_option maxRecDepth 100000 in
set_option maxHeartbeats 1000000 in
theorem sumn_any {w : World} {base g : Nat} {v : Value} {zs : List Int} (h : SnkS w base g v zs) (n : Nat) (hn : n < 18446744073709551616) (hl : zs.length ≤ 10000000000) :
    Calls Tryz.prog 110 #[.int .u64 n, .pointer (some ⟨g, 0, none⟩)] w fun e w' => e = .returned (.tuple #[]) ∧ LeftS w base g v (zs ++ encI n) w' := by
  have hlen : (encI n).length ≤ 1000000100 := by have := (encI_ten hn).2; omega
  have HC := Lib.hid (fun W => size_any n hn W)
  have HH := Lib.hid (fun (W : World) (hb : Below w.heap.size w W) => (h.below hb))
  have h0 := h
  obtain ⟨E, hE⟩ : ∃ E, (encI n).length = E := ⟨_, rfl⟩
  rw [hE] at hlen HC
  obtain ⟨Z, hZ⟩ : ∃ Z, zs.length = Z := ⟨_, rfl⟩
  have HWR := Lib.hid (show IntKind.i64.wrap ((Z : Int) + (E : Int)) = (Z : Int) + (E : Int) from IntWalk.i64_in _ (by omega))
  have HZ := Lib.hid hZ
  have HL := Lib.hid hE
  clear h hE hZ
  go_enter Tryz.func110, Tryz.ntmps110
  go_wp2_with fail
  refine wp_region_held_drew (S := fun _ => True) (by kernel_rfl) trivial (fun _ => ?_)
  refine wpAnyH_take (i := 1) (v := .int .u64 n) rfl (by kernel_rfl) (by kernel_rfl) (by kernel_rfl) (fun _ _ _ h => h) (Or.inl ⟨by rfl, fun W _ => by go_simp⟩) trivial ?_
  try simp only [List.getElem_toArray, List.getElem_cons_zero, List.getElem_cons_succ, Act.put, List.setIfInBounds_toArray, List.set_cons_zero, List.set_cons_succ]
  refine wpAnyH_ready (rs := [0, 2]) (by kernel_rfl) (by simp) ?_
  refine AllReadyH.cons rfl (fun K hK => ?_) (AllReadyH.cons rfl (fun K hK => ?_) AllReadyH.nil)
  · skip
    have y0 := (HH.out _ (Below.refl _ _).drew).held.cell 0
    simp at y0
    rw [HZ.out] at y0
    go_simp
    clear y0
    refine hK.out _ _ trivial (fun _ => ?_)
    clear hK K
    try simp only [List.getElem_toArray, List.getElem_cons_zero, List.getElem_cons_succ, Act.put, List.setIfInBounds_toArray, List.set_cons_zero, List.set_cons_succ]
    refine wpAnyH_ready (rs := [2]) (by kernel_rfl) (by simp) ?_
    refine AllReadyH.cons rfl (fun K hK => ?_) AllReadyH.nil
    go_simp
    refine (HC.out _).mono ?_
    rintro e w1 ⟨rfl, hb1⟩
    have b1 : Below w.heap.size w w1 := (Below.refl _ _).drew.trans hb1
    refine hK.out _ _ trivial (fun _ => ?_)
    clear hK K
    try simp only [List.getElem_toArray, List.getElem_cons_zero, List.getElem_cons_succ, Act.put, List.setIfInBounds_toArray, List.set_cons_zero, List.set_cons_succ]
    refine wpAnyH_take (i := 3) (v := .int .i64 ((Z : Int) + (E : Int))) rfl (by kernel_rfl) (by kernel_rfl) (by kernel_rfl) (fun _ _ _ h => h) (Or.inl ⟨by rfl, fun W _ => by have hwr := HWR.out; go_simp⟩) trivial ?_
    try simp only [List.getElem_toArray, List.getElem_cons_zero, List.getElem_cons_succ, Act.put, List.setIfInBounds_toArray, List.set_cons_zero, List.set_cons_succ]
    refine wpAnyH_ready (rs := [4]) (by kernel_rfl) (by simp) ?_
    refine AllReadyH.cons rfl (fun K hK => ?_) AllReadyH.nil
    have hh2 := (HH.out _ b1).held
    have y0 := hh2.cell 0
    have yf := hh2.frozen 0
    simp at y0
    rw [HZ.out] at y0
    go_simp
    clear y0 yf
    refine hK.out _ _ trivial (fun _ => ?_)
    clear hK K
    try simp only [List.getElem_toArray, List.getElem_cons_zero, List.getElem_cons_succ, Act.put, List.setIfInBounds_toArray, List.set_cons_zero, List.set_cons_succ]
    refine wpAnyH_done (by kernel_rfl) ?_ _
    go_wp2_with fail
    go_end0
    exact ⟨rfl, left_sum h0 b1 HL.out HZ.out⟩
  · skip
    go_simp
    refine (HC.out _).mono ?_
    rintro e w1 ⟨rfl, hb1⟩
    have b1 : Below w.heap.size w w1 := (Below.refl _ _).drew.trans hb1
    refine hK.out _ _ trivial (fun _ => ?_)
    clear hK K
    try simp only [List.getElem_toArray, List.getElem_cons_zero, List.getElem_cons_succ, Act.put, List.setIfInBounds_toArray, List.set_cons_zero, List.set_cons_succ]
    refine wpAnyH_ready (rs := [0]) (by kernel_rfl) (by simp) ?_
    refine AllReadyH.cons rfl (fun K hK => ?_) AllReadyH.nil
    have y0 := (HH.out _ b1).held.cell 0
    simp at y0
    rw [HZ.out] at y0
    go_simp
    clear y0
    refine hK.out _ _ trivial (fun _ => ?_)
    clear hK K
    try simp only [List.getElem_toArray, List.getElem_cons_zero, List.getElem_cons_succ, Act.put, List.setIfInBounds_toArray, List.set_cons_zero, List.set_cons_succ]
    refine wpAnyH_take (i := 3) (v := .int .i64 ((Z : Int) + (E : Int))) rfl (by kernel_rfl) (by kernel_rfl) (by kernel_rfl) (fun _ _ _ h => h) (Or.inl ⟨by rfl, fun W _ => by have hwr := HWR.out; go_simp⟩) trivial ?_
    try simp only [List.getElem_toArray, List.getElem_cons_zero, List.getElem_cons_succ, Act.put, List.setIfInBounds_toArray, List.set_cons_zero, List.set_cons_succ]
    refine wpAnyH_ready (rs := [4]) (by kernel_rfl) (by simp) ?_
    refine AllReadyH.cons rfl (fun K hK => ?_) AllReadyH.nil
    have hh2 := (HH.out _ b1).held
    have y0 := hh2.cell 0
    have yf := hh2.frozen 0
    simp at y0
    rw [HZ.out] at y0
    go_simp
    clear y0 yf
    refine hK.out _ _ trivial (fun _ => ?_)
    clear hK K
    try simp only [List.getElem_toArray, List.getElem_cons_zero, List.getElem_cons_succ, Act.put, List.setIfInBounds_toArray, List.set_cons_zero, List.set_cons_succ]
    refine wpAnyH_done (by kernel_rfl) ?_ _
    go_wp2_with fail
    go_end0
    exact ⟨rfl, left_sum h0 b1 HL.out HZ.out⟩
set_option maxRecDepth 100000 in
set_option maxHeartbeats 1000000 in
theorem sumt_any {w : World} {base g : Nat} {v : Value} {zs : List Int} (h : SnkS w base g v zs) (s : List Int) (hsb : ∀ x ∈ s, 0 ≤ x ∧ x < 256) (hs : s.length ≤ 1000000000) (hl : zs.length ≤ 10000000000) :
    Calls Tryz.prog 112 #[.string (strOfNums s), .pointer (some ⟨g, 0, none⟩)] w fun e w' => e = .returned (.tuple #[]) ∧ LeftS w base g v (zs ++ encT s) w' := by
  have hlen : (encT s).length ≤ 1000000100 := by rw [encT_length]; have := (encI_ten (n := s.length) (by omega)).2; omega
  have HC := Lib.hid (fun W => bput_nil_own s hsb hs W)
  have HH := Lib.hid (fun (W : World) (hb : Below w.heap.size w W) => (h.below hb))
  have h0 := h
  obtain ⟨E, hE⟩ : ∃ E, (encT s).length = E := ⟨_, rfl⟩
  rw [hE] at hlen HC
  obtain ⟨Z, hZ⟩ : ∃ Z, zs.length = Z := ⟨_, rfl⟩
  have HWR := Lib.hid (show IntKind.i64.wrap ((Z : Int) + (E : Int)) = (Z : Int) + (E : Int) from IntWalk.i64_in _ (by omega))
  have HZ := Lib.hid hZ
  have HL := Lib.hid hE
  clear h hE hZ
  go_enter Tryz.func112, Tryz.ntmps112
  go_wp2_with fail
  refine wp_region_held_drew (S := fun _ => True) (by kernel_rfl) trivial (fun _ => ?_)
  refine wpAnyH_take (i := 1) (v := .string (strOfNums s)) rfl (by kernel_rfl) (by kernel_rfl) (by kernel_rfl) (fun _ _ _ h => h) (Or.inl ⟨by rfl, fun W _ => by go_simp⟩) trivial ?_
  try simp only [List.getElem_toArray, List.getElem_cons_zero, List.getElem_cons_succ, Act.put, List.setIfInBounds_toArray, List.set_cons_zero, List.set_cons_succ]
  refine wpAnyH_ready (rs := [0, 2]) (by kernel_rfl) (by simp) ?_
  refine AllReadyH.cons rfl (fun K hK => ?_) (AllReadyH.cons rfl (fun K hK => ?_) AllReadyH.nil)
  · skip
    have y0 := (HH.out _ (Below.refl _ _).drew).held.cell 0
    simp at y0
    rw [HZ.out] at y0
    go_simp
    clear y0
    refine hK.out _ _ trivial (fun _ => ?_)
    clear hK K
    try simp only [List.getElem_toArray, List.getElem_cons_zero, List.getElem_cons_succ, Act.put, List.setIfInBounds_toArray, List.set_cons_zero, List.set_cons_succ]
    refine wpAnyH_ready (rs := [2]) (by kernel_rfl) (by simp) ?_
    refine AllReadyH.cons rfl (fun K hK => ?_) AllReadyH.nil
    go_simp
    refine (HC.out _).mono ?_
    rintro e w1 ⟨A1, c1, rfl, hown1, hb1⟩
    have b1 : Below w.heap.size w w1 := (Below.refl _ _).drew.trans hb1
    refine hK.out _ _ trivial (fun _ => ?_)
    clear hK K
    try simp only [List.getElem_toArray, List.getElem_cons_zero, List.getElem_cons_succ, Act.put, List.setIfInBounds_toArray, List.set_cons_zero, List.set_cons_succ]
    refine wpAnyH_take (i := 3) (v := .int .i64 (E : Int)) rfl (by kernel_rfl) (by kernel_rfl) (by kernel_rfl) (fun _ _ _ h => h) (Or.inl ⟨by rfl, fun W _ => by go_simp⟩) trivial ?_
    try simp only [List.getElem_toArray, List.getElem_cons_zero, List.getElem_cons_succ, Act.put, List.setIfInBounds_toArray, List.set_cons_zero, List.set_cons_succ]
    refine wpAnyH_take (i := 4) (v := .int .i64 ((Z : Int) + (E : Int))) rfl (by kernel_rfl) (by kernel_rfl) (by kernel_rfl) (fun _ _ _ h => h) (Or.inl ⟨by rfl, fun W _ => by have hwr := HWR.out; go_simp⟩) trivial ?_
    try simp only [List.getElem_toArray, List.getElem_cons_zero, List.getElem_cons_succ, Act.put, List.setIfInBounds_toArray, List.set_cons_zero, List.set_cons_succ]
    refine wpAnyH_ready (rs := [5]) (by kernel_rfl) (by simp) ?_
    refine AllReadyH.cons rfl (fun K hK => ?_) AllReadyH.nil
    have hh2 := (HH.out _ b1).held
    have y0 := hh2.cell 0
    have yf := hh2.frozen 0
    simp at y0
    rw [HZ.out] at y0
    go_simp
    clear y0 yf
    refine hK.out _ _ trivial (fun _ => ?_)
    clear hK K
    try simp only [List.getElem_toArray, List.getElem_cons_zero, List.getElem_cons_succ, Act.put, List.setIfInBounds_toArray, List.set_cons_zero, List.set_cons_succ]
    refine wpAnyH_done (by kernel_rfl) ?_ _
    go_wp2_with fail
    go_end0
    exact ⟨rfl, left_sum h0 b1 HL.out HZ.out⟩
  · skip
    go_simp
    refine (HC.out _).mono ?_
    rintro e w1 ⟨A1, c1, rfl, hown1, hb1⟩
    have b1 : Below w.heap.size w w1 := (Below.refl _ _).drew.trans hb1
    refine hK.out _ _ trivial (fun _ => ?_)
    clear hK K
    try simp only [List.getElem_toArray, List.getElem_cons_zero, List.getElem_cons_succ, Act.put, List.setIfInBounds_toArray, List.set_cons_zero, List.set_cons_succ]
    refine wpAnyH_take (i := 3) (v := .int .i64 (E : Int)) rfl (by kernel_rfl) (by kernel_rfl) (by kernel_rfl) (fun _ _ _ h => h) (Or.inl ⟨by rfl, fun W _ => by go_simp⟩) trivial ?_
    try simp only [List.getElem_toArray, List.getElem_cons_zero, List.getElem_cons_succ, Act.put, List.setIfInBounds_toArray, List.set_cons_zero, List.set_cons_succ]
    refine wpAnyH_ready (rs := [0]) (by kernel_rfl) (by simp) ?_
    refine AllReadyH.cons rfl (fun K hK => ?_) AllReadyH.nil
    have y0 := (HH.out _ b1).held.cell 0
    simp at y0
    rw [HZ.out] at y0
    go_simp
    clear y0
    refine hK.out _ _ trivial (fun _ => ?_)
    clear hK K
    try simp only [List.getElem_toArray, List.getElem_cons_zero, List.getElem_cons_succ, Act.put, List.setIfInBounds_toArray, List.set_cons_zero, List.set_cons_succ]
    refine wpAnyH_take (i := 4) (v := .int .i64 ((Z : Int) + (E : Int))) rfl (by kernel_rfl) (by kernel_rfl) (by kernel_rfl) (fun _ _ _ h => h) (Or.inl ⟨by rfl, fun W _ => by have hwr := HWR.out; go_simp⟩) trivial ?_
    try simp only [List.getElem_toArray, List.getElem_cons_zero, List.getElem_cons_succ, Act.put, List.setIfInBounds_toArray, List.set_cons_zero, List.set_cons_succ]
    refine wpAnyH_ready (rs := [5]) (by kernel_rfl) (by simp) ?_
    refine AllReadyH.cons rfl (fun K hK => ?_) AllReadyH.nil
    have hh2 := (HH.out _ b1).held
    have y0 := hh2.cell 0
    have yf := hh2.frozen 0
    simp at y0
    rw [HZ.out] at y0
    go_simp
    clear y0 yf
    refine hK.out _ _ trivial (fun _ => ?_)
    clear hK K
    try simp only [List.getElem_toArray, List.getElem_cons_zero, List.getElem_cons_succ, Act.put, List.setIfInBounds_toArray, List.set_cons_zero, List.set_cons_succ]
    refine wpAnyH_done (by kernel_rfl) ?_ _
    go_wp2_with fail
    go_end0
    exact ⟨rfl, left_sum h0 b1 HL.out HZ.out⟩
end Go.Proofs.YtimihhcidbeonaaGreat
namespace Go.Proofs.YtimihhcidbeonaaGreat
open Go.RowKit Go.ChangeShapes Go.WideShapes
/-- The table, where x holds the dictionary. -/
abbrev TabV (x : Nat) : Value := .agg #[.nilFunc, .func (.func 162) #[] #[], .func (.func 164) #[] #[.pointer (some ⟨x, 0, none⟩)]]
set_option maxRecDepth 100000 in
theorem table_any (D : Nat) (w : World) : Calls Tryz.prog 115 #[.pointer (some ⟨D, 0, none⟩)] w fun e w' => ∃ x, e = .returned (TabV x) ∧ Held w' x 198 #[.pointer (some ⟨D, 0, none⟩)] ∧ w.heap.size ≤ x ∧ Below w.heap.size w w' := by
  obtain ⟨N, hN⟩ : ∃ N, w.heap.size = N := ⟨_, rfl⟩
  obtain ⟨w1, hw1⟩ : ∃ w1, w.alloc (.cells #[.pointer (some ⟨D, 0, none⟩)] 198) = w1 := ⟨_, rfl⟩
  have b1 : Below N w w1 := by rw [← hw1]; exact (Below.refl _ _).alloc (by omega) _
  have s1 : w1.heap.size = N + 1 := by rw [← hw1, World.size_alloc, hN]
  have h1 : Held w1 N 198 #[.pointer (some ⟨D, 0, none⟩)] := by rw [← hw1, ← hN]; exact heap_alloc_new w _
  obtain ⟨w2, hw2⟩ : ∃ w2, w1.alloc (.cells #[.nilFunc, .nilFunc, .nilFunc] 202) = w2 := ⟨_, rfl⟩
  have b2 : Below (N + 1) w1 w2 := by rw [← hw2]; exact (Below.refl _ _).alloc (by omega) _
  have h2 : Held w2 (N + 1) 202 #[.nilFunc, .nilFunc, .nilFunc] := by rw [← hw2, ← s1]; exact heap_alloc_new w1 _
  have c0 := h2.cell 0
  have c1 := h2.cell 1
  have c2 := h2.cell 2
  have f0 := h2.frozen 0
  have f1 := h2.frozen 1
  have f2 := h2.frozen 2
  simp at c0 c1 c2
  obtain ⟨F1, hF1⟩ : ∃ F, Value.func (.func 162) #[] #[] = F := ⟨_, rfl⟩
  obtain ⟨F2, hF2⟩ : ∃ F, Value.func (.func 164) #[] #[.pointer (some ⟨N, 0, none⟩)] = F := ⟨_, rfl⟩
  have p0 := h2.put 0 .nilFunc
  have p1 := p0.put 1 F1
  have p2 := p1.put 2 F2
  have q0 : (store ⟨N + 1, 0, none⟩ .nilFunc).run Tryz.prog w2 = .ok () (w2.setCell ⟨N + 1, 0, none⟩ .nilFunc) := by rw [run_store _ _ _ _ _ rfl, c0]; simp [f0]
  have q1 : (store ⟨N + 1, 1, none⟩ F1).run Tryz.prog (w2.setCell ⟨N + 1, 0, none⟩ .nilFunc) = .ok () ((w2.setCell ⟨N + 1, 0, none⟩ .nilFunc).setCell ⟨N + 1, 1, none⟩ F1) := by
    rw [run_store _ _ _ _ _ (by rw [← hF1]; rfl), p0.cell 1]; simp [p0.frozen 1]
  have q2 : (store ⟨N + 1, 2, none⟩ F2).run Tryz.prog ((w2.setCell ⟨N + 1, 0, none⟩ .nilFunc).setCell ⟨N + 1, 1, none⟩ F1) = .ok () (((w2.setCell ⟨N + 1, 0, none⟩ .nilFunc).setCell ⟨N + 1, 1, none⟩ F1).setCell ⟨N + 1, 2, none⟩ F2) := by
    rw [run_store _ _ _ _ _ (by rw [← hF2]; rfl), p1.cell 2]; simp [p1.frozen 2]
  obtain ⟨w3, hw3⟩ : ∃ w3, ((w2.setCell ⟨N + 1, 0, none⟩ .nilFunc).setCell ⟨N + 1, 1, none⟩ F1).setCell ⟨N + 1, 2, none⟩ F2 = w3 := ⟨_, rfl⟩
  rw [hw3] at q2 p2
  have HH1 := Lib.hid (show Held w3 N 198 #[.pointer (some ⟨D, 0, none⟩)] by rw [← hw3]; exact Held.other_put (Held.other_put (Held.other_put (h1.below b2 (by omega)) (by omega) _) (by omega) _) (by omega) _)
  have HB3 := Lib.hid (show Below N w w3 by rw [← hw3]; exact (((b1.trans (b2.mono (by omega))).setCell (Nat.le_succ N) _).setCell (Nat.le_succ N) _).setCell (Nat.le_succ N) _)
  have c0 := p2.cell 0
  have c1 := p2.cell 1
  have c2 := p2.cell 2
  simp at c0 c1 c2
  rw [← hF1] at q1 c1
  rw [← hF2] at q2 c2
  subst hF1 hF2
  rw [hN]
  clear h1 h2 b1 b2 p0 p1 p2 hw3
  go_enter Tryz.func115, Tryz.ntmps115
  go_wp2_with fail
  exact bodyPost_ret (v := TabV N) (by simp [results, Tryz.results115, go_sem, c0, c1, c2]) rfl ⟨N, rfl, HH1.out, Nat.le_refl _, HB3.out⟩
set_option maxRecDepth 100000 in
theorem tab1_any (t n : Int) (s : Value) (h1 : -9223372036854775808 ≤ n) (h2 : n ≤ 9223372036854775807) (w : World) : Calls Tryz.prog 162 #[.agg #[.int .i64 t, .int .i64 n, s]] w fun e w' => e = .returned (.int .u64 (foldI n)) ∧ Below w.heap.size w w' := by
  have HF := Lib.hid (fun W => fold_any n h1 h2 W)
  generalize foldI n = y at HF ⊢
  have ba : Below w.heap.size w (w.alloc (.cells #[.int .i64 t, .int .i64 n, s] 97)) := (Below.refl _ _).alloc (Nat.le_refl _) _
  have hh : Held (w.alloc (.cells #[.int .i64 t, .int .i64 n, s] 97)) w.heap.size 97 #[.int .i64 t, .int .i64 n, s] := heap_alloc_new w _
  obtain ⟨w1, hw1⟩ : ∃ w1, w.alloc (.cells #[.int .i64 t, .int .i64 n, s] 97) = w1 := ⟨_, rfl⟩
  rw [hw1] at ba hh
  have x1 := hh.cell 1
  simp at x1
  go_enter Tryz.func162, Tryz.ntmps162
  go_wp2_with fail
  refine (HF.out _).mono ?_
  rintro e w2 ⟨rfl, rfl⟩
  go_wp2_with fail
  go_ret
  exact ⟨rfl, ba⟩
set_option maxRecDepth 100000 in
theorem tab2_any {b D r x : Nat} {v : Value} {L : List (List Int)} (t n : Int) (s : List Int) (hs : TxB s) (w : World) (hx : Held w x 198 #[.pointer (some ⟨D, 0, none⟩)]) (hd : DictAt w b D r v L) (j : Nat) (hj : placeD L s = (j : Int)) (hl : j < 9223372036854775808) :
    Calls Tryz.prog 164 #[.agg #[.int .i64 t, .int .i64 n, .string (strOfNums s)], .pointer (some ⟨x, 0, none⟩)] w fun e w' => e = .returned (.int .u64 j) ∧ Below w.heap.size w w' := by
  have ba : Below w.heap.size w (w.alloc (.cells #[.int .i64 t, .int .i64 n, .string (strOfNums s)] 97)) := (Below.refl _ _).alloc (Nat.le_refl _) _
  have hh : Held (w.alloc (.cells #[.int .i64 t, .int .i64 n, .string (strOfNums s)] 97)) w.heap.size 97 #[.int .i64 t, .int .i64 n, .string (strOfNums s)] := heap_alloc_new w _
  have hxl := hx.lt
  obtain ⟨w1, hw1⟩ : ∃ w1, w.alloc (.cells #[.int .i64 t, .int .i64 n, .string (strOfNums s)] 97) = w1 := ⟨_, rfl⟩
  rw [hw1] at ba hh
  have HF := dfind_any (hd.below ba) s hs
  rw [hj, if_neg (by omega), decide_eq_true (by omega)] at HF
  have HF := Lib.hid HF
  have x2 := hh.cell 2
  have y0 := (hx.below ba hxl).cell 0
  simp at x2 y0
  clear hd hx hj
  go_enter Tryz.func164, Tryz.ntmps164
  go_wp2_with fail
  refine HF.out.mono ?_
  rintro e w2 ⟨rfl, rfl⟩
  go_wp2_with fail
  go_ret
  exact ⟨rfl, ba⟩
/-- A function value is stored. -/
theorem store_func {P : Program} {w : World} {b i : Nat} {t : TypeId} {cs : Array Value} {u f : Value} (h : Held w b t cs) (hi : cs[i]? = some u) (hf : f.oneCell' = true) : (store ⟨b, i, none⟩ f).run P w = .ok () (w.setCell ⟨b, i, none⟩ f) := by
  rw [run_store _ _ _ _ _ hf, h.cell i, hi]
  simp [h.frozen i]
/-- What the table's variable is, laid and written. -/
theorem lay_table (w : World) (N x : Nat) (hN : w.heap.size = N) : ∃ w3, (store ⟨N, 0, none⟩ .nilFunc).run Tryz.prog (w.alloc (.cells #[.nilFunc, .nilFunc, .nilFunc] 202)) = .ok () (w.alloc (.cells #[.nilFunc, .nilFunc, .nilFunc] 202))
    ∧ (store ⟨N, 1, none⟩ (.func (.func 162) #[] #[])).run Tryz.prog (w.alloc (.cells #[.nilFunc, .nilFunc, .nilFunc] 202)) = .ok () (w.alloc (.cells #[.nilFunc, .func (.func 162) #[] #[], .nilFunc] 202))
    ∧ (store ⟨N, 2, none⟩ (.func (.func 164) #[] #[.pointer (some ⟨x, 0, none⟩)])).run Tryz.prog (w.alloc (.cells #[.nilFunc, .func (.func 162) #[] #[], .nilFunc] 202)) = .ok () w3
    ∧ Held w3 N 202 #[.nilFunc, .func (.func 162) #[] #[], .func (.func 164) #[] #[.pointer (some ⟨x, 0, none⟩)]] ∧ Below N w w3 ∧ w3.heap.size = N + 1 := by
  subst hN
  have h0 : Held (w.alloc (.cells #[.nilFunc, .nilFunc, .nilFunc] 202)) w.heap.size 202 #[.nilFunc, .nilFunc, .nilFunc] := heap_alloc_new w _
  have h1 : Held (w.alloc (.cells #[.nilFunc, .func (.func 162) #[] #[], .nilFunc] 202)) w.heap.size 202 #[.nilFunc, .func (.func 162) #[] #[], .nilFunc] := heap_alloc_new w _
  have q0 := store_func (P := Tryz.prog) (i := 0) (f := .nilFunc) h0 rfl rfl
  have q1 := store_func (P := Tryz.prog) (i := 1) (f := .func (.func 162) #[] #[]) h0 rfl rfl
  have q2 := store_func (P := Tryz.prog) (i := 2) (f := .func (.func 164) #[] #[.pointer (some ⟨x, 0, none⟩)]) h1 rfl rfl
  rw [World.setCell_alloc_new] at q0 q1 q2
  exact ⟨w.alloc (.cells #[.nilFunc, .func (.func 162) #[] #[], .func (.func 164) #[] #[.pointer (some ⟨x, 0, none⟩)]] 202), by simpa using q0, by simpa using q1, by simpa using q2, heap_alloc_new w _, (Below.refl _ _).alloc (Nat.le_refl _) _, by simp⟩
/-- What a writer's variable is, laid and written. -/
theorem lay_writer (w : World) (N : Nat) (f1 f2 : Value) (h1 : f1.oneCell' = true) (h2 : f2.oneCell' = true) (hN : w.heap.size = N) : ∃ w3, (store ⟨N, 0, none⟩ f1).run Tryz.prog (w.alloc (.cells #[.nilFunc, .nilFunc] 128)) = .ok () (w.alloc (.cells #[f1, .nilFunc] 128))
    ∧ (store ⟨N, 1, none⟩ f2).run Tryz.prog (w.alloc (.cells #[f1, .nilFunc] 128)) = .ok () w3
    ∧ Held w3 N 128 #[f1, f2] ∧ Below N w w3 ∧ w3.heap.size = N + 1 := by
  subst hN
  have i0 : Held (w.alloc (.cells #[.nilFunc, .nilFunc] 128)) w.heap.size 128 #[.nilFunc, .nilFunc] := heap_alloc_new w _
  have i1 : Held (w.alloc (.cells #[f1, .nilFunc] 128)) w.heap.size 128 #[f1, .nilFunc] := heap_alloc_new w _
  have q0 := store_func (P := Tryz.prog) (i := 0) (f := f1) i0 rfl h1
  have q1 := store_func (P := Tryz.prog) (i := 1) (f := f2) i1 rfl h2
  rw [World.setCell_alloc_new] at q0 q1
  exact ⟨w.alloc (.cells #[f1, f2] 128), by simpa using q0, by simpa using q1, heap_alloc_new w _, (Below.refl _ _).alloc (Nat.le_refl _) _, by simp⟩
abbrev TabVc (x : Nat) : Array Value := #[.nilFunc, .func (.func 162) #[] #[], .func (.func 164) #[] #[.pointer (some ⟨x, 0, none⟩)]]
abbrev argC (a : Ag) : Array Value := #[.int .i64 a.t, .int .i64 a.n, .string (strOfNums a.s)]
end Go.Proofs.YtimihhcidbeonaaGreat

namespace Go.Proofs.YtimihhcidbeonaaGreat
open Go.RowKit Go.ChangeShapes Go.WideShapes
set_option linter.unusedVariables false
abbrev WrP (g : Nat) : Value := .agg #[.func (.func 59) #[] #[.pointer (some ⟨g, 0, none⟩)], .func (.func 61) #[] #[.pointer (some ⟨g, 0, none⟩)]]
abbrev WrPc (g : Nat) : Array Value := #[.func (.func 59) #[] #[.pointer (some ⟨g, 0, none⟩)], .func (.func 61) #[] #[.pointer (some ⟨g, 0, none⟩)]]
set_option maxRecDepth 100000 in
set_option maxHeartbeats 1000000 in
theorem countP {w : World} {base g : Nat} {v : Value} {zs : List Int} (h : SnkP w base g v zs) (n : Nat) (hn : n < 9223372036854775808) (hl : zs.length ≤ 10000000000) (hbs : base ≤ w.heap.size) :
    Calls Tryz.prog 116 #[WrP g, .int .i64 n] w fun e w' => e = .returned (.tuple #[]) ∧ LeftP w base g v (zs ++ encI n) w' := by
  have ba : Below w.heap.size w (w.alloc (.cells (WrPc g) 128)) := (Below.refl _ _).alloc (Nat.le_refl _) _
  have hh : Held (w.alloc (.cells (WrPc g) 128)) w.heap.size 128 (WrPc g) := heap_alloc_new w _
  have h1 := h.below ba
  obtain ⟨w1, hw1⟩ : ∃ w1, w.alloc (.cells (WrPc g) 128) = w1 := ⟨_, rfl⟩
  rw [hw1] at ba hh h1
  have x0 := hh.cell 0
  simp at x0
  have HC := Lib.hid (putn_any h1 n (by omega) hl (Nat.le_trans hbs ba.size))
  generalize encI n = E at HC ⊢
  clear h h1
  go_enter Tryz.func116, Tryz.ntmps116
  go_wp2_with fail
  refine HC.out.mono ?_
  rintro e w2 ⟨rfl, hk⟩
  go_wp2_with fail
  go_end0
  exact ⟨rfl, LeftP.ahead ba hk⟩
set_option maxRecDepth 100000 in
set_option maxHeartbeats 1000000 in
theorem dictP {w : World} {base g b2 : Nat} {v : Value} {zs : List Int} (h : SnkP w base g v zs) (A : Option Addr) (c : Nat) (L : List (List Int)) (ho : w.ownsRow b2 9 1 (.slice A L.length c) L.length (strVs L)) (hT : Tx200 L) (hl : zs.length + (dictB L).length ≤ 10000000000) (hbs : base ≤ w.heap.size) :
    Calls Tryz.prog 117 #[WrP g, .slice A L.length c] w fun e w' => e = .returned (.tuple #[]) ∧ LeftP w base g v (zs ++ dictB L) w' := by
  obtain ⟨-, hc1, hc2⟩ := (ERow.of_own ho).len
  obtain ⟨F, hF⟩ : ∃ F : Nat → List Int, F = fun k => zs ++ encI L.length ++ catT (L.take k) := ⟨_, rfl⟩
  have hF0 : F 0 = zs ++ encI L.length := by rw [hF]; simp [catT]
  have hFn : F L.length = zs ++ dictB L := by rw [hF]; simp [dictB]
  have hFs : ∀ (k : Nat) (t : List Int), L[k]? = some t → F (k + 1) = F k ++ encT t := fun k t ht => by rw [hF]; simp only; rw [catT_take_succ L ht]; simp only [List.append_assoc]
  have hFl : ∀ k, (F k).length ≤ 10000000000 := fun k => by
    rw [hF]
    simp only [dictB, List.length_append] at hl ⊢
    have := catT_take_le L k
    omega
  rw [← hFn]
  have ba : Below w.heap.size w (w.alloc (.cells (WrPc g) 128)) := (Below.refl _ _).alloc (Nat.le_refl _) _
  have hh : Held (w.alloc (.cells (WrPc g) 128)) w.heap.size 128 (WrPc g) := heap_alloc_new w _
  obtain ⟨w1, hw1⟩ : ∃ w1, w.alloc (.cells (WrPc g) 128) = w1 := ⟨_, rfl⟩
  rw [hw1] at ba hh
  have s1 : w1.heap.size = w.heap.size + 1 := by rw [← hw1, World.size_alloc]
  have h1 := h.below ba
  have hc := countP h1 L.length (by omega) (by omega) (by omega)
  rw [← hF0] at hc
  have HC := Lib.hid hc
  have H1 := Lib.hid h1
  have HO1 := Lib.hid (own_below ho ba)
  have HT := Lib.hid hT
  have HFS := Lib.hid hFs
  have HFL := Lib.hid hFl
  have HBX := Lib.hid hh
  have HBA := Lib.hid ba
  have x0 := hh.cell 0
  have x1 := hh.cell 1
  simp at x0 x1
  obtain ⟨q, hq⟩ : ∃ q, w.heap.size = q := ⟨_, rfl⟩
  rw [hq] at x0 x1
  obtain ⟨n, hn⟩ : ∃ n, L.length = n := ⟨_, rfl⟩
  rw [hn] at hc1 HO1 ⊢
  rw [hn] at HC
  clear h hc h1 ho hT hF hF0 hFn hFs hFl hh ba hl
  go_enter Tryz.func117, Tryz.ntmps117
  go_wp2_with fail
  refine HC.out.mono ?_
  rintro e w2 ⟨rfl, hk2⟩
  have HL2 := Lib.hid hk2
  clear hk2 x0 x1 hw1 HC
  go_wp2_with fail
  go_loopg [12] n (fun gk i wr => ∃ (k : Nat), k ≤ n ∧ i = .int .i64 k ∧ Hid (n - k = gk) ∧ Hid (LeftP w1 base g v (F k) wr))
  case atStart => exact ⟨0, Nat.zero_le _, rfl, Lib.hid rfl, HL2⟩
  case round =>
    obtain ⟨k, hk, rfl, HGK, HL⟩ := hrel
    by_cases hlt : k < n
    · obtain ⟨t, ht⟩ : ∃ t, L[k]? = some t := ⟨_, List.getElem?_eq_getElem (by omega)⟩
      obtain ⟨v2, hs2, hb2, hv2⟩ := HL.out
      obtain ⟨b, o, rfl, _, hcl⟩ := (ERow.of_own (HL.out.keep H1.out HO1.out (by decide) (by decide))).block (by omega)
      have y0 := hcl k _ (strVs_at L ht)
      have y1 := (HL.out.held H1.out HBX.out (by decide) (by decide)).cell 1
      simp at y1
      rw [hq] at y1
      have htx := HT.out t (List.mem_of_getElem? ht)
      have hp := putt_any hs2 t htx.2 (by omega) (HFL.out k) (Nat.le_trans hbs (by have := HL.out.size; omega))
      rw [← HFS.out k t ht] at hp
      have HP := Lib.hid hp
      have HB2 := Lib.hid hb2
      have HV2 := Lib.hid hv2
      clear hp hcl ht hs2 hb2 hv2 htx
      go_wp2_with fail
      refine HP.out.mono ?_
      rintro e w5 ⟨rfl, hk5⟩
      have HL5 := Lib.hid (LeftP.trans HB2.out HV2.out hk5)
      clear hk5
      go_wp2_with fail
      go_roundg (n - (k + 1))
      case measure => have := HGK.out; omega
      case rel => exact ⟨k + 1, by omega, by go_num, Lib.hid rfl, HL5⟩
    · obtain rfl : k = n := by omega
      go_wp2_with fail
      go_end0
      exact ⟨rfl, LeftP.ahead HBA.out HL.out⟩
set_option maxRecDepth 100000 in
set_option maxHeartbeats 4000000 in
theorem eventsP {w : World} {base g b2 x D r : Nat} {v vd : Value} {zs : List Int} {L : List (List Int)} (h : SnkP w base g v zs) (A : Option Addr) (c : Nat) (l : List Em) (hrow : EvRow w base (.slice A l.length c) l) (hok : ∀ e ∈ l, EOk e) (hlen : l.length ≤ 1024)
    (hx : Held w x 198 #[.pointer (some ⟨D, 0, none⟩)]) (hd : DictAt w b2 D r vd L) (hL : L.length ≤ 1000000000) (hin : ∀ e ∈ l, ∀ a ∈ e.args, a.t = 2 → a.s ∈ L) (hl : zs.length + (evsB L l).length ≤ 10000000000) (hbs : base ≤ w.heap.size) :
    Calls Tryz.prog 119 #[WrP g, .slice A l.length c, TabV x] w fun e w' => e = .returned (.tuple #[]) ∧ LeftP w base g v (zs ++ evsB L l) w' := by
  obtain ⟨-, hc1, hc2⟩ := hrow.1.len
  obtain ⟨F, hF⟩ : ∃ F : Nat → List Int, F = fun k => zs ++ encI l.length ++ evlB L (l.take k) := ⟨_, rfl⟩
  have hF0 : F 0 = zs ++ encI l.length := by rw [hF]; simp [evlB]
  have hFn : F l.length = zs ++ evsB L l := by rw [hF]; simp [evsB]
  have hFs : ∀ (k : Nat) (e : Em), l[k]? = some e → F (k + 1) = F k ++ encI e.p.toNat ++ argsB L e.args := fun k e he => by rw [hF]; simp only; rw [evlB_succ he]; simp only [evB, List.append_assoc]
  have hFl : ∀ k, (F k).length ≤ 10000000000 := fun k => by
    rw [hF]
    simp only [evsB, evlB, List.length_append] at hl ⊢
    have := flatMap_take_le (evB L) l k
    omega
  rw [← hFn]
  obtain ⟨q, hq⟩ : ∃ q, w.heap.size = q := ⟨_, rfl⟩
  obtain ⟨w1, hw1⟩ : ∃ w1, (w.alloc (.cells (WrPc g) 128)).alloc (.cells (TabVc x) 202) = w1 := ⟨_, rfl⟩
  have b1 : Below w.heap.size w w1 := by rw [← hw1]; exact ((Below.refl _ _).alloc (Nat.le_refl _) _).alloc (by simp) _
  have s1 : w1.heap.size = q + 2 := by rw [← hw1, World.size_alloc, World.size_alloc, hq]
  have hb1 : Held w1 q 128 (WrPc g) := by rw [← hw1, ← hq]; exact Held.below (B := (w.alloc (.cells (WrPc g) 128)).heap.size) (heap_alloc_new w _) ((Below.refl _ _).alloc (Nat.le_refl _) _) (by simp)
  have ht1 : Held w1 (q + 1) 202 (TabVc x) := by rw [← hw1, ← hq, ← World.size_alloc w (.cells (WrPc g) 128)]; exact heap_alloc_new _ _
  have hs1 := h.below b1
  have hc := countP hs1 l.length (by omega) (by omega) (by omega)
  rw [← hF0] at hc
  have HC := Lib.hid hc
  have H1 := Lib.hid hs1
  have HX := Lib.hid (hx.below b1 hx.lt)
  have HD := Lib.hid (hd.below b1)
  have HEV := Lib.hid (fun W (hb : Below base w1 W) => (hrow.below (b1.mono hbs)).below hb)
  have HOK := Lib.hid hok
  have HIN := Lib.hid hin
  have HFS := Lib.hid hFs
  have HFL := Lib.hid hFl
  have HBX := Lib.hid hb1
  have HTB := Lib.hid ht1
  have HBA := Lib.hid b1
  have x0 := hb1.cell 0
  have x1 := hb1.cell 1
  simp at x0 x1
  obtain ⟨n, hn⟩ : ∃ n, l.length = n := ⟨_, rfl⟩
  rw [hn] at hc1 hlen HC HEV ⊢
  have hbs1 : base ≤ w1.heap.size := by omega
  clear h hc hs1 hrow hok hx hd hin hF hF0 hFn hFs hFl hb1 ht1 b1 hl
  go_enter Tryz.func119, Tryz.ntmps119
  go_wp2_with fail
  refine HC.out.mono ?_
  rintro e w2 ⟨rfl, hk2⟩
  have HL2 := Lib.hid hk2
  clear hk2 x0 x1 hw1 HC
  go_wp2_with fail
  go_loopg [16] n (fun gk i wr => ∃ (k : Nat), k ≤ n ∧ i = .int .i64 k ∧ Hid (n - k = gk) ∧ Hid (LeftP w1 base g v (F k) wr))
  case atStart => exact ⟨0, Nat.zero_le _, rfl, Lib.hid rfl, HL2⟩
  case round =>
    obtain ⟨k, hk, rfl, HGK, HL⟩ := hrel
    by_cases hlt : k < n
    · obtain ⟨e, he⟩ : ∃ e, l[k]? = some e := ⟨_, List.getElem?_eq_getElem (by omega)⟩
      have hem := List.mem_of_getElem? he
      have heo := HOK.out e hem
      have hlow := HL.out.low H1.out hbs1
      obtain ⟨b, o, rfl, hb, u0, u1, hokx, hl1, hl2⟩ := (HEV.out _ hlow).at he
      obtain ⟨pn, hpn⟩ : ∃ pn : Nat, e.p = (pn : Int) := ⟨e.p.toNat, by have := heo.low; omega⟩
      have hpl : pn < 64 := by have := heo.high; omega
      have hGR := fun W (hb : Below base w1 W) => (((HEV.out _ hb).2 e hem).1)
      have HFE := Lib.hid (show F (k + 1) = F k ++ encI pn ++ argsB L e.args by rw [HFS.out k e he, hpn]; rfl)
      have HAO := Lib.hid heo.args
      have HAI := Lib.hid (HIN.out e hem)
      have hfew := heo.few
      obtain ⟨ep, args, eA, ec⟩ := e
      simp only at u0 u1 hl1 hl2 hpn HFE HAO HAI hGR hfew
      subst hpn
      have HGR := Lib.hid hGR
      obtain ⟨q4, hq4⟩ : ∃ q4, wr.heap.size = q4 := ⟨_, rfl⟩
      obtain ⟨w4, hw4⟩ : ∃ w4, wr.alloc (.cells #[.int .i64 (pn : Int), .slice eA args.length ec] 100) = w4 := ⟨_, rfl⟩
      have b4 : Below wr.heap.size wr w4 := by rw [← hw4]; exact (Below.refl _ _).alloc (Nat.le_refl _) _
      have h4 : Held w4 q4 100 #[.int .i64 (pn : Int), .slice eA args.length ec] := by rw [← hw4, ← hq4]; exact heap_alloc_new wr _
      have hl4 := HL.out.behind b4
      have hs4 := H1.out
      obtain ⟨v2, hs2, hbt2, hv2⟩ := hl4
      have y0 := h4.cell 0
      have y1 := h4.cell 1
      simp at y0 y1
      have z0 := (LeftP.held ⟨v2, hs2, hbt2, hv2⟩ H1.out HBX.out (by decide) (by decide)).cell 0
      have z1 := (LeftP.held ⟨v2, hs2, hbt2, hv2⟩ H1.out HBX.out (by decide) (by decide)).cell 1
      simp at z0 z1
      have hs4w : w1.heap.size ≤ w4.heap.size := hbt2.size
      have HP := Lib.hid (countP hs2 pn (by omega) (HFL.out k) (by omega))
      have HS2 := Lib.hid hs2
      have HB2 := Lib.hid hbt2
      have HV2 := Lib.hid hv2
      have H4 := Lib.hid h4
      clear hs2 hbt2 hv2 h4 hs4 hokx hGR he hem heo hlow b4
      obtain ⟨wx, hwx⟩ : ∃ wx, wx = wr := ⟨_, rfl⟩
      subst hwx
      go_wp2_with fail
      refine HP.out.mono ?_
      rintro e w5 ⟨rfl, hk5⟩
      have y1' := (hk5.held HS2.out H4.out (by decide) (by decide)).cell 1
      simp at y1'
      have HL5 := Lib.hid (LeftP.trans HB2.out HV2.out hk5)
      clear hk5 y0 y1 z0 z1 u0 u1 hw4 HP HS2 HB2 HV2 H4
      go_wp2_with fail
      clear y1'
      obtain ⟨G, hG⟩ : ∃ G : Nat → List Int, G = fun j => F k ++ encI pn ++ argsB L (args.take j) := ⟨_, rfl⟩
      have HG0 := Lib.hid (show G 0 = F k ++ encI pn by rw [hG]; simp [argsB])
      have HGn := Lib.hid (show G args.length = F (k + 1) by rw [hG, HFE.out]; simp)
      have HGs := Lib.hid (show ∀ (j : Nat) (a : Ag), args[j]? = some a → G (j + 1) = G j ++ encI (argN L a) from fun j a ha => by rw [hG]; simp only; rw [argsB_succ ha]; simp only [List.append_assoc])
      have HGl := Lib.hid (show ∀ j, (G j).length ≤ 10000000000 from fun j => by
        have h1 := HFL.out (k + 1)
        have h2 := flatMap_take_le (fun a => encI (argN L a)) args j
        rw [HFE.out] at h1
        rw [hG]
        simp only [argsB, List.length_append] at h1 ⊢
        omega)
      clear hG
      go_loopg [27] args.length (fun gj i wr => ∃ (j : Nat), j ≤ args.length ∧ i = .int .i64 j ∧ Hid (args.length - j = gj) ∧ Hid (LeftP w1 base g v (G j) wr))
      case atStart => exact ⟨0, Nat.zero_le _, rfl, Lib.hid rfl, by rw [HG0.out]; exact HL5⟩
      case round =>
        obtain ⟨j, hj, rfl, HGJ, HM⟩ := hrel
        by_cases hjl : j < args.length
        · obtain ⟨a, ha⟩ : ∃ a, args[j]? = some a := ⟨_, List.getElem?_eq_getElem hjl⟩
          have ham := List.mem_of_getElem? ha
          have hao := HAO.out a ham
          have hai := HAI.out a ham
          obtain ⟨b3, o3, rfl, hb3, u0, u1, u2, hfit⟩ := (HGR.out _ (HM.out.low H1.out hbs1)).at ha
          have hyl := argN_lt (D := L) hao hL
          have HGE := Lib.hid (HGs.out j a ha)
          obtain ⟨q6, hq6⟩ : ∃ q6, wr.heap.size = q6 := ⟨_, rfl⟩
          obtain ⟨w6, hw6⟩ : ∃ w6, wr.alloc (.cells (argC a) 97) = w6 := ⟨_, rfl⟩
          have b6 : Below wr.heap.size wr w6 := by rw [← hw6]; exact (Below.refl _ _).alloc (Nat.le_refl _) _
          have h6 : Held w6 q6 97 (argC a) := by rw [← hw6, ← hq6]; exact heap_alloc_new wr _
          have hm6 := HM.out.behind b6
          have hbx6 := hm6.held H1.out HBX.out (by decide) (by decide)
          have htb6 := hm6.held H1.out HTB.out (by decide) (by decide)
          have hx6 := hm6.held H1.out HX.out (by decide) (by decide)
          have hd6 := hm6.dict H1.out HD.out
          obtain ⟨v3, hs3, hbt3, hv3⟩ := hm6
          have hs6w : w1.heap.size ≤ w6.heap.size := hbt3.size
          have HN := Lib.hid (fun W (hb : Below w6.heap.size w6 W) => putn_any (hs3.below hb) (argN L a) hyl (HGl.out j) (Nat.le_trans hbs1 (Nat.le_trans hs6w hb.size)))
          have HB3 := Lib.hid hbt3
          have HV3 := Lib.hid hv3
          rw [← HGE.out] at HN
          have HALL := Lib.hid (fun W (hb : Below w6.heap.size w6 W) => (⟨hbx6.below hb hbx6.lt, htb6.below hb htb6.lt, h6.below hb h6.lt⟩ : Held W q 128 (WrPc g) ∧ Held W (q + 1) 202 (TabVc x) ∧ Held W q6 97 (argC a)))
          have HALL2 := Lib.hid (fun W (hb : Below w6.heap.size w6 W) W2 (hk : LeftP W base g v3 (G (j + 1)) W2) => (⟨hk.held (hs3.below hb) (HALL.out W hb).1 (by decide) (by decide), hk.held (hs3.below hb) (HALL.out W hb).2.1 (by decide) (by decide), hk.held (hs3.below hb) (HALL.out W hb).2.2 (by decide) (by decide)⟩ : Held W2 q 128 (WrPc g) ∧ Held W2 (q + 1) 202 (TabVc x) ∧ Held W2 q6 97 (argC a)))
          by_cases ht : a.t = 1
          · have hy : foldI a.n = ((argN L a : Nat) : Int) := by
              obtain ⟨_, _, _, f1, f2⟩ := hfit
              have := foldI_range f1 f2
              rw [argN, if_pos ht]
              omega
            have HT := Lib.hid (fun W => tab1_any a.t a.n (.string (strOfNums a.s)) hfit.2.2.2.1 hfit.2.2.2.2 W)
            rw [hy] at HT
            generalize argN L a = y at HN HT hyl HGE hy
            have HS := Lib.hid (fun W (hb : Held W q 128 (WrPc g) ∧ Held W (q + 1) 202 (TabVc x) ∧ Held W q6 97 (argC a)) => (by
              have e0 := hb.1.cell 0
              have e1 := hb.2.1.cell 1
              have e2 := hb.2.2.cell 0
              have e3 := hb.2.2.cell 1
              have e4 := hb.2.2.cell 2
              simp at e0 e1 e2 e3 e4
              exact ⟨e0, e1, e2, e3, e4⟩ : W.cell? ⟨q, 0, none⟩ = some (.func (.func 59) #[] #[.pointer (some ⟨g, 0, none⟩)]) ∧ W.cell? ⟨q + 1, 1, none⟩ = some (.func (.func 162) #[] #[]) ∧ W.cell? ⟨q6, 0, none⟩ = some (.int .i64 a.t) ∧ W.cell? ⟨q6, 1, none⟩ = some (.int .i64 a.n) ∧ W.cell? ⟨q6, 2, none⟩ = some (.string (strOfNums a.s))))
            obtain ⟨at', hat⟩ : ∃ t, a.t = t := ⟨_, rfl⟩
            rw [hat] at HT HS ht u0
            simp only [argC, hat] at hw6
            subst ht
            clear ha ham hao hai hfit h6 hbx6 htb6 hx6 hd6 hs3 hbt3 hv3 b6 hy
            go_wp2_with fail
            go_region_held3 (fun W => W.cell? ⟨q, 0, none⟩ = some (.func (.func 59) #[] #[.pointer (some ⟨g, 0, none⟩)]) ∧ W.cell? ⟨q + 1, 1, none⟩ = some (.func (.func 162) #[] #[]) ∧ W.cell? ⟨q6, 0, none⟩ = some (.int .i64 1) ∧ W.cell? ⟨q6, 1, none⟩ = some (.int .i64 a.n) ∧ W.cell? ⟨q6, 2, none⟩ = some (.string (strOfNums a.s)))
              (first | exact HS.out _ (HALL2.out _ b7 _ hk8) | exact HS.out _ (HALL.out _ b7) | exact HS.out _ (HALL.out _ (Below.refl _ _).drew) | exact HS.out _ (HALL.out _ (Below.refl _ _)))
              (first
                | (go_at_call 162; (with_reducible refine (HT.out _).mono ?_); rintro e w7 ⟨rfl, hb7⟩; have b7 : Below w6.heap.size w6 w7 := (Below.refl _ _).drew.trans hb7)
                | (go_at_call 59; (with_reducible refine (HN.out _ b7).mono ?_); rintro e w8 ⟨rfl, hk8⟩))
            have HM8 := Lib.hid (LeftP.trans HB3.out HV3.out (LeftP.ahead b7 hk8))
            clear b7 hb7 hk8 HN HT
            go_wp2_with fail
            go_roundg (args.length - (j + 1))
            case measure => have := HGJ.out; omega
            case rel => exact ⟨j + 1, by omega, by go_num, Lib.hid rfl, HM8⟩
          · have ht2 : a.t = 2 := hao.kind.resolve_left ht
            have hy : placeD L a.s = ((argN L a : Nat) : Int) := by
              rw [argN, if_neg ht]
              exact placeD_in (hai ht2)
            have HT := Lib.hid (fun W (hb : Below w6.heap.size w6 W) => tab2_any a.t a.n a.s hfit.2.1 W (hx6.below hb hx6.lt) (hd6.below hb) (argN L a) hy (by
              rcases placeD_ways L a.s with ⟨q1, _⟩ | ⟨i, q1, q2, _⟩
              · omega
              · omega))
            clear ht
            have ht := ht2
            clear ht2
            generalize argN L a = y at HN HT hyl HGE hy
            have HS := Lib.hid (fun W (hb : Held W q 128 (WrPc g) ∧ Held W (q + 1) 202 (TabVc x) ∧ Held W q6 97 (argC a)) => (by
              have e0 := hb.1.cell 0
              have e1 := hb.2.1.cell 2
              have e2 := hb.2.2.cell 0
              have e3 := hb.2.2.cell 1
              have e4 := hb.2.2.cell 2
              simp at e0 e1 e2 e3 e4
              exact ⟨e0, e1, e2, e3, e4⟩ : W.cell? ⟨q, 0, none⟩ = some (.func (.func 59) #[] #[.pointer (some ⟨g, 0, none⟩)]) ∧ W.cell? ⟨q + 1, 2, none⟩ = some (.func (.func 164) #[] #[.pointer (some ⟨x, 0, none⟩)]) ∧ W.cell? ⟨q6, 0, none⟩ = some (.int .i64 a.t) ∧ W.cell? ⟨q6, 1, none⟩ = some (.int .i64 a.n) ∧ W.cell? ⟨q6, 2, none⟩ = some (.string (strOfNums a.s))))
            obtain ⟨at', hat⟩ : ∃ t, a.t = t := ⟨_, rfl⟩
            rw [hat] at HT HS ht u0
            simp only [argC, hat] at hw6
            subst ht
            clear ha ham hao hai hfit h6 hbx6 htb6 hx6 hd6 hs3 hbt3 hv3 b6 hy
            go_wp2_with fail
            go_region_held3 (fun W => W.cell? ⟨q, 0, none⟩ = some (.func (.func 59) #[] #[.pointer (some ⟨g, 0, none⟩)]) ∧ W.cell? ⟨q + 1, 2, none⟩ = some (.func (.func 164) #[] #[.pointer (some ⟨x, 0, none⟩)]) ∧ W.cell? ⟨q6, 0, none⟩ = some (.int .i64 2) ∧ W.cell? ⟨q6, 1, none⟩ = some (.int .i64 a.n) ∧ W.cell? ⟨q6, 2, none⟩ = some (.string (strOfNums a.s)))
              (first | exact HS.out _ (HALL2.out _ b7 _ hk8) | exact HS.out _ (HALL.out _ b7) | exact HS.out _ (HALL.out _ (Below.refl _ _).drew) | exact HS.out _ (HALL.out _ (Below.refl _ _)))
              (first
                | (go_at_call 164; (with_reducible refine (HT.out _ (Below.refl _ _).drew).mono ?_); rintro e w7 ⟨rfl, hb7⟩; have b7 : Below w6.heap.size w6 w7 := (Below.refl _ _).drew.trans hb7)
                | (go_at_call 59; (with_reducible refine (HN.out _ b7).mono ?_); rintro e w8 ⟨rfl, hk8⟩))
            have HM8 := Lib.hid (LeftP.trans HB3.out HV3.out (LeftP.ahead b7 hk8))
            clear b7 hb7 hk8 HN HT
            go_wp2_with fail
            go_roundg (args.length - (j + 1))
            case measure => have := HGJ.out; omega
            case rel => exact ⟨j + 1, by omega, by go_num, Lib.hid rfl, HM8⟩
        · obtain rfl : j = args.length := by omega
          have HM' := HM
          rw [HGn.out] at HM'
          go_wp2_with fail
          go_roundg (n - (k + 1))
          case measure => have := HGK.out; omega
          case rel => exact ⟨k + 1, by omega, by go_num, Lib.hid rfl, HM'⟩
    · obtain rfl : k = n := by omega
      go_wp2_with fail
      go_end0
      exact ⟨rfl, LeftP.ahead HBA.out HL.out⟩
end Go.Proofs.YtimihhcidbeonaaGreat
namespace Go.Proofs.YtimihhcidbeonaaGreat
open Go.RowKit Go.ChangeShapes Go.WideShapes
set_option linter.unusedVariables false
set_option maxRecDepth 100000 in
set_option maxHeartbeats 4000000 in
theorem pointsP {w : World} {base g : Nat} {v : Value} {zs : List Int} (h : SnkP w base g v zs) (A : Option Addr) (c : Nat) (l : List Pm) (hrow : TrRow w base (.slice A l.length c) l) (hok : BOk l) (h0 : 0 < l.length) (hl : zs.length + (payB l).length ≤ 10000000000) (hbs : base ≤ w.heap.size) :
    Calls Tryz.prog 63 #[WrP g, .slice A l.length c] w fun e w' => e = .returned (.tuple #[]) ∧ LeftP w base g v (zs ++ payB l) w' := by
  obtain ⟨-, hc1, hc2⟩ := hrow.1.len
  obtain ⟨L, hLe⟩ : ∃ L, addT [] l = L := ⟨_, rfl⟩
  obtain ⟨hL1, hL2⟩ := hok.dict
  rw [hLe] at hL1 hL2
  obtain ⟨p0, hp0⟩ : ∃ p, l[0]? = some p := ⟨_, List.getElem?_eq_getElem h0⟩
  obtain ⟨t0, ht0⟩ : ∃ t0 : Nat, p0.tm = (t0 : Int) := ⟨p0.tm.toNat, by have := (hok.pts p0 (List.mem_of_getElem? hp0)).fits.1; omega⟩
  have ht0l : t0 < 18446744073709551616 := by have := (hok.pts p0 (List.mem_of_getElem? hp0)).fits.2; omega
  have ht0e : (tmAt l 0).toNat = t0 := by rw [tmAt_of hp0, ht0]; rfl
  obtain ⟨F, hF⟩ : ∃ F : Nat → List Int, F = fun k => zs ++ encI t0 ++ encI l.length ++ dictB L ++ ptsB L l k := ⟨_, rfl⟩
  have hpay : zs ++ payB l = F l.length := by rw [hF]; simp only [payB, headB, hLe, ht0e, List.append_assoc]
  have hF0 : F 0 = zs ++ encI t0 ++ encI l.length ++ dictB L := by rw [hF]; simp [ptsB]
  have hFs : ∀ k, F (k + 1) = F k ++ ptB L l k := fun k => by rw [hF]; simp only; rw [ptsB_succ]; simp only [List.append_assoc]
  have hFl : ∀ k, k ≤ l.length → (F k).length ≤ 10000000000 := fun k hk => by
    have e1 : (F l.length).length ≤ 10000000000 := by rw [← hpay, List.length_append]; exact hl
    have mono : ∀ j, (F k).length ≤ (F (k + j)).length := fun j => by
      induction j with
      | zero => exact Nat.le_refl _
      | succ j ih => rw [← Nat.add_assoc, hFs, List.length_append]; omega
    have := mono (l.length - k)
    rw [show k + (l.length - k) = l.length by omega] at this
    omega
  rw [hpay]
  have hlz : (zs ++ encI t0 ++ encI l.length ++ dictB L).length ≤ 10000000000 := by rw [← hF0]; exact hFl 0 (Nat.zero_le _)
  obtain ⟨q, hq⟩ : ∃ q, w.heap.size = q := ⟨_, rfl⟩
  obtain ⟨w1, hw1⟩ : ∃ w1, w.alloc (.cells (WrPc g) 128) = w1 := ⟨_, rfl⟩
  have b1 : Below w.heap.size w w1 := by rw [← hw1]; exact (Below.refl _ _).alloc (Nat.le_refl _) _
  have s1 : w1.heap.size = q + 1 := by rw [← hw1, World.size_alloc, hq]
  have hb1 : Held w1 q 128 (WrPc g) := by rw [← hw1, ← hq]; exact heap_alloc_new w _
  have hof := dof_any A c l w1 ((hrow.below (b1.mono hbs)).more (by omega)) (by have := nT_le l hok.pts; have := hok.few; omega)
  rw [hLe] at hof
  have HOF := Lib.hid hof
  have HROW := Lib.hid hrow
  have HOK := Lib.hid hok
  have HH := Lib.hid h
  have HFS := Lib.hid hFs
  have HFL := Lib.hid hFl
  have HF0 := Lib.hid hF0
  have HLZ := Lib.hid hlz
  have HL2 := Lib.hid hL2
  have HLE := Lib.hid hLe
  have HB1 := Lib.hid b1
  have HBX := Lib.hid hb1
  have HP0 := Lib.hid hp0
  obtain ⟨n, hn⟩ : ∃ n, l.length = n := ⟨_, rfl⟩
  have HN := Lib.hid hn
  have HFEW := Lib.hid hok.few
  rw [hn] at HOF hc1 h0 HF0 HLZ ⊢
  clear hof hrow hok h hF hpay hF0 hFs hFl hlz hL2 hLe b1 hb1 hp0 hl hn
  go_enter Tryz.func63, Tryz.ntmps63
  go_wp2_with fail
  refine HOF.out.mono ?_
  rintro e w2 ⟨D, r, vd, rfl, hd2, hb2⟩
  have HD2 := Lib.hid hd2
  have HB2 := Lib.hid hb2
  have HTB := Lib.hid (table_any D w2)
  have s2 := hb2.size
  clear hd2 hb2 hw1 HOF
  go_wp2_with fail
  refine HTB.out.mono ?_
  rintro e w3 ⟨x, rfl, hx3, hxl, hb3⟩
  have s3 := hb3.size
  obtain ⟨N, hN⟩ : ∃ N, w3.heap.size = N := ⟨_, rfl⟩
  obtain ⟨w4, q0, q1, q2, ht4, hb4, s4⟩ := lay_table w3 N x hN
  have HD4 := Lib.hid ((HD2.out.below hb3).below (by rw [hN]; exact hb4))
  have HX4 := Lib.hid (hx3.below (B := N) hb4 (by rw [← hN]; exact hx3.lt))
  have HBA := Lib.hid (((HB1.out.trans (HB2.out.mono (by omega))).trans (hb3.mono (by omega))).trans (hb4.mono (by omega)))
  have HBX4 := Lib.hid (((HBX.out.below HB2.out (by omega)).below hb3 (by omega)).below hb4 (by omega))
  have HT4 := Lib.hid ht4
  have H4 := Lib.hid (HH.out.below HBA.out)
  have hbs4 : base ≤ w4.heap.size := by omega
  clear hx3 ht4 hb3 hb4 HTB HD2 HB2 HB1 HBX HH
  go_wp2_with fail
  clear q0 q1 q2
  have HTR := Lib.hid (fun W (hb : Below base w4 W) => (HROW.out.below (HBA.out.mono hbs)).below hb)
  obtain ⟨b, o, rfl, hb0, x0, -, -, -, -⟩ := (HTR.out _ (Below.refl _ _)).at HP0.out
  have HC0 := Lib.hid (fun W (hb : Below base w4 W) => (show W.cell? ⟨b, o, none⟩ = some (.int .u64 (t0 : Int)) by have := (hb.cell (p := ⟨b, o + 0 * 2, none⟩) hb0).trans x0; rw [ht0] at this; simpa using this))
  have HS0 := Lib.hid (fun W (h1 : Held W q 128 (WrPc g)) => (by
    have e0 := h1.cell 0
    have e1 := h1.cell 1
    simp at e0 e1
    exact ⟨e0, e1⟩ : W.cell? ⟨q, 0, none⟩ = some (.func (.func 59) #[] #[.pointer (some ⟨g, 0, none⟩)]) ∧ W.cell? ⟨q, 1, none⟩ = some (.func (.func 61) #[] #[.pointer (some ⟨g, 0, none⟩)])))
  have HZ := Lib.hid (show zs.length ≤ 10000000000 by have := HLZ.out; simp only [List.length_append] at this; omega)
  have HZ1 := Lib.hid (show (zs ++ encI t0).length ≤ 10000000000 by have := HLZ.out; simp only [List.length_append] at this ⊢; omega)
  have HN3 := Lib.hid (fun W (hb : Below w4.heap.size w4 W) => putn_any (H4.out.below hb) t0 ht0l HZ.out (Nat.le_trans hbs4 hb.size))
  have HALL := Lib.hid (fun W (hb : Below w4.heap.size w4 W) => (⟨(HS0.out W (HBX4.out.below hb HBX4.out.lt)).1, HC0.out W (hb.mono hbs4)⟩ : W.cell? ⟨q, 0, none⟩ = some (.func (.func 59) #[] #[.pointer (some ⟨g, 0, none⟩)]) ∧ W.cell? ⟨b, o, none⟩ = some (.int .u64 (t0 : Int))))
  have HALL2 := Lib.hid (fun W (hb : Below w4.heap.size w4 W) W2 (hk : LeftP W base g v (zs ++ encI t0) W2) => (⟨(HS0.out W2 (hk.held (H4.out.below hb) (HBX4.out.below hb HBX4.out.lt) (by decide) (by decide))).1, HC0.out W2 ((LeftP.ahead hb hk).low H4.out hbs4)⟩ : W2.cell? ⟨q, 0, none⟩ = some (.func (.func 59) #[] #[.pointer (some ⟨g, 0, none⟩)]) ∧ W2.cell? ⟨b, o, none⟩ = some (.int .u64 (t0 : Int))))
  clear x0 ht0 HROW
  have hc1' : 0 < n ∧ n ≤ c := ⟨h0, hc1⟩
  go_region_held3 (fun W => W.cell? ⟨q, 0, none⟩ = some (.func (.func 59) #[] #[.pointer (some ⟨g, 0, none⟩)]) ∧ W.cell? ⟨b, o, none⟩ = some (.int .u64 (t0 : Int)))
    (first | exact HALL2.out _ ((Below.refl _ _).drew) _ hk5 | exact HALL.out _ (Below.refl _ _).drew | exact HALL.out _ (Below.refl _ _))
    (first | (go_at_call 59; (with_reducible refine (HN3.out _ (Below.refl _ _).drew).mono ?_); rintro e w5 ⟨rfl, hk5⟩))
  have hl5 := LeftP.ahead (Below.refl _ _).drew hk5
  have x0 := (HS0.out _ (hl5.held H4.out HBX4.out (by decide) (by decide))).1
  have x1 := (HS0.out _ (hl5.held H4.out HBX4.out (by decide) (by decide))).2
  have hs5 := hl5.size
  obtain ⟨v5, hs5', hbt5, hv5⟩ := hl5
  have HC5 := Lib.hid (countP hs5' n (by omega) HZ1.out (by omega))
  have HB5 := Lib.hid hbt5
  have HV5 := Lib.hid hv5
  clear hk5 hs5' hbt5 hv5 HN3 HALL HALL2
  go_wp2_with fail
  refine HC5.out.mono ?_
  rintro e w6 ⟨rfl, hk6⟩
  have hl6 := LeftP.trans HB5.out HV5.out hk6
  have HS6 := Lib.hid (fun W (hb : Below w6.heap.size w6 W) => HS0.out _ ((hl6.held H4.out HBX4.out (by decide) (by decide)).below hb (hl6.held H4.out HBX4.out (by decide) (by decide)).lt))
  have hd6 := hl6.dict H4.out HD4.out
  have hs6 := hl6.size
  have hbx6 := hl6.held H4.out HBX4.out (by decide) (by decide)
  obtain ⟨v6, hs6', hbt6, hv6⟩ := hl6
  have HA6 := Lib.hid (fun W (hb : Below w6.heap.size w6 W) => dall_any (hd6.below hb) (by omega))
  have HD6 := Lib.hid (fun W (hb : Below w6.heap.size w6 W) (A : Option Addr) (c : Nat) (ho : W.ownsRow w6.heap.size 9 1 (.slice A L.length c) L.length (strVs L)) => dictP (hs6'.below hb) A c L ho HL2.out (by have := HLZ.out; rw [List.length_append] at this; exact this) (by have := hb.size; omega))
  have HSK := Lib.hid (fun W (hb : Below w6.heap.size w6 W) W2 (hk : LeftP W base g v6 (zs ++ encI t0 ++ encI n ++ dictB L) W2) => HS0.out W2 (hk.held (hs6'.below hb) (hbx6.below hb hbx6.lt) (by decide) (by decide)))
  have HB6 := Lib.hid hbt6
  have HV6 := Lib.hid hv6
  clear hk6 hs6' hbt6 hv6 hd6 x0 x1 HC5 HB5 HV5
  go_wp2_with fail
  go_region_held3 (fun W => W.cell? ⟨q, 0, none⟩ = some (.func (.func 59) #[] #[.pointer (some ⟨g, 0, none⟩)]) ∧ W.cell? ⟨q, 1, none⟩ = some (.func (.func 61) #[] #[.pointer (some ⟨g, 0, none⟩)]))
    (first | exact HSK.out _ b7 _ hk8 | exact HS6.out _ b7 | exact HS6.out _ (Below.refl _ _).drew | exact HS6.out _ (Below.refl _ _))
    (first
      | (go_at_call 118; (with_reducible refine (HA6.out _ (Below.refl _ _).drew).mono ?_); rintro e w7 ⟨A7, c7, rfl, ho7', hb7⟩; have ho7 : w7.ownsRow w6.heap.size 9 1 (.slice A7 L.length c7) L.length (strVs L) := ho7'; have b7 : Below w6.heap.size w6 w7 := (Below.refl _ _).drew.trans hb7)
      | (go_at_call 117; (with_reducible refine (HD6.out _ b7 A7 c7 ho7).mono ?_); rintro e w8 ⟨rfl, hk8⟩))
  have hl8 := LeftP.trans HB6.out HV6.out (LeftP.ahead b7 hk8)
  rw [← HF0.out] at hl8
  have HL8 := Lib.hid hl8
  clear hk8 b7 ho7 ho7' hb7 hl8 HA6 HD6 HSK HS6 HB6 HV6
  go_wp2_with fail
  go_loopg [29] n (fun gk i wr => ∃ (k : Nat), k ≤ n ∧ i = .int .i64 k ∧ Hid (n - k = gk) ∧ Hid (LeftP w4 base g v (F k) wr))
  case atStart => exact ⟨0, Nat.zero_le _, rfl, Lib.hid rfl, HL8⟩
  case round =>
    obtain ⟨k, hk, rfl, HGK, HL⟩ := hrel
    by_cases hlt : k < n
    · obtain ⟨d, hd⟩ : ∃ d, l[k]? = some d := ⟨_, List.getElem?_eq_getElem (by have := HN.out; omega)⟩
      have hdm := List.mem_of_getElem? hd
      have HPO := Lib.hid (HOK.out.pts d hdm)
      have hlow := HL.out.low H4.out hbs4
      obtain ⟨_, _, e9, _, u0, u1, hokd, hl1, hl2⟩ := (HTR.out _ hlow).at hd
      injection e9 with e9
      injection e9 with e9a e9b
      subst e9a e9b
      have HGR := Lib.hid (fun W (hb : Below base w4 W) => (((HTR.out _ hb).2 d hdm).1))
      have HFE := Lib.hid (show F (k + 1) = F k ++ ptB L l k from HFS.out k)
      have HEV := Lib.hid (show evsAt l k = d.evs from evsAt_of hd)
      have HIN := Lib.hid (show ∀ e ∈ d.evs, ∀ a ∈ e.args, a.t = 2 → a.s ∈ L from fun e he a ha ht => by rw [← HLE.out]; exact addT_has l [] d hdm e he a ha ht)
      have hfl := HFL.out (k + 1) (by have := HN.out; omega)
      obtain ⟨q7, hq7⟩ : ∃ q7, wr.heap.size = q7 := ⟨_, rfl⟩
      obtain ⟨w7, hw7⟩ : ∃ w7, wr.alloc (.cells #[.int .u64 d.tm, .slice d.A d.evs.length d.c] 51) = w7 := ⟨_, rfl⟩
      have b7 : Below wr.heap.size wr w7 := by rw [← hw7]; exact (Below.refl _ _).alloc (Nat.le_refl _) _
      have h7 : Held w7 q7 51 #[.int .u64 d.tm, .slice d.A d.evs.length d.c] := by rw [← hw7, ← hq7]; exact heap_alloc_new wr _
      have HL7 := Lib.hid (HL.out.behind b7)
      have H7 := Lib.hid h7
      obtain ⟨dA, hdA⟩ : ∃ dA, d.A = dA := ⟨_, rfl⟩
      rw [hdA] at u1 hw7 H7 HGR
      have hfew := HPO.out.few
      cases k with
      | zero =>
        simp only [Nat.zero_mul, Nat.add_zero] at u0 u1
        have HF1 := Lib.hid (show F (0 + 1) = F 0 ++ evsB L d.evs by rw [HFE.out, ptB, HEV.out]; simp)
        clear hd hdm hokd h7 b7 hlow hdA
        obtain ⟨v8, hs8, hbt8, hv8⟩ := HL7.out
        have HE8 := Lib.hid (eventsP hs8 dA d.c d.evs (HGR.out _ (HL7.out.low H4.out hbs4)) HPO.out.evs HPO.out.few (HL7.out.held H4.out HX4.out (by decide) (by decide)) (HL7.out.dict H4.out HD4.out) (by omega) HIN.out (by rw [← List.length_append, ← HF1.out]; exact hfl) (Nat.le_trans hbs4 HL7.out.size))
        rw [← HF1.out] at HE8
        have y1 := H7.out.cell 1
        have z0 := (HS0.out _ (HL7.out.held H4.out HBX4.out (by decide) (by decide))).1
        have z1 := (HS0.out _ (HL7.out.held H4.out HBX4.out (by decide) (by decide))).2
        have t0' := (HL7.out.held H4.out HT4.out (by decide) (by decide)).cell 0
        have t1' := (HL7.out.held H4.out HT4.out (by decide) (by decide)).cell 1
        have t2' := (HL7.out.held H4.out HT4.out (by decide) (by decide)).cell 2
        simp at y1 t0' t1' t2'
        have HB8 := Lib.hid hbt8
        have HV8 := Lib.hid hv8
        clear hs8 hbt8 hv8
        go_wp2_with fail
        refine HE8.out.mono ?_
        rintro e w8e ⟨rfl, hk8⟩
        have HL8e := Lib.hid (LeftP.trans HB8.out HV8.out hk8)
        clear hk8 y1 z0 z1 t0' t1' t2' HE8 HB8 HV8
        go_wp2_with fail
        go_roundg (n - (0 + 1))
        case measure => have := HGK.out; omega
        case rel => exact ⟨0 + 1, by omega, by go_num, Lib.hid rfl, HL8e⟩
      | succ m =>
        obtain ⟨d0, hd0⟩ : ∃ d, l[m]? = some d := ⟨_, List.getElem?_eq_getElem (by have := HN.out; omega)⟩
        have hord : d0.tm ≤ d.tm := HOK.out.ord m d0 d hd0 hd
        have hf0 := (HOK.out.pts d0 (List.mem_of_getElem? hd0)).fits
        have hfd := HPO.out.fits
        unfold Pm.Fits at hf0 hfd
        obtain ⟨y, hy⟩ : ∃ y : Nat, d.tm - d0.tm = (y : Int) := ⟨(d.tm - d0.tm).toNat, by omega⟩
        have hyl : y < 18446744073709551616 := by omega
        have HF1 := Lib.hid (show F (m + 1 + 1) = F (m + 1) ++ encI y ++ evsB L d.evs by
          have hst : stepN l (m + 1) = y := by
            unfold stepN
            rw [tmAt_of hd, show m + 1 - 1 = m from rfl, tmAt_of hd0, hy]
            rfl
          rw [HFE.out, ptB, HEV.out, if_pos (Nat.succ_pos m), hst, List.append_assoc])
        have HC9 := Lib.hid (fun W (hb : Below base w4 W) => (show W.cell? ⟨b, o + m * 2, none⟩ = some (.int .u64 d0.tm) from by
          obtain ⟨_, _, e9, _, z, _⟩ := (HTR.out _ hb).at hd0
          injection e9 with e9
          injection e9 with e9a e9b
          subst e9a e9b
          exact z))
        have hw9 : IntKind.u64.wrap (d.tm - d0.tm) = (y : Int) := by rw [hy]; exact IntWalk.u64_in _ (by omega)
        have hm9 : IntKind.i64.wrap (m : Int) = (m : Int) := IntWalk.i64_in _ (by omega)
        have hm1 : (0 : Int) ≤ (m : Int) := by omega
        have hm2 : (m : Int) < (n : Int) := by omega
        have hm3 : ¬ (m : Int) < 0 := by omega
        have hm4 : ¬ (n : Int) ≤ (m : Int) := by omega
        have hm5 : m < n := by omega
        obtain ⟨v8, hs8, hbt8, hv8⟩ := HL7.out
        have HN9 := Lib.hid (fun W (hb : Below w7.heap.size w7 W) => putn_any (hs8.below hb) y hyl (HFL.out (m + 1) (by have := HN.out; omega)) (Nat.le_trans (Nat.le_trans hbs4 HL7.out.size) hb.size))
        have HQ7 := Lib.hid (HL7.out.held H4.out HBX4.out (by decide) (by decide))
        have HALL := Lib.hid (fun W (hb : Below w7.heap.size w7 W) => (⟨(HS0.out W (HQ7.out.below hb HQ7.out.lt)).1, by have := (H7.out.below hb H7.out.lt).cell 0; simpa using this, HC9.out W ((HL7.out.low H4.out hbs4).trans (hb.mono (Nat.le_trans hbs4 HL7.out.size)))⟩ : W.cell? ⟨q, 0, none⟩ = some (.func (.func 59) #[] #[.pointer (some ⟨g, 0, none⟩)]) ∧ W.cell? ⟨q7, 0, none⟩ = some (.int .u64 d.tm) ∧ W.cell? ⟨b, o + m * 2, none⟩ = some (.int .u64 d0.tm)))
        have HK7 := Lib.hid (fun W (hb : Below w7.heap.size w7 W) W2 (hk : LeftP W base g v8 (F (m + 1) ++ encI y) W2) => hk.held (hs8.below hb) (H7.out.below hb H7.out.lt) (by decide) (by decide))
        have HALL2 := Lib.hid (fun W (hb : Below w7.heap.size w7 W) W2 (hk : LeftP W base g v8 (F (m + 1) ++ encI y) W2) => (⟨(HS0.out W2 (hk.held (hs8.below hb) (HQ7.out.below hb HQ7.out.lt) (by decide) (by decide))).1, by have := (HK7.out W hb W2 hk).cell 0; simpa using this, HC9.out W2 ((LeftP.trans hbt8 hv8 (LeftP.ahead hb hk)).low H4.out hbs4)⟩ : W2.cell? ⟨q, 0, none⟩ = some (.func (.func 59) #[] #[.pointer (some ⟨g, 0, none⟩)]) ∧ W2.cell? ⟨q7, 0, none⟩ = some (.int .u64 d.tm) ∧ W2.cell? ⟨b, o + m * 2, none⟩ = some (.int .u64 d0.tm)))
        have HB8 := Lib.hid hbt8
        have HV8 := Lib.hid hv8
        clear hd hdm hokd h7 b7 hlow hdA hd0 hf0 hfd hs8 hbt8 hv8 hy
        go_wp2_with fail
        go_region_held3 (fun W => W.cell? ⟨q, 0, none⟩ = some (.func (.func 59) #[] #[.pointer (some ⟨g, 0, none⟩)]) ∧ W.cell? ⟨q7, 0, none⟩ = some (.int .u64 d.tm) ∧ W.cell? ⟨b, o + m * 2, none⟩ = some (.int .u64 d0.tm))
          (first | exact HALL2.out _ ((Below.refl _ _).drew) _ hk9 | exact HALL.out _ (Below.refl _ _).drew | exact HALL.out _ (Below.refl _ _))
          (first | (go_at_call 59; (with_reducible refine (HN9.out _ (Below.refl _ _).drew).mono ?_); rintro e w9 ⟨rfl, hk9⟩))
        have HL9 := Lib.hid (LeftP.trans HB8.out HV8.out (LeftP.ahead (Below.refl _ _).drew hk9))
        have H9 := Lib.hid (HK7.out _ (Below.refl _ _).drew _ hk9)
        clear hk9 HN9 HALL HALL2 HK7 HQ7 HB8 HV8 hw9 hm9 u0 u1
        obtain ⟨v9, hs9, hbt9, hv9⟩ := HL9.out
        have HE9 := Lib.hid (eventsP hs9 dA d.c d.evs (HGR.out _ (HL9.out.low H4.out hbs4)) HPO.out.evs HPO.out.few (HL9.out.held H4.out HX4.out (by decide) (by decide)) (HL9.out.dict H4.out HD4.out) (by omega) HIN.out (by rw [← List.length_append, ← HF1.out]; exact hfl) (Nat.le_trans hbs4 HL9.out.size))
        rw [← HF1.out] at HE9
        have y1 := H9.out.cell 1
        have z0 := (HS0.out _ (HL9.out.held H4.out HBX4.out (by decide) (by decide))).1
        have z1 := (HS0.out _ (HL9.out.held H4.out HBX4.out (by decide) (by decide))).2
        have t0' := (HL9.out.held H4.out HT4.out (by decide) (by decide)).cell 0
        have t1' := (HL9.out.held H4.out HT4.out (by decide) (by decide)).cell 1
        have t2' := (HL9.out.held H4.out HT4.out (by decide) (by decide)).cell 2
        simp at y1 t0' t1' t2'
        have HB9 := Lib.hid hbt9
        have HV9 := Lib.hid hv9
        clear hs9 hbt9 hv9
        go_wp2_with fail
        refine HE9.out.mono ?_
        rintro e w9e ⟨rfl, hk9⟩
        have HL9e := Lib.hid (LeftP.trans HB9.out HV9.out hk9)
        clear hk9 y1 z0 z1 t0' t1' t2' HE9 HB9 HV9
        go_wp2_with fail
        go_roundg (n - (m + 1 + 1))
        case measure => have := HGK.out; omega
        case rel => exact ⟨m + 1 + 1, by omega, by go_num, Lib.hid rfl, HL9e⟩
    · obtain rfl : k = n := by omega
      go_wp2_with fail
      go_end0
      exact ⟨rfl, LeftP.ahead HBA.out HL.out⟩
end Go.Proofs.YtimihhcidbeonaaGreat
