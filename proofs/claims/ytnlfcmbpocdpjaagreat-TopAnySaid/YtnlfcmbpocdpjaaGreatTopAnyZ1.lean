/-
  What the theorem of TopAny rests on, part 1 of 16.
-/
import Derived.Test.YtnlfcmbpocdpjaaGreatRows
import Derived.Laws.BytesArg
import Derived.OpenShut
import Derived.Laws.OwnMore
import Derived.OwnWalkIn
import Derived.Below
import Derived.Deep.Draws
import Derived.Shelf.Bytes.SlEqualAll
import Derived.Maps.AppendAt
import Derived.RangeFuncNested
import Derived.RangeFuncBox
import Derived.Lib.ConvBytes
import Derived.Lib.AppendStr
import Derived.Deep.AppendLies
import Derived.WalkKit
import Derived.Deep.SlicePairs
import Derived.WalkSpells
import Derived.WalkLawsBesides
import Derived.LoopTactic
import Derived.Lib.Hide
import Derived.Lib.Strings
import Derived.Deep.LoopGhost
set_option maxRecDepth 100000
set_option maxHeartbeats 16000000
namespace Go.Proofs.YtnlfcmbpocdpjaaGreat
theorem pU : (∀ (α : Type) (l : List α) (i : Nat) (h : i < l.toArray.size), l.toArray[i] = l[i]'(by simpa using h)) ∧ (∀ (α : Type) (a : α) (l : List α) (h : 0 < (a :: l).length), (a :: l)[0] = a) ∧
  (∀ (α : Type) (a : α) (l : List α) (i : Nat) (h : i + 1 < (a :: l).length), (a :: l)[i + 1] = l[i]'(by simpa using h)) ∧ (∀ (a : Act) (d : Option Tmp) (v : Value), a.put d v = match d with | some d => { a with tmps := a.tmps.setIfInBounds d v } | none => a) ∧
  (∀ (α : Type) (l : List α) (i : Nat) (a : α), l.toArray.setIfInBounds i a = (l.set i a).toArray) ∧ (∀ (α : Type) (a b : α) (l : List α), (a :: l).set 0 b = b :: l) ∧ ∀ (α : Type) (a b : α) (l : List α) (i : Nat), (a :: l).set (i + 1) b = a :: l.set i b :=
  ⟨fun _ _ _ _ => by simp, fun _ _ _ _ => rfl, fun _ _ _ _ _ => rfl, fun _ _ _ => rfl, fun _ _ _ _ => by simp, fun _ _ _ _ => rfl, fun _ _ _ _ _ => rfl⟩
theorem pV : (∀ (α : Type) (l : List α) (i : Nat), l.toArray[i]? = l[i]?) ∧ (∀ (α : Type) (a : α) (l : List α), (a :: l)[0]? = some a) ∧ (∀ (α : Type) (a : α) (l : List α) (i : Nat), (a :: l)[i + 1]? = l[i]?) ∧ ∀ (α : Type) (a b : α), (some a).getD b = a :=
  ⟨fun _ _ _ => by simp, fun _ _ _ => rfl, fun _ _ _ _ => rfl, fun _ _ _ => rfl⟩
theorem pW : (∀ (α : Type) (a b : List α), (a ++ b).length = a.length + b.length) ∧ (∀ (α : Type) (a : α) (l : List α), (a :: l).length = l.length + 1) ∧ (∀ (α : Type), ([] : List α).length = 0) ∧ ∀ n : Nat, 0 + n = n :=
  ⟨fun _ _ _ => List.length_append, fun _ _ _ => rfl, fun _ => rfl, Nat.zero_add⟩
open Lib (hid)
def szZ (zs : List Int) (i : Nat) : Nat := (zs.getD (i % zs.length) 0).toNat
def restZ (zs : List Int) (xs : List Int) : Nat → List Int
 | 0 => xs
 | i + 1 => (restZ zs xs i).drop (szZ zs i)
def cutZ (zs xs : List Int) (i : Nat) : List Int := (restZ zs xs i).take (szZ zs i)
def chZ (zs xs : List Int) (k : Nat) : List (List Int) := (List.range k).map (cutZ zs xs)
def GoodZ (zs : List Int) : Prop := zs ≠ [] ∧ ∀ z ∈ zs, 0 < z
def DoneZ (zs xs : List Int) (k : Nat) : Prop := restZ zs xs k = [] ∧ ∀ j, j < k → restZ zs xs j ≠ []
def ChunksZ (zs xs : List Int) (L : List (List Int)) : Prop := (¬ GoodZ zs ∧ xs ≠ [] ∧ L = [xs]) ∨ ((GoodZ zs ∨ xs = []) ∧ ∃ k, DoneZ zs xs k ∧ L = chZ zs xs k)
section
variable {zs xs : List Int} {i k m : Nat} {L M : List (List Int)}
theorem chZ_length : (chZ zs xs k).length = k := by simp [chZ]
theorem chZ_succ : chZ zs xs (k + 1) = chZ zs xs k ++ [cutZ zs xs k] := by simp [chZ, List.range_succ]
theorem chZ_flat : ∀ k, (chZ zs xs k).flatten ++ restZ zs xs k = xs
 | 0 => by simp [chZ, restZ]
 | k + 1 => by
  rw [chZ_succ, List.flatten_append, List.append_assoc]
  show _ ++ (List.flatten [(restZ zs xs k).take (szZ zs k)] ++ (restZ zs xs k).drop (szZ zs k)) = xs
  rw [List.flatten_singleton, List.take_append_drop]
  exact chZ_flat k
theorem szZ_pos (h : GoodZ zs) (i : Nat) : 0 < szZ zs i := by
 have hl : 0 < zs.length := List.length_pos_iff.2 h.1
 have hi : i % zs.length < zs.length := Nat.mod_lt _ hl
 have := h.2 _ (List.getElem_mem hi)
 unfold szZ
 rw [List.getD_eq_getElem?_getD, List.getElem?_eq_getElem hi, Option.getD_some]
 omega
theorem restZ_less (h : GoodZ zs) (hr : restZ zs xs i ≠ []) : (restZ zs xs (i + 1)).length < (restZ zs xs i).length := by
 have := szZ_pos h i
 have hl : 0 < (restZ zs xs i).length := List.length_pos_iff.2 hr
 show ((restZ zs xs i).drop (szZ zs i)).length < _
 rw [List.length_drop]
 omega
theorem restZ_len (h : GoodZ zs) : ∀ k, (∀ j, j < k → restZ zs xs j ≠ []) → (restZ zs xs k).length + k ≤ xs.length
 | 0, _ => by simp [restZ]
 | k + 1, hj => by
  have h1 := restZ_len h k (fun j hk => hj j (by omega))
  have h2 := restZ_less h (hj k (by omega))
  omega
theorem DoneZ.unique (h : DoneZ zs xs k) (g : DoneZ zs xs m) : k = m := by
 rcases Nat.lt_trichotomy k m with q | q | q
 ·exact absurd h.1 (g.2 k q)
 ·exact q
 ·exact absurd g.1 (h.2 m q)
theorem DoneZ.flat (h : DoneZ zs xs k) : (chZ zs xs k).flatten = xs := by
 have := chZ_flat (zs := zs) (xs := xs) k
 rwa [h.1, List.append_nil] at this
theorem DoneZ.nil (zs : List Int) : DoneZ zs [] 0 := ⟨rfl, fun _ h => absurd h (Nat.not_lt_zero _)⟩
theorem DoneZ.len (h : DoneZ zs xs k) (hg : GoodZ zs ∨ xs = []) : k ≤ xs.length := by
 rcases hg with hg | rfl
 ·have := restZ_len hg k h.2
  omega
 ·rw [h.unique (DoneZ.nil zs)]
  exact Nat.zero_le _
theorem ChunksZ.flat (h : ChunksZ zs xs L) : L.flatten = xs := by
 rcases h with ⟨_, _, rfl⟩ | ⟨_, k, h2, rfl⟩
 ·simp
 ·exact h2.flat
theorem ChunksZ.len (h : ChunksZ zs xs L) : L.length ≤ xs.length := by
 rcases h with ⟨_, h2, rfl⟩ | ⟨h1, k, h2, rfl⟩
 ·exact List.length_pos_iff.2 h2
 ·rw [chZ_length]
  exact h2.len h1
theorem ChunksZ.mem (h : ChunksZ zs xs L) : ∀ c ∈ L, ∀ x ∈ c, x ∈ xs := fun c hc x hx => by
 rw [← h.flat]
 exact List.mem_flatten.2 ⟨c, hc, hx⟩
end
def encF : Nat → Nat → List Int
 | 0, _ => []
 | k + 1, n => if n < 128 then [(n : Int)] else ((n : Int) % 128 + 128) :: encF k (n / 128)
def encI (n : Nat) : List Int := encF (n + 1) n
theorem encF_same (k : Nat) : ∀ (m n : Nat), n < k → n < m → encF k n = encF m n := by
 induction k with
 | zero => intro m n h _; omega
 | succ k ih =>
  intro m n hk hm
  cases m with
  | zero => omega
  | succ m =>
   simp only [encF]
   by_cases h : n < 128
   ·rw [if_pos h, if_pos h]
   ·rw [if_neg h, if_neg h, ih m (n / 128) (by omega) (by omega)]
theorem encI_small {n : Nat} (h : n < 128) : encI n = [(n : Int)] := by rw [encI, encF, if_pos h]
theorem encI_great {n : Nat} (h : ¬ n < 128) : encI n = ((n : Int) % 128 + 128) :: encI (n / 128) := by
 rw [encI, encF, if_neg h, encF_same n (n / 128 + 1) (n / 128) (by omega) (by omega), ← encI]
theorem encI_length (k : Nat) : ∀ n : Nat, n < 128 ^ (k + 1) → 1 ≤ (encI n).length ∧ (encI n).length ≤ k + 1 := by
 induction k with
 | zero => intro n h; rw [encI_small (by omega)]; simp
 | succ k ih =>
  intro n h
  by_cases hn : n < 128
  ·rw [encI_small hn]; simp
  ·rw [encI_great hn]
   have := ih (n / 128) (by rw [Nat.pow_succ] at h; omega)
   simp only [List.length_cons]; omega
theorem encI_ten {n : Nat} (h : n < 18446744073709551616) : 1 ≤ (encI n).length ∧ (encI n).length ≤ 10 := encI_length 9 n (by omega)
theorem encI_byte (k : Nat) : ∀ n : Nat, n < 128 ^ (k + 1) → ∀ x ∈ encI n, 0 ≤ x ∧ x < 256 := by
 induction k with
 | zero => intro n h x hx; rw [encI_small (by omega)] at hx; simp at hx; omega
 | succ k ih =>
  intro n h x hx
  by_cases hn : n < 128
  ·rw [encI_small hn] at hx; simp at hx; omega
  ·rw [encI_great hn] at hx
   rcases List.mem_cons.1 hx with rfl | hx
   ·omega
   ·exact ih (n / 128) (by rw [Nat.pow_succ] at h; omega) x hx
theorem encI_bytes {n : Nat} (h : n < 18446744073709551616) : ∀ x ∈ encI n, 0 ≤ x ∧ x < 256 := encI_byte 9 n (by omega)
def foldI (x : Int) : Int := if x < 0 then 2 * (-1 - x) + 1 else 2 * x
def unfoldI (n : Int) : Int := if n % 2 = 1 then -1 - n / 2 else n / 2
theorem foldI_range {x : Int} (h1 : -9223372036854775808 ≤ x) (h2 : x ≤ 9223372036854775807) : 0 ≤ foldI x ∧ foldI x ≤ 18446744073709551615 := by
 unfold foldI; split <;> omega
theorem unfoldI_range {n : Int} (h1 : 0 ≤ n) (h2 : n ≤ 18446744073709551615) : -9223372036854775808 ≤ unfoldI n ∧ unfoldI n ≤ 9223372036854775807 := by
 unfold unfoldI; split <;> omega
theorem unfold_fold (x : Int) : unfoldI (foldI x) = x := by
 unfold unfoldI foldI; split <;> split <;> omega
def val : List Int → Int
 | [] => 0
 | x :: r => x % 128 + 128 * val r
theorem val_nonneg : ∀ l : List Int, 0 ≤ val l
 | [] => by simp [val]
 | x :: r => by have := val_nonneg r; simp only [val]; omega
theorem val_lt : ∀ l : List Int, val l < 128 ^ l.length
 | [] => by simp [val]
 | x :: r => by
  have h := val_lt r
  simp only [val, List.length_cons]
  rw [Int.pow_succ]
  omega
theorem val_snoc (x : Int) : ∀ l : List Int, val (l ++ [x]) = val l + 128 ^ l.length * (x % 128)
 | [] => by simp [val]
 | y :: r => by
  have h := val_snoc x r
  simp only [List.cons_append, val, h, List.length_cons]
  rw [Int.pow_succ, Int.mul_add, Int.mul_comm ((128 : Int) ^ r.length) 128, Int.mul_assoc]
  omega
def lastI (i : Nat) (x : Int) : Int := if i = 9 ∧ 1 < x then 3 else if 0 < i ∧ x = 0 then 4 else 0
def lenI : Nat → List Int → Nat × Int
 | i, [] => if i < 10 then (0, 2) else (0, 3)
 | i, x :: r => if 10 ≤ i then (0, 3) else if x < 128 then (i + 1, lastI i x) else lenI (i + 1) r
def getI (xs : List Int) : Int × Nat × Int :=
 if (lenI 0 xs).2 = 0 then (val (xs.take (lenI 0 xs).1), (lenI 0 xs).1, 0) else (0, 0, (lenI 0 xs).2)
theorem lenI_drop (xs : List Int) : ∀ k : Nat, k ≤ 10 → (∀ j, j < k → 128 ≤ xs.getD j 0) → k ≤ xs.length → lenI 0 xs = lenI k (xs.drop k) := by
 intro k
 induction k with
 | zero => intro _ _ _; simp
 | succ k ih =>
  intro h10 hj hl
  rw [ih (by omega) (fun j h => hj j (by omega)) (by omega)]
  have hk : k < xs.length := by omega
  rw [List.drop_eq_getElem_cons hk, lenI, if_neg (by omega), if_neg]
  have := hj k (by omega)
  rw [List.getD, List.getElem?_eq_getElem hk] at this
  simpa using this
theorem lenI_found (xs : List Int) (k : Nat) (hk : k < 10) (hj : ∀ j, j < k → 128 ≤ xs.getD j 0) (hl : k < xs.length) (hx : xs.getD k 0 < 128) : lenI 0 xs = (k + 1, lastI k (xs.getD k 0)) := by
 rw [lenI_drop xs k (by omega) hj (by omega), List.drop_eq_getElem_cons hl, lenI, if_neg (by omega)]
 rw [List.getD, List.getElem?_eq_getElem hl] at hx ⊢
 simp only [Option.getD_some] at hx ⊢
 rw [if_pos hx]
theorem lenI_short (xs : List Int) (hl : xs.length < 10) (hj : ∀ j, j < xs.length → 128 ≤ xs.getD j 0) : lenI 0 xs = (0, 2) := by
 rw [lenI_drop xs xs.length (by omega) hj (Nat.le_refl _), List.drop_length, lenI, if_pos hl]
theorem lenI_long (xs : List Int) (hl : 10 ≤ xs.length) (hj : ∀ j, j < 10 → 128 ≤ xs.getD j 0) : lenI 0 xs = (0, 3) := by
 rw [lenI_drop xs 10 (by omega) hj hl]
 cases h : xs.drop 10 with
 | nil => simp [lenI]
 | cons x r => simp [lenI]
theorem lenI_enc (rest : List Int) (k : Nat) : ∀ (i n : Nat), i + k = 9 → n < 2 * 128 ^ k → (0 < i → 0 < n) → lenI i (encI n ++ rest) = (i + (encI n).length, 0) ∧ val (encI n) = n := by
 induction k with
 | zero =>
  intro i n hi hn h0
  have hs : n < 128 := by omega
  rw [encI_small hs]
  simp only [List.cons_append, List.nil_append, lenI, List.length_cons, List.length_nil, val]
  rw [if_neg (by omega), if_pos (by omega), lastI, if_neg (by omega), if_neg (by omega)]
  exact ⟨rfl, by omega⟩
 | succ k ih =>
  intro i n hi hn h0
  by_cases hs : n < 128
  ·rw [encI_small hs]
   simp only [List.cons_append, List.nil_append, lenI, List.length_cons, List.length_nil, val]
   rw [if_neg (by omega), if_pos (by omega), lastI, if_neg (by omega), if_neg (by omega)]
   exact ⟨rfl, by omega⟩
  ·rw [encI_great hs]
   obtain ⟨h1, h2⟩ := ih (i + 1) (n / 128) (by omega) (by rw [Nat.pow_succ] at hn; omega) (by omega)
   simp only [List.cons_append, lenI, List.length_cons, val]
   rw [if_neg (by omega), if_neg (by omega), h1, h2]
   exact ⟨by simp; omega, by omega⟩
theorem getI_enc {n : Nat} (hn : n < 18446744073709551616) (rest : List Int) : getI (encI n ++ rest) = ((n : Int), (encI n).length, 0) := by
 obtain ⟨h1, h2⟩ := lenI_enc rest 9 0 n (by omega) (by omega) (by omega)
 unfold getI
 rw [h1]
 simp [h2]
theorem lenI_back : ∀ (xs : List Int) (i : Nat), (∀ x ∈ xs, 0 ≤ x ∧ x < 256) → (lenI i xs).2 = 0 → ∃ s, (lenI i xs).1 = i + s ∧ 1 ≤ s ∧ s ≤ xs.length ∧ s ≤ 10 - i ∧ encI (val (xs.take s)).toNat = xs.take s ∧ (0 < i → 0 < val (xs.take s)) ∧ (i ≤ 9 → val (xs.take s) < 2 * 128 ^ (9 - i))
 | [], i => by intro _ h; simp only [lenI] at h; split at h <;> simp at h
 | x :: r, i => by
  intro hb h
  have hx := hb x (by simp)
  by_cases hi : 10 ≤ i
  ·simp [lenI, hi] at h
  ·by_cases hl : x < 128
   ·simp only [lenI, if_neg hi, if_pos hl, lastI] at h ⊢
    refine ⟨1, rfl, by omega, by simp, by omega, ?_, ?_, ?_⟩
    ·simp only [List.take_succ_cons, List.take_zero, val]
     rw [encI_small (by omega)]
     simp; omega
    ·intro h0
     simp only [List.take_succ_cons, List.take_zero, val]
     split at h
     ·simp at h
     ·split at h
      ·simp at h
      ·omega
    ·intro h9
     simp only [List.take_succ_cons, List.take_zero, val]
     split at h
     ·simp at h
     ·rename_i hn9
      by_cases e9 : i = 9
      ·subst e9; simp; omega
      ·have : (1 : Int) ≤ 128 ^ (9 - i - 1) := Int.pow_pos (by omega)
       have e : (128 : Int) ^ (9 - i) = 128 ^ (9 - i - 1) * 128 := by rw [← Int.pow_succ]; congr 1; omega
       rw [e]; omega
   ·simp only [lenI, if_neg hi, if_neg hl] at h ⊢
    obtain ⟨s, h1, h2, h3, h3', h4, h5, h6⟩ := lenI_back r (i + 1) (fun y hy => hb y (by simp [hy])) h
    have h5 := h5 (by omega)
    refine ⟨s + 1, by omega, by omega, by simp; omega, by omega, ?_, ?_, ?_⟩
    ·simp only [List.take_succ_cons, val]
     have hv := val_nonneg (r.take s)
     rw [encI_great (by omega)]
     rw [show (x % 128 + 128 * val (r.take s)).toNat / 128 = (val (r.take s)).toNat by omega, h4]
     congr 1
     omega
    ·intro _; simp only [List.take_succ_cons, val]; omega
    ·intro h9
     simp only [List.take_succ_cons, val]
     have h9' : i + 1 ≤ 9 := by omega
     have h6 := h6 h9'
     have e : (128 : Int) ^ (9 - i) = 128 ^ (9 - (i + 1)) * 128 := by rw [← Int.pow_succ]; congr 1; omega
     rw [e]; omega
theorem getI_back (xs : List Int) (hb : ∀ x ∈ xs, 0 ≤ x ∧ x < 256) (h : (lenI 0 xs).2 = 0) : 1 ≤ (lenI 0 xs).1 ∧ (lenI 0 xs).1 ≤ xs.length ∧ (lenI 0 xs).1 ≤ 10 ∧ encI (val (xs.take (lenI 0 xs).1)).toNat = xs.take (lenI 0 xs).1 ∧ val (xs.take (lenI 0 xs).1) < 18446744073709551616 := by
 obtain ⟨s, h1, h2, h3, h3', h4, _, h6⟩ := lenI_back xs 0 hb h
 have h6 := h6 (by omega)
 rw [h1, Nat.zero_add]
 exact ⟨h2, h3, h3', h4, by simpa using h6⟩
def encT (s : List Int) : List Int := encI s.length ++ s
def getT (most : Int) (xs : List Int) : List Int × Nat × Int :=
 if (getI xs).2.2 ≠ 0 then ([], 0, (getI xs).2.2)
 else if max most 0 < (getI xs).1 then ([], 0, 6)
 else if ((xs.length - (getI xs).2.1 : Nat) : Int) < (getI xs).1 then ([], 0, 2)
 else ((xs.drop (getI xs).2.1).take (getI xs).1.toNat, (getI xs).2.1 + (getI xs).1.toNat, 0)
theorem encT_length (s : List Int) : (encT s).length = (encI s.length).length + s.length := by simp [encT]
theorem getI_ok (xs : List Int) (hb : ∀ x ∈ xs, 0 ≤ x ∧ x < 256) (h : (getI xs).2.2 = 0) :
  ∃ n s : Nat, getI xs = ((n : Int), s, 0) ∧ 1 ≤ s ∧ s ≤ xs.length ∧ s ≤ 10 ∧ encI n = xs.take s ∧ n < 18446744073709551616 := by
 by_cases hok : (lenI 0 xs).2 = 0
 ·obtain ⟨k1, k2, k3, k4, k5⟩ := getI_back xs hb hok
  have hv0 := val_nonneg (xs.take (lenI 0 xs).1)
  refine ⟨(val (xs.take (lenI 0 xs).1)).toNat, (lenI 0 xs).1, ?_, k1, k2, k3, k4, by omega⟩
  unfold getI
  rw [if_pos hok, Int.toNat_of_nonneg hv0]
 ·exfalso
  unfold getI at h
  rw [if_neg hok] at h
  exact hok h
theorem getT_err {most : Int} {xs : List Int} {er : Int} (h : (getI xs).2.2 = er) (hne : er ≠ 0) : getT most xs = ([], 0, er) := by
 unfold getT
 rw [if_pos (by rw [h]; exact hne), h]
theorem getT_limit {most : Int} {xs : List Int} {n s : Nat} (h : getI xs = ((n : Int), s, 0)) (hl : max most 0 < (n : Int)) : getT most xs = ([], 0, 6) := by
 unfold getT
 rw [h, if_neg (by simp), if_pos hl]
theorem getT_short {most : Int} {xs : List Int} {n s : Nat} (h : getI xs = ((n : Int), s, 0)) (hl : ¬ max most 0 < (n : Int)) (hs : xs.length - s < n) : getT most xs = ([], 0, 2) := by
 unfold getT
 rw [h, if_neg (by simp), if_neg hl, if_pos (by simp only; omega)]
theorem getT_ok {most : Int} {xs : List Int} {n s : Nat} (h : getI xs = ((n : Int), s, 0)) (hl : ¬ max most 0 < (n : Int)) (hs : ¬ xs.length - s < n) : getT most xs = ((xs.drop s).take n, s + n, 0) := by
 unfold getT
 rw [h, if_neg (by simp), if_neg hl, if_neg (by simp only; omega)]
 simp
theorem getT_enc {most : Int} {s : List Int} (hs : s.length < 18446744073709551616) (hm : ¬ max most 0 < (s.length : Int)) (rest : List Int) : getT most (encT s ++ rest) = (s, (encT s).length, 0) := by
 have h := getI_enc hs (s ++ rest)
 rw [encT, List.append_assoc, getT_ok h hm (by simp)]
 simp
theorem getT_back {most : Int} (xs : List Int) (hb : ∀ x ∈ xs, 0 ≤ x ∧ x < 256) (h : (getT most xs).2.2 = 0) :
  1 ≤ (getT most xs).2.1 ∧ (getT most xs).2.1 ≤ xs.length ∧ encT (getT most xs).1 = xs.take (getT most xs).2.1 ∧ (getT most xs).1.length ≤ xs.length ∧ (∀ x ∈ (getT most xs).1, 0 ≤ x ∧ x < 256) := by
 by_cases he : (getI xs).2.2 = 0
 ·obtain ⟨n, s, hg, h1, h2, h3, h4, h5⟩ := getI_ok xs hb he
  by_cases hl : max most 0 < (n : Int)
  ·rw [getT_limit hg hl] at h; simp at h
  ·by_cases hs : xs.length - s < n
   ·rw [getT_short hg hl hs] at h; simp at h
   ·rw [getT_ok hg hl hs]
    have hlen : ((xs.drop s).take n).length = n := by simp; omega
    refine ⟨by simp only; omega, by simp only; omega, ?_, by simp; omega, fun x hx => hb x (List.mem_of_mem_drop (List.mem_of_mem_take hx))⟩
    simp only [encT, hlen, h4]
    rw [List.take_add]
 ·rw [getT_err rfl he] at h
  exact absurd h he
theorem getT_size {most : Int} (xs : List Int) (hb : ∀ x ∈ xs, 0 ≤ x ∧ x < 256) : (getT most xs).2.1 ≤ xs.length ∧ (getT most xs).1.length ≤ xs.length ∧ (∀ x ∈ (getT most xs).1, 0 ≤ x ∧ x < 256) := by
 by_cases h : (getT most xs).2.2 = 0
 ·obtain ⟨_, h2, _, h4, h5⟩ := getT_back xs hb h
  exact ⟨h2, h4, h5⟩
 ·unfold getT at h ⊢
  split
  ·simp
  ·split
   ·simp
   ·split
    ·simp
    ·rename_i a b c
     rw [if_neg a, if_neg b, if_neg c] at h
     exact absurd rfl h
def catT (l : List (List Int)) : List Int := l.flatMap encT
theorem catT_snoc (l : List (List Int)) (s : List Int) : catT (l ++ [s]) = catT l ++ encT s := by simp [catT]
theorem encT_bytes {s : List Int} (hs : s.length < 18446744073709551616) (hb : ∀ x ∈ s, 0 ≤ x ∧ x < 256) : ∀ x ∈ encT s, 0 ≤ x ∧ x < 256 := fun x hx => by
 rcases List.mem_append.1 hx with h | h
 ·exact encI_bytes hs x h
 ·exact hb x h
theorem encT_pos {s : List Int} (hs : s.length < 18446744073709551616) : 0 < (encT s).length := by
 have := (encI_ten hs).1
 rw [encT_length]; omega
theorem catT_take_succ (l : List (List Int)) {k : Nat} {t : List Int} (h : l[k]? = some t) : catT (l.take (k + 1)) = catT (l.take k) ++ encT t := by
 obtain ⟨hk, rfl⟩ := List.getElem?_eq_some_iff.1 h
 rw [List.take_succ_eq_append_getElem hk, catT_snoc]
theorem catT_le (B : Nat) (hB : B < 18446744073709551616) : ∀ l : List (List Int), (∀ t ∈ l, t.length ≤ B) → (catT l).length ≤ (B + 10) * l.length
 | [], _ => by simp [catT]
 | s :: l, h => by
  have h1 := catT_le B hB l (fun t ht => h t (by simp [ht]))
  have h2 := h s (by simp)
  have h3 := (encI_ten (n := s.length) (by omega)).2
  have e : catT (s :: l) = encT s ++ catT l := by simp [catT]
  rw [e, List.length_append, encT_length, List.length_cons, Nat.mul_succ]
  omega
def tk {α : Type} (z : α) (p : Nat) (e : Int) (r : α × Nat × Int) : α × Nat × Int :=
 if e ≠ 0 then (z, p, e) else if r.2.2 ≠ 0 then (z, p, r.2.2) else (r.1, p + r.2.1, 0)
def getB (ys : List Int) : Int × Nat × Int := match ys with | [] => (0, 0, 2) | y :: _ => (y, 1, 0)
def getN (most : Int) (ys : List Int) : Int × Nat × Int := if (getI ys).2.2 = 0 ∧ most < (getI ys).1 then ((getI ys).1, (getI ys).2.1, 6) else getI ys
def getS (ys : List Int) : Int × Nat × Int := (unfoldI (getI ys).1, (getI ys).2.1, (getI ys).2.2)
section
variable {α : Type} {z : α} {p : Nat} {e : Int} {r : α × Nat × Int}
theorem tk_stopped (h : e ≠ 0) : tk z p e r = (z, p, e) := by unfold tk; rw [if_pos h]
theorem tk_err (h : r.2.2 ≠ 0) : tk z p 0 r = (z, p, r.2.2) := by unfold tk; rw [if_neg (by simp), if_pos h]
theorem tk_ok (h : r.2.2 = 0) : tk z p 0 r = (r.1, p + r.2.1, 0) := by unfold tk; rw [if_neg (by simp), if_neg (by rw [h]; simp)]
theorem tk_never {n : Nat} (hp : p ≤ n) (hr : r.2.2 = 0 → r.2.1 ≤ n - p) : p ≤ (tk z p e r).2.1 ∧ (tk z p e r).2.1 ≤ n ∧ (e ≠ 0 → (tk z p e r).2.1 = p ∧ (tk z p e r).2.2 = e) := by
 by_cases he : e = 0
 ·subst he
  by_cases h : r.2.2 = 0
  ·rw [tk_ok h]
   have := hr h
   exact ⟨by simp, by simp only; omega, fun h => absurd rfl h⟩
  ·rw [tk_err h]
   exact ⟨Nat.le_refl _, hp, fun h => absurd rfl h⟩
 ·rw [tk_stopped he]
  exact ⟨Nat.le_refl _, hp, fun _ => ⟨rfl, rfl⟩⟩
end
def Fits {α : Type} (ys : List Int) (r : α × Nat × Int) : Prop := (r.2.2 = 0 → r.2.1 ≤ ys.length) ∧ 0 ≤ r.2.2 ∧ r.2.2 ≤ 6
theorem getB_fits (ys : List Int) : Fits ys (getB ys) := by
 cases ys with
 | nil => exact ⟨fun h => by simp [getB] at h, by simp [getB], by simp [getB]⟩
 | cons y r => exact ⟨fun _ => by simp [getB], by simp [getB], by simp [getB]⟩
theorem lastI_small (i : Nat) (x : Int) : 0 ≤ lastI i x ∧ lastI i x ≤ 6 := by
 unfold lastI
 split <;> (try split) <;> omega
theorem lenI_small : ∀ (ys : List Int) (i : Nat), 0 ≤ (lenI i ys).2 ∧ (lenI i ys).2 ≤ 6
 | [], i => by simp only [lenI]; split <;> simp
 | x :: r, i => by
  simp only [lenI]
  split
  ·simp
  ·split
   ·exact lastI_small i x
   ·exact lenI_small r (i + 1)
theorem getI_fits (ys : List Int) (hb : ∀ x ∈ ys, 0 ≤ x ∧ x < 256) : Fits ys (getI ys) := by
 refine ⟨fun h => ?_, ?_⟩
 ·obtain ⟨n, s, hgi, _, h2, _⟩ := getI_ok ys hb h
  rw [hgi]
  exact h2
 ·unfold getI
  split
  ·simp
  ·exact lenI_small ys 0
theorem getN_fits (most : Int) (ys : List Int) (hb : ∀ x ∈ ys, 0 ≤ x ∧ x < 256) : Fits ys (getN most ys) := by
 unfold getN
 split
 ·exact ⟨fun h => by simp at h, by simp, by simp⟩
 ·exact getI_fits ys hb
theorem getS_fits (ys : List Int) (hb : ∀ x ∈ ys, 0 ≤ x ∧ x < 256) : Fits ys (getS ys) := getI_fits ys hb
theorem getT_fits (most : Int) (ys : List Int) (hb : ∀ x ∈ ys, 0 ≤ x ∧ x < 256) : Fits ys (getT most ys) := by
 refine ⟨fun h => (getT_size ys hb).1, ?_⟩
 have h := (getI_fits ys hb).2
 unfold getT
 split
 ·exact h
 ·split
  ·simp
  ·split <;> simp
theorem getI_range (ys : List Int) (hb : ∀ x ∈ ys, 0 ≤ x ∧ x < 256) : 0 ≤ (getI ys).1 ∧ (getI ys).1 ≤ 18446744073709551615 := by
 by_cases h : (getI ys).2.2 = 0
 ·obtain ⟨n, s, hgi, _, _, _, _, h6⟩ := getI_ok ys hb h
  rw [hgi]
  simp only
  omega
 ·unfold getI at h ⊢
  split
  ·rename_i h2
   rw [if_pos h2] at h
   exact absurd rfl h
  ·simp
theorem drop_bytes {xs : List Int} (hb : ∀ x ∈ xs, 0 ≤ x ∧ x < 256) (p : Nat) : ∀ x ∈ xs.drop p, 0 ≤ x ∧ x < 256 := fun x hx => hb x (List.mem_of_mem_drop hx)
def polyI : Nat := 3988292384
def st (m : Nat) : Nat := m / 2 ^^^ (if m % 2 = 1 then polyI else 0)
def it : Nat → Nat → Nat
 | 0, m => m
 | k + 1, m => it k (st m)
def stateI (n : Nat) (xs : List Nat) : Nat := xs.foldl (fun n x => it 8 (n ^^^ x)) n
def sumI (xs : List Nat) : Nat := 4294967295 ^^^ stateI 4294967295 xs
theorem st_lt {m : Nat} (h : m < 4294967296) : st m < 4294967296 := by
 unfold st
 have : m / 2 < 2 ^ 32 := by omega
 have hp : (if m % 2 = 1 then polyI else 0) < 2 ^ 32 := by split <;> decide
 exact Nat.xor_lt_two_pow this hp
theorem it_lt (k : Nat) : ∀ {m : Nat}, m < 4294967296 → it k m < 4294967296 := by
 induction k with
 | zero => intro m h; exact h
 | succ k ih => intro m h; simp only [it]; exact ih (st_lt h)
theorem state_append (n : Nat) (xs ys : List Nat) : stateI n (xs ++ ys) = stateI (stateI n xs) ys := by simp [stateI, List.foldl_append]
theorem sum_more (xs ys : List Nat) : sumI (xs ++ ys) = 4294967295 ^^^ stateI (4294967295 ^^^ sumI xs) ys := by
 unfold sumI
 rw [state_append, ← Nat.xor_assoc, Nat.xor_self, Nat.zero_xor]
theorem state_lt : ∀ (xs : List Nat) {n : Nat}, n < 4294967296 → (∀ x ∈ xs, x < 256) → stateI n xs < 4294967296
 | [], n, h, _ => h
 | x :: r, n, h, hb => by
  have hx := hb x (by simp)
  exact state_lt r (it_lt 8 (Nat.xor_lt_two_pow (n := 32) (by omega) (by omega))) (fun y hy => hb y (by simp [hy]))
theorem sum_lt {xs : List Nat} (hb : ∀ x ∈ xs, x < 256) : sumI xs < 4294967296 := Nat.xor_lt_two_pow (n := 32) (by omega) (state_lt xs (by omega) hb)
def firstAt (q : Nat → Bool) : Nat → Nat → Int
 | 0, _ => -1
 | n + 1, a => if q a then (a : Int) else firstAt q n (a + 1)
theorem firstAt_cases (q : Nat → Bool) : ∀ (n a : Nat), (firstAt q n a = -1 ∧ ∀ j, a ≤ j → j < a + n → q j = false) ∨ ∃ r : Nat, firstAt q n a = (r : Int) ∧ a ≤ r ∧ r < a + n ∧ q r = true ∧ ∀ j, a ≤ j → j < r → q j = false
 | 0, a => Or.inl ⟨rfl, fun j h1 h2 => by omega⟩
 | n + 1, a => by
  by_cases h : q a = true
  ·exact Or.inr ⟨a, by simp only [firstAt, if_pos h], Nat.le_refl _, by omega, h, fun j h1 h2 => by omega⟩
  ·have hf : q a = false := by simpa using h
   rcases firstAt_cases q n (a + 1) with ⟨e, hn⟩ | ⟨r, e, h1, h2, h3, h4⟩
   ·refine Or.inl ⟨by rw [firstAt, if_neg h, e], fun j h1 h2 => ?_⟩
    by_cases he : j = a
    ·rw [he]; exact hf
    ·exact hn j (by omega) (by omega)
   ·refine Or.inr ⟨r, by rw [firstAt, if_neg h, e], by omega, by omega, h3, fun j h5 h6 => ?_⟩
    by_cases he : j = a
    ·rw [he]; exact hf
    ·exact h4 j (by omega) h6
structure Pr where
 name : List Int
 args : List Int
 deriving DecidableEq
instance : Inhabited Pr := ⟨⟨[], []⟩⟩
def inB (c low high : Int) : Bool := decide (low ≤ c) && decide (c ≤ high)
def nameB (c : Int) : Bool := inB c 65 90 || inB c 97 122 || inB c 48 57 || decide (c = 95)
def okName (s : List Int) : Bool := decide (0 < s.length) && decide (s.length ≤ 32) && !inB (s.getD 0 0) 48 57 && s.all nameB
def findP (l : List Pr) (nm : List Int) : Int := firstAt (fun i => decide ((l.getD i default).name = nm)) l.length 0
def whyP (l : List Pr) (i : Nat) : Int :=
 if okName (l.getD i default).name = false ∨ findP l (l.getD i default).name < i then 9
 else if 8 < (l.getD i default).args.length then 6
 else if (l.getD i default).args.all (fun t => inB t 1 2) = false then 7 else 0
def firstWhy (f : Nat → Int) : Nat → Nat → Int
 | 0, _ => 0
 | n + 1, a => if f a = 0 then firstWhy f n (a + 1) else f a
def checkP (l : List Pr) : Int := if 64 < l.length then 6 else firstWhy (whyP l) l.length 0
theorem firstWhy_none {f : Nat → Int} : ∀ (n a : Nat), (∀ j, a ≤ j → j < a + n → f j = 0) → firstWhy f n a = 0
 | 0, _, _ => rfl
 | n + 1, a, h => by
  rw [firstWhy, if_pos (h a (Nat.le_refl _) (by omega))]
  exact firstWhy_none n (a + 1) fun j h1 h2 => h j (by omega) (by omega)
theorem firstWhy_found {f : Nat → Int} : ∀ (n a r : Nat), a ≤ r → r < a + n → (∀ j, a ≤ j → j < r → f j = 0) → f r ≠ 0 → firstWhy f n a = f r
 | 0, a, r, h1, h2, _, _ => by omega
 | n + 1, a, r, h1, h2, h3, h4 => by
  rw [firstWhy]
  by_cases h : a = r
  ·subst h
   rw [if_neg h4]
  ·rw [if_pos (h3 a (Nat.le_refl _) (by omega))]
   exact firstWhy_found n (a + 1) r (by omega) (by omega) (fun j q1 q2 => h3 j (by omega) q2) h4
theorem firstWhy_zero {f : Nat → Int} : ∀ (n a : Nat), firstWhy f n a = 0 → ∀ j, a ≤ j → j < a + n → f j = 0
 | 0, a, _, j, h1, h2 => by omega
 | n + 1, a, h, j, h1, h2 => by
  rw [firstWhy] at h
  split at h
  ·rename_i h0
   by_cases e : j = a
   ·rw [e]; exact h0
   ·exact firstWhy_zero n (a + 1) h j (by omega) (by omega)
  ·rename_i h0
   exact absurd h h0
theorem checkP_many {l : List Pr} (h : 64 < l.length) : checkP l = 6 := if_pos h
theorem checkP_found {l : List Pr} (h : l.length ≤ 64) {r : Nat} (hr : r < l.length) (h3 : ∀ j, j < r → whyP l j = 0) (h4 : whyP l r ≠ 0) : checkP l = whyP l r := by
 rw [checkP, if_neg (by omega)]
 exact firstWhy_found _ _ r (Nat.zero_le _) (by omega) (fun j _ h => h3 j h) h4
theorem checkP_none {l : List Pr} (h : l.length ≤ 64) (h3 : ∀ j, j < l.length → whyP l j = 0) : checkP l = 0 := by
 rw [checkP, if_neg (by omega)]
 exact firstWhy_none _ _ fun j _ h => h3 j (by omega)
theorem findP_ways (l : List Pr) (nm : List Int) : (findP l nm = -1 ∧ ∀ (j : Nat) (q : Pr), l[j]? = some q → q.name ≠ nm) ∨ ∃ (r : Nat) (p : Pr), findP l nm = (r : Int) ∧ l[r]? = some p ∧ p.name = nm ∧ ∀ (j : Nat) (q : Pr), j < r → l[j]? = some q → q.name ≠ nm := by
 have key : ∀ (j : Nat) (q : Pr), l[j]? = some q → ((decide ((l.getD j default).name = nm)) = false → q.name ≠ nm) := by
  intro j q hj h
  simpa [List.getD, hj] using h
 rcases firstAt_cases (fun i => decide ((l.getD i default).name = nm)) l.length 0 with ⟨e, hn⟩ | ⟨r, e, h1, h2, h3, h4⟩
 ·exact .inl ⟨e, fun j q hj => key j q hj (hn j (Nat.zero_le _) (by have := (List.getElem?_eq_some_iff.1 hj).1; omega))⟩
 ·have hr : l[r]? = some (l[r]'(by omega)) := List.getElem?_eq_getElem (by omega)
  refine .inr ⟨r, _, e, hr, ?_, fun j q hj hq => key j q hq (h4 j (Nat.zero_le _) hj)⟩
  simpa [List.getD, hr] using h3
def Okay (l : List Pr) (i : Nat) (p : Pr) : Prop := okName p.name = true ∧ (∀ (j : Nat) (q : Pr), j < i → l[j]? = some q → q.name ≠ p.name) ∧ p.args.length ≤ 8 ∧ ∀ t ∈ p.args, 1 ≤ t ∧ t ≤ 2
theorem find_self {l : List Pr} {i : Nat} {p : Pr} (hp : l[i]? = some p) : (¬ findP l p.name < i) ↔ ∀ (j : Nat) (q : Pr), j < i → l[j]? = some q → q.name ≠ p.name := by
 rcases findP_ways l p.name with ⟨_, hn⟩ | ⟨r, q, e, h1, h2, h3⟩
 ·exact absurd rfl (hn i p hp)
 ·rw [e]
  constructor
  ·intro h j q hj hq
   exact h3 j q (by omega) hq
  ·intro h h5
   exact h r q (by omega) h1 h2
theorem whyP_zero {l : List Pr} {i : Nat} {p : Pr} (hp : l[i]? = some p) : whyP l i = 0 ↔ Okay l i p := by
 have e : l.getD i default = p := by simp [List.getD, hp]
 unfold whyP Okay
 rw [e, ← find_self hp]
 have h4 : (p.args.all (fun t => inB t 1 2) = false) ↔ ¬ ∀ t ∈ p.args, 1 ≤ t ∧ t ≤ 2 := by
  rw [← Bool.not_eq_true, List.all_eq_true]
  simp [inB]
 by_cases h1 : okName p.name = false ∨ findP l p.name < i
 ·rw [if_pos h1]
  constructor
  ·intro h; cases h
  ·rintro ⟨h2, h3, _⟩
   rcases h1 with h1 | h1
   ·rw [h1] at h2; cases h2
   ·exact absurd h1 h3
 ·rw [if_neg h1]
  rw [not_or] at h1
  by_cases h2 : 8 < p.args.length
  ·rw [if_pos h2]
   constructor
   ·intro h; cases h
   ·rintro ⟨_, _, h3, _⟩; omega
  ·rw [if_neg h2]
   by_cases h3 : p.args.all (fun t => inB t 1 2) = false
   ·rw [if_pos h3]
    constructor
    ·intro h; cases h
    ·rintro ⟨_, _, _, h5⟩; exact absurd h5 (h4.1 h3)
   ·rw [if_neg h3]
    refine ⟨fun _ => ⟨by simpa using h1.1, h1.2, by omega, ?_⟩, fun _ => rfl⟩
    exact Classical.byContradiction fun h => h3 (h4.2 h)
theorem checkP_zero {l : List Pr} : checkP l = 0 ↔ l.length ≤ 64 ∧ ∀ (i : Nat) (p : Pr), l[i]? = some p → Okay l i p := by
 constructor
 ·intro h
  by_cases hl : 64 < l.length
  ·rw [checkP_many hl] at h; cases h
  ·rw [checkP, if_neg hl] at h
   exact ⟨by omega, fun i p hp => (whyP_zero hp).1 (firstWhy_zero _ _ h i (Nat.zero_le _) (by have := (List.getElem?_eq_some_iff.1 hp).1; omega))⟩
 ·rintro ⟨hl, h⟩
  refine checkP_none hl fun j hj => ?_
  have hp : l[j]? = some (l[j]'hj) := List.getElem?_eq_getElem hj
  exact (whyP_zero hp).2 (h j _ hp)
def encP (p : Pr) : List Int := encT p.name ++ (encI p.args.length ++ p.args)
def catP : List Pr → List Int
 | [] => []
 | p :: l => encP p ++ catP l
def encS (l : List Pr) : List Int := encI l.length ++ catP l
def putS (l : List Pr) : List Int × Int := if checkP l = 0 then (encS l, 0) else ([], checkP l)
theorem catP_snoc (p : Pr) : ∀ l : List Pr, catP (l ++ [p]) = catP l ++ encP p
 | [] => by simp [catP]
 | q :: l => by rw [List.cons_append, catP, catP_snoc p l, catP, List.append_assoc]
theorem catP_take_succ (l : List Pr) {k : Nat} {p : Pr} (h : l[k]? = some p) : catP (l.take (k + 1)) = catP (l.take k) ++ encP p := by
 rw [List.take_add_one, h, Option.toList_some, catP_snoc]
theorem encP_length (p : Pr) : (encP p).length = (encT p.name).length + ((encI p.args.length).length + p.args.length) := by simp [encP]
def Small (p : Pr) : Prop := p.name.length ≤ 32 ∧ p.args.length ≤ 8 ∧ (∀ x ∈ p.name, 0 ≤ x ∧ x < 256) ∧ ∀ x ∈ p.args, 0 ≤ x ∧ x < 256
theorem Okay.small {l : List Pr} {i : Nat} {p : Pr} (h : Okay l i p) : Small p := by
 obtain ⟨h1, _, h3, h4⟩ := h
 unfold okName at h1
 simp only [Bool.and_eq_true, decide_eq_true_eq, List.all_eq_true] at h1
 obtain ⟨⟨⟨_, h2⟩, _⟩, h5⟩ := h1
 refine ⟨h2, h3, fun x hx => ?_, fun x hx => by have := h4 x hx; omega⟩
 have := h5 x hx
 simp only [nameB, inB, Bool.or_eq_true, Bool.and_eq_true, decide_eq_true_eq] at this
 omega
theorem check_small {l : List Pr} (h : checkP l = 0) : l.length ≤ 64 ∧ ∀ p ∈ l, Small p := by
 obtain ⟨h1, h2⟩ := checkP_zero.1 h
 refine ⟨h1, fun p hp => ?_⟩
 obtain ⟨i, hi⟩ := List.mem_iff_getElem?.1 hp
 exact (h2 i p hi).small
theorem encI_one {n : Nat} (h : n < 128) : (encI n).length = 1 := by rw [encI_small h]; rfl
theorem Small.length {p : Pr} (h : Small p) : (encP p).length ≤ 42 := by
 obtain ⟨h1, h2, _, _⟩ := h
 rw [encP_length, encT_length, encI_one (by omega), encI_one (by omega)]
 omega
theorem catP_le : ∀ l : List Pr, (∀ p ∈ l, Small p) → (catP l).length ≤ 42 * l.length
 | [], _ => by simp [catP]
 | p :: l, h => by
  have h1 := (h p (by simp)).length
  have h2 := catP_le l (fun q hq => h q (by simp [hq]))
  simp only [catP, List.length_append, List.length_cons]
  omega
theorem encS_le {l : List Pr} (h : checkP l = 0) : 1 ≤ (encS l).length ∧ (encS l).length ≤ 2689 := by
 obtain ⟨h1, h2⟩ := check_small h
 have := catP_le l h2
 rw [encS, List.length_append, encI_one (by omega)]
 omega
theorem Small.bytes {p : Pr} (h : Small p) : ∀ x ∈ encP p, 0 ≤ x ∧ x < 256 := by
 obtain ⟨h1, h2, h3, h4⟩ := h
 intro x hx
 rw [encP] at hx
 rcases List.mem_append.1 hx with hx | hx
 ·exact encT_bytes (by omega) h3 x hx
 ·rcases List.mem_append.1 hx with hx | hx
  ·exact encI_bytes (by omega) x hx
  ·exact h4 x hx
theorem catP_bytes : ∀ l : List Pr, (∀ p ∈ l, Small p) → ∀ x ∈ catP l, 0 ≤ x ∧ x < 256
 | [], _, x, hx => by simp [catP] at hx
 | p :: l, h, x, hx => by
  rw [catP] at hx
  rcases List.mem_append.1 hx with hx | hx
  ·exact (h p (by simp)).bytes x hx
  ·exact catP_bytes l (fun q hq => h q (by simp [hq])) x hx
theorem encS_bytes {l : List Pr} (h : checkP l = 0) : ∀ x ∈ encS l, 0 ≤ x ∧ x < 256 := by
 obtain ⟨h1, h2⟩ := check_small h
 intro x hx
 rw [encS] at hx
 rcases List.mem_append.1 hx with hx | hx
 ·exact encI_bytes (by omega) x hx
 ·exact catP_bytes l h2 x hx
def getP (ys : List Int) : Pr × Nat × Int :=
 if (getT 32 ys).2.2 ≠ 0 then (default, 0, (getT 32 ys).2.2)
 else if (getI (ys.drop (getT 32 ys).2.1)).2.2 ≠ 0 then (default, 0, (getI (ys.drop (getT 32 ys).2.1)).2.2)
 else if 8 < (getI (ys.drop (getT 32 ys).2.1)).1 then (default, 0, 6)
 else if ((ys.length : Nat) : Int) < ((getT 32 ys).2.1 : Int) + (getI (ys.drop (getT 32 ys).2.1)).2.1 + (getI (ys.drop (getT 32 ys).2.1)).1 then (default, 0, 2)
 else (⟨(getT 32 ys).1, (ys.drop ((getT 32 ys).2.1 + (getI (ys.drop (getT 32 ys).2.1)).2.1)).take (getI (ys.drop (getT 32 ys).2.1)).1.toNat⟩, (getT 32 ys).2.1 + (getI (ys.drop (getT 32 ys).2.1)).2.1 + (getI (ys.drop (getT 32 ys).2.1)).1.toNat, 0)
section
variable {ys nm : List Int} {s k m : Nat}
theorem getP_name (h : (getT 32 ys).2.2 ≠ 0) : getP ys = (default, 0, (getT 32 ys).2.2) := by unfold getP; rw [if_pos h]
theorem getP_num (h : getT 32 ys = (nm, s, 0)) (h2 : (getI (ys.drop s)).2.2 ≠ 0) : getP ys = (default, 0, (getI (ys.drop s)).2.2) := by
 unfold getP
 rw [h, if_neg (by simp), if_pos h2]
theorem getP_limit (h : getT 32 ys = (nm, s, 0)) (h2 : getI (ys.drop s) = ((k : Int), m, 0)) (h3 : 8 < k) : getP ys = (default, 0, 6) := by
 unfold getP
 rw [h, if_neg (by simp)]
 dsimp only
 rw [h2, if_neg (by simp), if_pos (by simp only; omega)]
theorem getP_short (h : getT 32 ys = (nm, s, 0)) (h2 : getI (ys.drop s) = ((k : Int), m, 0)) (h3 : k ≤ 8) (h4 : ys.length < s + m + k) : getP ys = (default, 0, 2) := by
 unfold getP
 rw [h, if_neg (by simp)]
 dsimp only
 rw [h2, if_neg (by simp), if_neg (by simp only; omega), if_pos (by simp only; omega)]
theorem getP_ok (h : getT 32 ys = (nm, s, 0)) (h2 : getI (ys.drop s) = ((k : Int), m, 0)) (h3 : k ≤ 8) (h4 : s + m + k ≤ ys.length) : getP ys = (⟨nm, (ys.drop (s + m)).take k⟩, s + m + k, 0) := by
 unfold getP
 rw [h, if_neg (by simp)]
 dsimp only
 rw [h2, if_neg (by simp), if_neg (by simp only; omega), if_neg (by simp only; omega)]
 simp
end
theorem getT_most {most : Int} (xs : List Int) (hb : ∀ x ∈ xs, 0 ≤ x ∧ x < 256) (h : (getT most xs).2.2 = 0) : ((getT most xs).1.length : Int) ≤ max most 0 := by
 by_cases he : (getI xs).2.2 = 0
 ·obtain ⟨n, s, hg, h1, h2, h3, h4, h5⟩ := getI_ok xs hb he
  by_cases hl : max most 0 < (n : Int)
  ·rw [getT_limit hg hl] at h; simp at h
  ·by_cases hs : xs.length - s < n
   ·rw [getT_short hg hl hs] at h; simp at h
   ·rw [getT_ok hg hl hs]
    simp only [List.length_take, List.length_drop]
    omega
 ·rw [getT_err rfl he] at h
  exact absurd h he
theorem getP_ways (ys : List Int) (hb : ∀ x ∈ ys, 0 ≤ x ∧ x < 256) :
  ((getT 32 ys).2.2 ≠ 0 ∧ getP ys = (default, 0, (getT 32 ys).2.2)) ∨
  ∃ (nm : List Int) (s : Nat), getT 32 ys = (nm, s, 0) ∧ 1 ≤ s ∧ s ≤ ys.length ∧ nm.length ≤ 32 ∧ encT nm = ys.take s ∧ (∀ x ∈ nm, 0 ≤ x ∧ x < 256) ∧
   (((getI (ys.drop s)).2.2 ≠ 0 ∧ getP ys = (default, 0, (getI (ys.drop s)).2.2)) ∨
    ∃ k m : Nat, getI (ys.drop s) = ((k : Int), m, 0) ∧ 1 ≤ m ∧ s + m ≤ ys.length ∧ k < 18446744073709551616 ∧ encI k = (ys.drop s).take m ∧
     ((8 < k ∧ getP ys = (default, 0, 6)) ∨ (k ≤ 8 ∧ ys.length < s + m + k ∧ getP ys = (default, 0, 2)) ∨
     (k ≤ 8 ∧ s + m + k ≤ ys.length ∧ getP ys = (⟨nm, (ys.drop (s + m)).take k⟩, s + m + k, 0)))) := by
 by_cases h1 : (getT 32 ys).2.2 = 0
 ·right
  obtain ⟨b1, b2, b3, b4, b5⟩ := getT_back ys hb h1
  have b6 := getT_most ys hb h1
  obtain ⟨⟨nm, s, er⟩, ht⟩ : ∃ t, getT 32 ys = t := ⟨_, rfl⟩
  rw [ht] at h1 b1 b2 b3 b4 b5 b6
  simp only at h1 b1 b2 b3 b4 b5 b6
  subst h1
  refine ⟨nm, s, ht, b1, b2, by omega, b3, b5, ?_⟩
  by_cases h2 : (getI (ys.drop s)).2.2 = 0
  ·right
   obtain ⟨k, m, hk, c1, c2, c3, c4, c5⟩ := getI_ok (ys.drop s) (drop_bytes hb s) h2
   rw [List.length_drop] at c2
   refine ⟨k, m, hk, c1, by omega, c5, c4, ?_⟩
   by_cases h3 : 8 < k
   ·exact .inl ⟨h3, getP_limit ht hk h3⟩
   ·by_cases h4 : ys.length < s + m + k
    ·exact .inr (.inl ⟨by omega, h4, getP_short ht hk (by omega) h4⟩)
    ·exact .inr (.inr ⟨by omega, by omega, getP_ok ht hk (by omega) (by omega)⟩)
  ·exact .inl ⟨h2, getP_num ht h2⟩
 ·exact .inl ⟨h1, getP_name h1⟩
theorem getP_enc {p : Pr} (h : Small p) (rest : List Int) : getP (encP p ++ rest) = (p, (encP p).length, 0) := by
 obtain ⟨h1, h2, _, _⟩ := h
 have ht : getT 32 (encP p ++ rest) = (p.name, (encT p.name).length, 0) := by
  rw [encP, List.append_assoc]
  exact getT_enc (by omega) (by omega) _
 have hi : getI ((encP p ++ rest).drop (encT p.name).length) = ((p.args.length : Int), (encI p.args.length).length, 0) := by
  rw [encP, List.append_assoc, List.drop_left, List.append_assoc]
  exact getI_enc (by omega) _
 rw [getP_ok ht hi h2 (by rw [List.length_append, encP_length]; omega)]
 have e : (encP p ++ rest).drop ((encT p.name).length + (encI p.args.length).length) = p.args ++ rest := by
  rw [encP, ← List.drop_drop, List.append_assoc, List.drop_left, List.append_assoc, List.drop_left]
 rw [e, List.take_left, encP_length, Nat.add_assoc]
theorem getP_back (ys : List Int) (hb : ∀ x ∈ ys, 0 ≤ x ∧ x < 256) (h : (getP ys).2.2 = 0) : 1 ≤ (getP ys).2.1 ∧ (getP ys).2.1 ≤ ys.length ∧ encP (getP ys).1 = ys.take (getP ys).2.1 ∧ Small (getP ys).1 := by
 rcases getP_ways ys hb with ⟨h1, e⟩ | ⟨nm, s, ht, b1, b2, b3, b4, b5, ⟨h1, e⟩ | ⟨k, m, hi, c1, c2, c3, c4, ⟨h1, e⟩ | ⟨h1, h2, e⟩ | ⟨h1, h2, e⟩⟩⟩
 ·rw [e] at h; exact absurd h h1
 ·rw [e] at h; exact absurd h h1
 ·rw [e] at h; cases h
 ·rw [e] at h; cases h
 ·rw [e]
  have hlen : ((ys.drop (s + m)).take k).length = k := by simp; omega
  refine ⟨by simp only; omega, h2, ?_, b3, by simp only [hlen]; exact h1, b5, fun x hx => hb x (List.mem_of_mem_drop (List.mem_of_mem_take hx))⟩
  simp only [encP, hlen, b4, c4]
  rw [Nat.add_assoc s m k, List.take_add, List.take_add, List.drop_drop]
def glueP (pre : List Pr) (s : Nat) (r : List Pr × Nat × Int) : List Pr × Nat × Int := if r.2.2 = 0 then (pre ++ r.1, s + r.2.1, 0) else ([], 0, r.2.2)
def getL : Nat → List Int → List Pr × Nat × Int
 | 0, _ => ([], 0, 0)
 | n + 1, ys => if (getP ys).2.2 = 0 then glueP [(getP ys).1] (getP ys).2.1 (getL n (ys.drop (getP ys).2.1)) else ([], 0, (getP ys).2.2)
theorem getL_step {n : Nat} {ys : List Int} {p : Pr} {s : Nat} (h : getP ys = (p, s, 0)) : getL (n + 1) ys = glueP [p] s (getL n (ys.drop s)) := by rw [getL, h]; rfl
theorem getL_stop {n : Nat} {ys : List Int} (h : (getP ys).2.2 ≠ 0) : getL (n + 1) ys = ([], 0, (getP ys).2.2) := by rw [getL, if_neg h]
theorem getL_cat (rest : List Int) : ∀ l : List Pr, (∀ p ∈ l, Small p) → getL l.length (catP l ++ rest) = (l, (catP l).length, 0)
 | [], _ => rfl
 | p :: l, h => by
  have hp := getP_enc (h p (by simp)) (catP l ++ rest)
  rw [List.length_cons, catP, List.append_assoc, getL_step hp, List.drop_left, getL_cat rest l (fun q hq => h q (by simp [hq]))]
  simp [glueP]
theorem getL_back : ∀ (n : Nat) (ys : List Int), (∀ x ∈ ys, 0 ≤ x ∧ x < 256) → (getL n ys).2.2 = 0 → (getL n ys).1.length = n ∧ (getL n ys).2.1 ≤ ys.length ∧ catP (getL n ys).1 = ys.take (getL n ys).2.1 ∧ ∀ p ∈ (getL n ys).1, Small p
 | 0, ys, _, _ => by simp [getL, catP]
 | n + 1, ys, hb, h => by
  by_cases h1 : (getP ys).2.2 = 0
  ·obtain ⟨b1, b2, b3, b4⟩ := getP_back ys hb h1
   have e : getL (n + 1) ys = glueP [(getP ys).1] (getP ys).2.1 (getL n (ys.drop (getP ys).2.1)) := by rw [getL, if_pos h1]
   rw [e] at h ⊢
   by_cases h2 : (getL n (ys.drop (getP ys).2.1)).2.2 = 0
   ·obtain ⟨c1, c2, c3, c4⟩ := getL_back n (ys.drop (getP ys).2.1) (drop_bytes hb _) h2
    unfold glueP
    rw [if_pos h2]
    rw [List.length_drop] at c2
    refine ⟨by simp [c1], by simp only; omega, ?_, fun p hp => ?_⟩
    ·simp only [List.singleton_append, catP, b3, c3]
     rw [List.take_add]
    ·simp only [List.singleton_append, List.mem_cons] at hp
     rcases hp with rfl | hp
     ·exact b4
     ·exact c4 p hp
   ·exfalso
    unfold glueP at h
    rw [if_neg h2] at h
    exact h2 h
  ·rw [getL_stop h1] at h
   exact absurd h h1
def getSig (xs : List Int) : List Pr × Int :=
 if (getI xs).2.2 ≠ 0 then ([], (getI xs).2.2)
 else if 64 < (getI xs).1 then ([], 6)
 else if (getL (getI xs).1.toNat (xs.drop (getI xs).2.1)).2.2 ≠ 0 then ([], (getL (getI xs).1.toNat (xs.drop (getI xs).2.1)).2.2)
 else if (getI xs).2.1 + (getL (getI xs).1.toNat (xs.drop (getI xs).2.1)).2.1 < xs.length then ([], 4)
 else if checkP (getL (getI xs).1.toNat (xs.drop (getI xs).2.1)).1 ≠ 0 then ([], checkP (getL (getI xs).1.toNat (xs.drop (getI xs).2.1)).1)
 else ((getL (getI xs).1.toNat (xs.drop (getI xs).2.1)).1, 0)
section
variable {xs : List Int} {n s t : Nat} {l : List Pr}
theorem getSig_num (h : (getI xs).2.2 ≠ 0) : getSig xs = ([], (getI xs).2.2) := by unfold getSig; rw [if_pos h]
theorem getSig_limit (h : getI xs = ((n : Int), s, 0)) (h2 : 64 < n) : getSig xs = ([], 6) := by
 unfold getSig
 rw [h, if_neg (by simp), if_pos (by simp only; omega)]
theorem getSig_pred (h : getI xs = ((n : Int), s, 0)) (h2 : n ≤ 64) (h3 : (getL n (xs.drop s)).2.2 ≠ 0) : getSig xs = ([], (getL n (xs.drop s)).2.2) := by
 unfold getSig
 rw [h, if_neg (by simp), if_neg (by simp only; omega)]
 simp only [Int.toNat_natCast]
 rw [if_pos h3]
theorem getSig_form (h : getI xs = ((n : Int), s, 0)) (h2 : n ≤ 64) (h3 : getL n (xs.drop s) = (l, t, 0)) (h4 : s + t < xs.length) : getSig xs = ([], 4) := by
 unfold getSig
 rw [h, if_neg (by simp), if_neg (by simp only; omega)]
 simp only [Int.toNat_natCast, h3]
 rw [if_neg (by simp), if_pos h4]
theorem getSig_check (h : getI xs = ((n : Int), s, 0)) (h2 : n ≤ 64) (h3 : getL n (xs.drop s) = (l, t, 0)) (h4 : ¬ s + t < xs.length) (h5 : checkP l ≠ 0) : getSig xs = ([], checkP l) := by
 unfold getSig
 rw [h, if_neg (by simp), if_neg (by simp only; omega)]
 simp only [Int.toNat_natCast, h3]
 rw [if_neg (by simp), if_neg h4, if_pos h5]
theorem getSig_ok (h : getI xs = ((n : Int), s, 0)) (h2 : n ≤ 64) (h3 : getL n (xs.drop s) = (l, t, 0)) (h4 : ¬ s + t < xs.length) (h5 : checkP l = 0) : getSig xs = (l, 0) := by
 unfold getSig
 rw [h, if_neg (by simp), if_neg (by simp only; omega)]
 simp only [Int.toNat_natCast, h3]
 rw [if_neg (by simp), if_neg h4, if_neg (by rw [h5]; simp)]
end
theorem getSig_enc {l : List Pr} (h : checkP l = 0) : getSig (encS l) = (l, 0) := by
 obtain ⟨h1, h2⟩ := check_small h
 have hi : getI (encS l) = ((l.length : Int), (encI l.length).length, 0) := getI_enc (by omega) _
 have hl : getL l.length ((encS l).drop (encI l.length).length) = (l, (catP l).length, 0) := by
  rw [encS, List.drop_left]
  have := getL_cat [] l h2
  rwa [List.append_nil] at this
 exact getSig_ok hi h1 hl (by rw [encS, List.length_append]; omega) h
theorem getSig_back {xs : List Int} (hb : ∀ x ∈ xs, 0 ≤ x ∧ x < 256) (h : (getSig xs).2 = 0) : checkP (getSig xs).1 = 0 ∧ encS (getSig xs).1 = xs := by
 by_cases h1 : (getI xs).2.2 = 0
 ·obtain ⟨n, s, hi, b1, b2, b3, b4, b5⟩ := getI_ok xs hb h1
  by_cases h2 : 64 < n
  ·rw [getSig_limit hi h2] at h; cases h
  ·by_cases h3 : (getL n (xs.drop s)).2.2 = 0
   ·obtain ⟨c1, c2, c3, c4⟩ := getL_back n (xs.drop s) (drop_bytes hb s) h3
    obtain ⟨⟨l, t, er⟩, hl⟩ : ∃ r, getL n (xs.drop s) = r := ⟨_, rfl⟩
    rw [hl] at h3 c1 c2 c3 c4
    simp only at h3 c1 c2 c3 c4
    subst h3
    rw [List.length_drop] at c2
    by_cases h4 : s + t < xs.length
    ·rw [getSig_form hi (by omega) hl h4] at h; cases h
    ·by_cases h5 : checkP l = 0
     ·rw [getSig_ok hi (by omega) hl h4 h5]
      refine ⟨h5, ?_⟩
      simp only [encS, c1, b4, c3]
      rw [← List.take_add, List.take_of_length_le (by omega)]
     ·rw [getSig_check hi (by omega) hl h4 h5] at h
      exact absurd h h5
   ·rw [getSig_pred hi (by omega) h3] at h
    exact absurd h h3
 ·rw [getSig_num h1] at h
  exact absurd h h1
def stB (xs : List Int) (p : Nat) (e : Int) : Nat → List Int × Nat × Int
 | 0 => ([], p, e)
 | j + 1 => ((stB xs p e j).1 ++ [(tk 0 (stB xs p e j).2.1 (stB xs p e j).2.2 (getB (xs.drop (stB xs p e j).2.1))).1], (tk 0 (stB xs p e j).2.1 (stB xs p e j).2.2 (getB (xs.drop (stB xs p e j).2.1))).2)
def argsC (xs : List Int) (p : Nat) (e : Int) : List Int × Nat × Int :=
 stB xs (tk 0 p e (getN 8 (xs.drop p))).2.1 (tk 0 p e (getN 8 (xs.drop p))).2.2 (tk 0 p e (getN 8 (xs.drop p))).1.toNat
def predC (xs : List Int) (p : Nat) (e : Int) : Pr × Nat × Int :=
 (⟨(tk [] p e (getT 32 (xs.drop p))).1, (argsC xs (tk [] p e (getT 32 (xs.drop p))).2.1 (tk [] p e (getT 32 (xs.drop p))).2.2).1⟩, (argsC xs (tk [] p e (getT 32 (xs.drop p))).2.1 (tk [] p e (getT 32 (xs.drop p))).2.2).2)
def stP (xs : List Int) (p : Nat) (e : Int) : Nat → List Pr × Nat × Int
 | 0 => ([], p, e)
 | j + 1 => ((stP xs p e j).1 ++ [(predC xs (stP xs p e j).2.1 (stP xs p e j).2.2).1], (predC xs (stP xs p e j).2.1 (stP xs p e j).2.2).2)
def predsC (xs : List Int) : List Pr × Nat × Int := stP xs (tk 0 0 0 (getN 64 xs)).2.1 (tk 0 0 0 (getN 64 xs)).2.2 (tk 0 0 0 (getN 64 xs)).1.toNat
def endC (n p : Nat) (e c : Int) : Int := if e ≠ 0 then e else if p < n then 4 else c
def getC (xs : List Int) : List Pr × Int :=
 if endC xs.length (predsC xs).2.1 (predsC xs).2.2 (checkP (predsC xs).1) = 0 then ((predsC xs).1, 0) else ([], endC xs.length (predsC xs).2.1 (predsC xs).2.2 (checkP (predsC xs).1))
section
variable {xs : List Int} {p : Nat} {e : Int}
theorem stB_stopped (h : e ≠ 0) : ∀ j, (stB xs p e j).2 = (p, e)
 | 0 => rfl
 | j + 1 => by
  have ih := stB_stopped h j
  rw [stB, ih]
  dsimp only
  rw [tk_stopped h]
theorem getB_at {ys : List Int} (h : 0 < ys.length) : getB ys = (ys.getD 0 0, 1, 0) := by
 cases ys with
 | nil => simp at h
 | cons y r => rfl
theorem stB_ok : ∀ j, p + j ≤ xs.length → stB xs p 0 j = ((xs.drop p).take j, p + j, 0)
 | 0, _ => by simp [stB]
 | j + 1, h => by
  have ih := stB_ok j (by omega)
  have hb : getB (xs.drop (p + j)) = ((xs.drop (p + j)).getD 0 0, 1, 0) := getB_at (by rw [List.length_drop]; omega)
  rw [stB, ih]
  dsimp only
  rw [hb, tk_ok rfl]
  have hg : (xs.drop p)[j]? = some ((xs.drop (p + j)).getD 0 0) := by
   rw [List.getElem?_drop, List.getD, List.getElem?_drop, Nat.add_zero, List.getElem?_eq_getElem (show p + j < xs.length by omega)]
   rfl
  rw [List.take_add_one, hg]
  rfl
theorem stB_short (hp : p ≤ xs.length) : ∀ j, xs.length < p + j → (stB xs p 0 j).2 = (xs.length, 2)
 | 0, h => by omega
 | j + 1, h => by
  by_cases hj : xs.length < p + j
  ·have ih := stB_short hp j hj
   rw [stB, ih]
   dsimp only
   rw [tk_stopped (by decide)]
  ·rw [stB, stB_ok j (by omega)]
   dsimp only
   rw [List.drop_of_length_le (by omega)]
   show (tk 0 (p + j) 0 (0, 0, 2)).2 = _
   rw [tk_err (by decide)]
   simp only [Prod.mk.injEq, and_true]
   omega
theorem stB_length : ∀ j, (stB xs p e j).1.length = j
 | 0 => rfl
 | j + 1 => by rw [stB, List.length_append, stB_length j]; rfl
theorem stB_le (hp : p ≤ xs.length) : ∀ j, p ≤ (stB xs p e j).2.1 ∧ (stB xs p e j).2.1 ≤ xs.length
 | 0 => ⟨Nat.le_refl _, hp⟩
 | j + 1 => by
  obtain ⟨h1, h2⟩ := stB_le hp j
  have := tk_never (z := (0 : Int)) (e := (stB xs p e j).2.2) (r := getB (xs.drop (stB xs p e j).2.1)) h2 (fun h => by have := (getB_fits (xs.drop (stB xs p e j).2.1)).1 h; rw [List.length_drop] at this; exact this)
  exact ⟨Nat.le_trans h1 this.1, this.2.1⟩
theorem tkB_byte (hb : ∀ x ∈ xs, 0 ≤ x ∧ x < 256) (q : Nat) (e : Int) : 0 ≤ (tk 0 q e (getB (xs.drop q))).1 ∧ (tk 0 q e (getB (xs.drop q))).1 < 256 := by
 unfold tk
 split
 ·simp
 ·split
  ·simp
  ·cases hd : xs.drop q with
   | nil => simp [getB]
   | cons y r => exact hb y (List.mem_of_mem_drop (by rw [hd]; simp))
theorem stB_bytes (hb : ∀ x ∈ xs, 0 ≤ x ∧ x < 256) : ∀ j, ∀ x ∈ (stB xs p e j).1, 0 ≤ x ∧ x < 256
 | 0, x, hx => by simp [stB] at hx
 | j + 1, x, hx => by
  rw [stB] at hx
  rcases List.mem_append.1 hx with hx | hx
  ·exact stB_bytes hb j x hx
  ·rw [List.mem_singleton] at hx
   rw [hx]
   exact tkB_byte hb _ _
theorem tkN_range (hb : ∀ x ∈ xs, 0 ≤ x ∧ x < 256) (most : Nat) (hp : p ≤ xs.length) :
  (∃ n : Nat, (tk 0 p e (getN most (xs.drop p))).1 = (n : Int) ∧ n ≤ most) ∧ p ≤ (tk 0 p e (getN most (xs.drop p))).2.1 ∧ (tk 0 p e (getN most (xs.drop p))).2.1 ≤ xs.length := by
 obtain ⟨h1, h2, _⟩ := tk_never (z := (0 : Int)) (e := e) (r := getN most (xs.drop p)) hp (fun h => by have := (getN_fits most (xs.drop p) (drop_bytes hb p)).1 h; rw [List.length_drop] at this; exact this)
 refine ⟨?_, h1, h2⟩
 unfold tk
 split
 ·exact ⟨0, rfl, Nat.zero_le _⟩
 ·split
  ·exact ⟨0, rfl, Nat.zero_le _⟩
  ·rename_i _ h
   have h0 : (getN most (xs.drop p)).2.2 = 0 := by simpa using h
   have hr := getI_range (xs.drop p) (drop_bytes hb p)
   unfold getN at h0 ⊢
   split
   ·rename_i q
    rw [if_pos q] at h0
    cases h0
   ·rename_i q
    rw [if_neg q] at h0
    have : ¬ (most : Int) < (getI (xs.drop p)).1 := fun h => q ⟨h0, h⟩
    exact ⟨(getI (xs.drop p)).1.toNat, by simp only; omega, by omega⟩
theorem tkT_le (hb : ∀ x ∈ xs, 0 ≤ x ∧ x < 256) (most : Int) (hp : p ≤ xs.length) : p ≤ (tk [] p e (getT most (xs.drop p))).2.1 ∧ (tk [] p e (getT most (xs.drop p))).2.1 ≤ xs.length := by
 obtain ⟨h1, h2, _⟩ := tk_never (z := ([] : List Int)) (e := e) (r := getT most (xs.drop p)) hp (fun h => by have := (getT_fits most (xs.drop p) (drop_bytes hb p)).1 h; rw [List.length_drop] at this; exact this)
 exact ⟨h1, h2⟩
theorem tkT_bytes (hb : ∀ x ∈ xs, 0 ≤ x ∧ x < 256) (most : Int) : (tk [] p e (getT most (xs.drop p))).1.length ≤ xs.length ∧ ∀ x ∈ (tk [] p e (getT most (xs.drop p))).1, 0 ≤ x ∧ x < 256 := by
 have hs := getT_size (most := most) (xs.drop p) (drop_bytes hb p)
 rw [List.length_drop] at hs
 unfold tk
 split
 ·simp
 ·split
  ·simp
  ·exact ⟨Nat.le_trans hs.2.1 (Nat.sub_le _ _), hs.2.2⟩
theorem argsC_le (hb : ∀ x ∈ xs, 0 ≤ x ∧ x < 256) (hp : p ≤ xs.length) : p ≤ (argsC xs p e).2.1 ∧ (argsC xs p e).2.1 ≤ xs.length ∧ (argsC xs p e).1.length ≤ 8 ∧ ∀ x ∈ (argsC xs p e).1, 0 ≤ x ∧ x < 256 := by
 obtain ⟨⟨n, e1, e2⟩, h1, h2⟩ := tkN_range (e := e) hb 8 hp
 have e1' : (tk 0 p e (getN 8 (xs.drop p))).1 = (n : Int) := e1
 have h1' : p ≤ (tk 0 p e (getN 8 (xs.drop p))).2.1 := h1
 have h2' : (tk 0 p e (getN 8 (xs.drop p))).2.1 ≤ xs.length := h2
 unfold argsC
 have h3 := stB_le (e := (tk 0 p e (getN 8 (xs.drop p))).2.2) h2' (tk 0 p e (getN 8 (xs.drop p))).1.toNat
 exact ⟨Nat.le_trans h1' h3.1, h3.2, by rw [stB_length, e1']; simpa using e2, stB_bytes hb _⟩
theorem predC_le (hb : ∀ x ∈ xs, 0 ≤ x ∧ x < 256) (hp : p ≤ xs.length) : (predC xs p e).2.1 ≤ xs.length ∧ (predC xs p e).1.name.length ≤ xs.length ∧ (predC xs p e).1.args.length ≤ 8 ∧ (∀ x ∈ (predC xs p e).1.name, 0 ≤ x ∧ x < 256) ∧ ∀ x ∈ (predC xs p e).1.args, 0 ≤ x ∧ x < 256 := by
 have h1 := tkT_le (e := e) hb 32 hp
 have h2 := tkT_bytes (p := p) (e := e) hb 32
 have h3 := argsC_le (e := (tk [] p e (getT 32 (xs.drop p))).2.2) hb h1.2
 exact ⟨h3.2.1, h2.1, h3.2.2.1, h2.2, h3.2.2.2⟩
theorem stP_le (hb : ∀ x ∈ xs, 0 ≤ x ∧ x < 256) (hp : p ≤ xs.length) : ∀ j, (stP xs p e j).2.1 ≤ xs.length ∧ (stP xs p e j).1.length = j
 | 0 => ⟨hp, rfl⟩
 | j + 1 => by
  obtain ⟨h1, h2⟩ := stP_le hb hp j
  exact ⟨(predC_le hb h1).1, by rw [stP, List.length_append, h2]; rfl⟩
theorem predsC_le (hb : ∀ x ∈ xs, 0 ≤ x ∧ x < 256) : (predsC xs).2.1 ≤ xs.length := by
 obtain ⟨_, _, hq⟩ := tkN_range (e := 0) hb 64 (Nat.zero_le xs.length)
 have hq : (tk 0 0 0 (getN 64 (xs.drop 0))).2.1 ≤ xs.length := hq
 rw [List.drop_zero] at hq
 exact (stP_le hb hq _).1
theorem argsC_stopped (h : e ≠ 0) : (argsC xs p e).2 = (p, e) := by
 unfold argsC
 rw [tk_stopped h]
 exact stB_stopped h _
theorem predC_stopped (h : e ≠ 0) : (predC xs p e).2 = (p, e) := by
 unfold predC
 rw [tk_stopped h]
 exact argsC_stopped h
theorem predC_eq (hb : ∀ x ∈ xs, 0 ≤ x ∧ x < 256) (hp : p ≤ xs.length) :
  ((getP (xs.drop p)).2.2 = 0 → predC xs p 0 = ((getP (xs.drop p)).1, p + (getP (xs.drop p)).2.1, 0)) ∧ ((getP (xs.drop p)).2.2 ≠ 0 → (predC xs p 0).2.2 = (getP (xs.drop p)).2.2) := by
 have hd := drop_bytes hb p
 have hl : (xs.drop p).length = xs.length - p := List.length_drop
 rcases getP_ways (xs.drop p) hd with ⟨h1, e⟩ | ⟨nm, s, ht, b1, b2, b3, b4, b5, ⟨h1, e⟩ | ⟨k, m, hi, c1, c2, c3, c4, h⟩⟩
 ·refine ⟨fun h => absurd (by rw [e] at h; exact h) h1, fun _ => ?_⟩
  rw [e]
  unfold predC
  rw [tk_err h1, argsC_stopped h1]
 ·have hn : tk 0 (p + s) 0 (getN 8 (xs.drop (p + s))) = (0, p + s, (getI ((xs.drop p).drop s)).2.2) := by
   rw [List.drop_drop] at h1 ⊢
   have e2 : getN 8 (xs.drop (p + s)) = getI (xs.drop (p + s)) := by unfold getN; rw [if_neg (fun h => h1 h.1)]
   rw [e2, tk_err h1]
  refine ⟨fun h => absurd (by rw [e] at h; exact h) h1, fun _ => ?_⟩
  rw [e]
  unfold predC
  rw [ht, tk_ok rfl]
  dsimp only
  unfold argsC
  rw [hn]
  rfl
 ·have hi' : getI (xs.drop (p + s)) = ((k : Int), m, 0) := by rw [← List.drop_drop]; exact hi
  rcases h with ⟨h1, e⟩ | ⟨h1, h2, e⟩ | ⟨h1, h2, e⟩
  ·have hn : tk 0 (p + s) 0 (getN 8 (xs.drop (p + s))) = (0, p + s, 6) := by
    have e2 : getN 8 (xs.drop (p + s)) = ((k : Int), m, 6) := by unfold getN; rw [hi', if_pos ⟨rfl, by simp only; omega⟩]
    rw [e2, tk_err (by simp)]
   refine ⟨fun h => (by rw [e] at h; cases h), fun _ => ?_⟩
   rw [e]
   unfold predC
   rw [ht, tk_ok rfl]
   dsimp only
   unfold argsC
   rw [hn]
   rfl
  ·have hn : tk 0 (p + s) 0 (getN 8 (xs.drop (p + s))) = ((k : Int), p + s + m, 0) := by
    have e2 : getN 8 (xs.drop (p + s)) = ((k : Int), m, 0) := by unfold getN; rw [hi', if_neg (fun h => by have := h.2; simp only at this; omega)]
    rw [e2, tk_ok rfl]
   refine ⟨fun h => (by rw [e] at h; cases h), fun _ => ?_⟩
   rw [e]
   unfold predC
   rw [ht, tk_ok rfl]
   dsimp only
   unfold argsC
   rw [hn]
   simp only [Int.toNat_natCast]
   rw [stB_short (by omega) k (by omega)]
  ·have hn : tk 0 (p + s) 0 (getN 8 (xs.drop (p + s))) = ((k : Int), p + s + m, 0) := by
    have e2 : getN 8 (xs.drop (p + s)) = ((k : Int), m, 0) := by unfold getN; rw [hi', if_neg (fun h => by have := h.2; simp only at this; omega)]
    rw [e2, tk_ok rfl]
   refine ⟨fun _ => ?_, fun h => by rw [e] at h; exact absurd rfl h⟩
   rw [e]
   unfold predC
   rw [ht, tk_ok rfl]
   dsimp only
   unfold argsC
   rw [hn]
   simp only [Int.toNat_natCast]
   rw [stB_ok k (by omega), List.drop_drop]
   simp only [Nat.add_assoc]
theorem stP_stopped (h : e ≠ 0) : ∀ j, (stP xs p e j).2 = (p, e)
 | 0 => rfl
 | j + 1 => by
  have ih := stP_stopped h j
  rw [stP, ih]
  exact predC_stopped h
theorem stP_front (xs : List Int) (p : Nat) (e : Int) : ∀ j, stP xs p e (j + 1) = ((predC xs p e).1 :: (stP xs (predC xs p e).2.1 (predC xs p e).2.2 j).1, (stP xs (predC xs p e).2.1 (predC xs p e).2.2 j).2)
 | 0 => rfl
 | j + 1 => by
  rw [stP, stP_front xs p e j]
  rfl
theorem stP_eq (hb : ∀ x ∈ xs, 0 ≤ x ∧ x < 256) : ∀ (n p : Nat), p ≤ xs.length → ((getL n (xs.drop p)).2.2 = 0 → stP xs p 0 n = ((getL n (xs.drop p)).1, p + (getL n (xs.drop p)).2.1, 0)) ∧ ((getL n (xs.drop p)).2.2 ≠ 0 → (stP xs p 0 n).2.2 = (getL n (xs.drop p)).2.2)
 | 0, p, _ => ⟨fun _ => rfl, fun h => absurd rfl h⟩
 | n + 1, p, hp => by
  obtain ⟨q1, q2⟩ := predC_eq hb hp
  by_cases h1 : (getP (xs.drop p)).2.2 = 0
  ·have hs := (getP_back (xs.drop p) (drop_bytes hb p) h1).2.1
   rw [List.length_drop] at hs
   obtain ⟨⟨a, s, er⟩, ha⟩ : ∃ t, getP (xs.drop p) = t := ⟨_, rfl⟩
   rw [ha] at h1 hs
   simp only at h1 hs
   subst h1
   have q1' := q1 (by rw [ha])
   rw [ha] at q1'
   obtain ⟨i1, i2⟩ := stP_eq hb n (p + s) (by omega)
   have el : getL (n + 1) (xs.drop p) = glueP [a] s (getL n (xs.drop (p + s))) := by rw [getL_step ha, List.drop_drop]
   rw [el, stP_front, q1']
   dsimp only
   by_cases h2 : (getL n (xs.drop (p + s))).2.2 = 0
   ·rw [i1 h2]
    unfold glueP
    rw [if_pos h2]
    exact ⟨fun _ => by simp [Nat.add_assoc], fun h => absurd rfl h⟩
   ·unfold glueP
    rw [if_neg h2]
    exact ⟨fun h => absurd h h2, fun _ => i2 h2⟩
  ·have q2' := q2 h1
   rw [getL_stop h1]
   refine ⟨fun h => absurd h h1, fun _ => ?_⟩
   rw [stP_front]
   dsimp only
   rw [stP_stopped (by rw [q2']; exact h1)]
   exact q2'
end
theorem getC_eq {xs : List Int} (hb : ∀ x ∈ xs, 0 ≤ x ∧ x < 256) : getC xs = getSig xs := by
 have key : ∀ (l : List Pr) (t : Nat × Int) (c : Int), predsC xs = (l, t) → endC xs.length t.1 t.2 (checkP l) = c → getC xs = (if c = 0 then (l, 0) else ([], c)) := by
  intro l t c h1 h2
  unfold getC
  rw [h1]
  dsimp only
  rw [h2]
 by_cases h1 : (getI xs).2.2 = 0
 ·obtain ⟨n, s, hi, b1, b2, b3, b4, b5⟩ := getI_ok xs hb h1
  by_cases h2 : 64 < n
  ·have e2 : getN 64 xs = ((n : Int), s, 6) := by unfold getN; rw [hi, if_pos ⟨rfl, by simp only; omega⟩]
   have hp : predsC xs = ([], 0, 6) := by unfold predsC; rw [e2, tk_err (by simp)]; rfl
   rw [key _ _ 6 hp (by unfold endC; rw [if_pos (by decide)]), getSig_limit hi h2]
   rfl
  ·have e2 : getN 64 xs = ((n : Int), s, 0) := by unfold getN; rw [hi, if_neg (fun h => by have := h.2; simp only at this; omega)]
   have hp : predsC xs = stP xs s 0 n := by
    unfold predsC
    rw [e2, tk_ok rfl]
    simp
   obtain ⟨i1, i2⟩ := stP_eq hb n s b2
   by_cases h3 : (getL n (xs.drop s)).2.2 = 0
   ·obtain ⟨⟨l, t, er⟩, hl⟩ : ∃ r, getL n (xs.drop s) = r := ⟨_, rfl⟩
    rw [hl] at h3 i1
    simp only at h3
    subst h3
    have i3 := i1 rfl
    rw [← hp] at i3
    by_cases h4 : s + t < xs.length
    ·rw [key _ _ 4 i3 (by unfold endC; rw [if_neg (by simp), if_pos h4]), getSig_form hi (by omega) hl h4]
     rfl
    ·have hk := key _ _ (checkP l) i3 (by unfold endC; rw [if_neg (by simp), if_neg h4])
     by_cases h5 : checkP l = 0
     ·rw [hk, if_pos h5, getSig_ok hi (by omega) hl h4 h5]
     ·rw [hk, if_neg h5, getSig_check hi (by omega) hl h4 h5]
   ·have i3 := i2 h3
    rw [← hp] at i3
    have hk := key (predsC xs).1 (predsC xs).2 (getL n (xs.drop s)).2.2 rfl (by unfold endC; rw [i3, if_pos h3])
    rw [hk, if_neg h3, getSig_pred hi (by omega) h3]
 ·have e2 : getN 64 xs = getI xs := by unfold getN; rw [if_neg (fun h => h1 h.1)]
  have hp : predsC xs = ([], 0, (getI xs).2.2) := by unfold predsC; rw [e2, tk_err h1]; rfl
  have hk := key _ _ (getI xs).2.2 hp (by unfold endC; rw [if_pos h1])
  rw [hk, if_neg h1, getSig_num h1]
open Go.RowKit
theorem str_at (xs : List Int) (hb : ∀ x ∈ xs, 0 ≤ x ∧ x < 256) (k : Nat) (hk : k < xs.length) (h : k < (strOfNums xs).size) : ((strOfNums xs)[k].toNat : Int) = xs.getD k 0 := by
 have e : (strOfNums xs)[k] = UInt8.ofNat (xs.getD k 0).toNat := by
  show (strOfNums xs).data[k] = _
  simp [strOfNums, List.getD, List.getElem?_eq_getElem hk]
 have hx : xs.getD k 0 ∈ xs := by rw [List.getD, List.getElem?_eq_getElem hk]; simp
 have := hb _ hx
 rw [e, UInt8.toNat_ofNat']
 omega
def Row (w : World) (B : Nat) (v : Value) (xs : List Int) : Prop :=
 ∃ A c, v = .slice A xs.length c ∧ xs.length ≤ c ∧ c ≤ maxLen ∧ (A = none → c = 0) ∧
  (0 < xs.length → ∃ b o, A = some ⟨b, o, none⟩ ∧ b < B ∧ ∀ i, i < xs.length → w.cell? ⟨b, o + i, none⟩ = some (.int .u8 (xs.getD i 0)))
section
variable {w w' : World} {B B' : Nat} {v : Value} {xs : List Int}
theorem Row.keep (h : Row w B v xs) (hk : ∀ p : Addr, p.block < B → w'.cell? p = w.cell? p) : Row w' B v xs := by
 obtain ⟨A, c, hv, h1, h2, h3, h4⟩ := h
 refine ⟨A, c, hv, h1, h2, h3, fun hn => ?_⟩
 obtain ⟨b, o, e, hb, hc⟩ := h4 hn
 exact ⟨b, o, e, hb, fun i hi => (hk ⟨b, o + i, none⟩ hb).trans (hc i hi)⟩
theorem Row.below (h : Row w B v xs) (hb : Below B w w') : Row w' B v xs := h.keep fun _ hp => hb.cell hp
theorem Row.more (h : Row w B v xs) (hB : B ≤ B') : Row w B' v xs := by
 obtain ⟨A, c, hv, h1, h2, h3, h4⟩ := h
 refine ⟨A, c, hv, h1, h2, h3, fun hn => ?_⟩
 obtain ⟨b, o, e, hb, hc⟩ := h4 hn
 exact ⟨b, o, e, by omega, hc⟩
theorem Row.nil (w : World) (B : Nat) : Row w B (.slice none 0 0) [] := ⟨none, 0, rfl, Nat.le_refl _, Nat.zero_le _, fun _ => rfl, fun h => absurd h (by simp)⟩
theorem Row.of_own {base : Nat} {e : TypeId} {n : Nat} (h : w.ownsRow base e 1 v n (xs.map (.int .u8))) : Row w w.heap.size v xs := by
 have hl : xs.length = n := by have := h.1; simpa using this
 subst hl
 have h' := h
 rcases h.2 with ⟨rfl, h0⟩ | ⟨g, cap, cur, rfl, _, hg, hnc, hcm, _, _⟩
 ·obtain rfl : xs = [] := List.eq_nil_of_length_eq_zero h0
  exact Row.nil _ _
 ·refine ⟨some ⟨g, 0, none⟩, cap, rfl, hnc, hcm, by simp, fun _ => ⟨g, 0, rfl, (Array.getElem?_eq_some_iff.1 hg).1, fun i hi => ?_⟩⟩
  rw [show 0 + i = i by omega, h'.cellAt i (by omega)]
  simp [List.getElem?_map, List.getElem?_eq_getElem hi, List.getD]
theorem Row.take {A : Option Addr} {n c : Nat} (h : Row w B (.slice A n c) xs) {k : Nat} (hk : k ≤ xs.length) : Row w B (.slice A (xs.take k).length c) (xs.take k) := by
 obtain ⟨A', c', hv, h1, h2, h3, h4⟩ := h
 injection hv with e1 e2 e3
 subst e1 e3
 have hl : (xs.take k).length = k := by simp; omega
 refine ⟨A, c, rfl, by omega, h2, h3, fun hn => ?_⟩
 obtain ⟨b, o, e, hb, hc⟩ := h4 (by omega)
 refine ⟨b, o, e, hb, fun i hi => ?_⟩
 rw [hc i (by omega)]
 simp only [List.getD, List.getElem?_take]
 rw [if_pos (by omega)]
theorem Row.bytesIn (h : Row w B v xs) : ∃ A c, v = .slice A xs.length c ∧ Lib.BytesIn w A xs.length xs := by
 obtain ⟨A, c, hv, _, _, _, h4⟩ := h
 exact ⟨A, c, hv, fun hn => by obtain ⟨b, o, e, _, hc⟩ := h4 hn; exact ⟨b, o, e, hc⟩⟩
theorem Row.convert {P : Program} (h : Row w B v xs) (src e dst : TypeId) (hs : P.underlying src = some (.slice e)) (he : P.underlying e = some (.int .u8)) (hd : P.underlying dst = some .string) :
  (convert src dst v).run P w = .ok (.string (strOfNums xs)) w := by
 obtain ⟨A, c, rfl, hb⟩ := h.bytesIn
 exact hb.convert rfl c src e dst hs he hd
end
theorem run_append_row {P : Program} (w : World) (base : Nat) (t ty e : TypeId) (i : TypeInfo) (z : Value) (ht : P.underlying t = some (.slice e)) (hi : P.info? e = some i) (hz : i.zero = some z)
  (hsize : i.size = 1) (hby : i.bytes = 1) (hzs : z.cells.size = 1)
  (v : Value) (n : Nat) (us : List Value) (hown : w.ownsRow base e 1 v n us) (B : Nat) (sv : Value) (xs : List Int) (hr : Row w B sv xs)
  (hlen : n + xs.length ≤ 140737488355328) (hbase : base ≤ w.heap.size) :
  ∃ v' w', (Builtin.append_ #[t, t] ty #[v, sv]).run P w = .ok v' w' ∧ w'.ownsRow base e 1 v' (n + xs.length) (us ++ xs.map (.int .u8)) ∧ w.grownBy w' v.ownBlock ∧ (v' = .slice none 0 0 ↔ v = .slice none 0 0 ∧ xs.length = 0) := by
 obtain ⟨A, c, rfl, h1, h2, h3, h4⟩ := hr
 rcases A with _ | ad
 ·have hx : xs = [] := by
   rcases Nat.eq_zero_or_pos xs.length with h0 | h0
   ·exact List.eq_nil_of_length_eq_zero h0
   ·obtain ⟨b, o, he, _⟩ := h4 h0
    cases he
  subst hx
  obtain rfl := h3 rfl
  exact ⟨v, w, run_append_owned_none w base t ty e i 1 ht hi v n us hown, by simpa using hown, World.grownBy.refl w _, by simp⟩
 ·refine run_append_own w base t ty e i z 1 1 ht hi hz hsize hby hzs (by omega) v n us hown ad xs.length c (xs.map (.int .u8)) (by simp) (fun j u hu => ?_) (fun u hu => ?_) (by simp only [maxLen]; omega) (by omega) hbase
  ·have hj : j < xs.length := by
    have := (List.getElem?_eq_some_iff.1 hu).1
    simpa using this
   obtain ⟨b, o, he, _, hc⟩ := h4 (by omega)
   obtain rfl : ad = ⟨b, o, none⟩ := by injection he
   have hu' : u = .int .u8 (xs.getD j 0) := by
    rw [List.getElem?_map, List.getElem?_eq_getElem hj] at hu
    simp at hu
    simp [List.getD, List.getElem?_eq_getElem hj, hu]
   rw [hu', ← hc j hj, Go.WideShapes.add_plain]
  ·obtain ⟨x, _, rfl⟩ := List.mem_map.1 hu
   simp [Value.oneCell']
theorem wpListIn_append_row {F : Fence} {n : Nat} {P : Program} (w : World) {ops : Array Oper} {rest : List Oper} {o : Oper} {a : Act} {Q : Exit → Act → World → Prop}
  (hg : o.guard = none) (s x : Operand) (t : TypeId) (hop : o.op = Op.call { callee := Callee.builtin Builtin.append, args := #[s, x], argTypes := #[t, t] })
  (base : Nat) (e : TypeId) (i : TypeInfo) (z : Value) (h1 : P.underlying t = some (.slice e)) (h2 : P.info? e = some i) (h3 : i.zero = some z) (h4 : i.size = 1) (h5 : i.bytes = 1) (h6 : z.cells.size = 1)
  (v : Value) (k : Nat) (us : List Value) (hs : a.eval s = v) (hown : w.ownsRow base e 1 v k us) (B : Nat) (sv : Value) (xs : List Int) (hx : a.eval x = sv) (hr : Row w B sv xs)
  (b2 : k + xs.length ≤ 140737488355328) (b3 : base ≤ w.heap.size)
  (hK : ∀ v' w', w'.ownsRow base e 1 v' (k + xs.length) (us ++ xs.map (.int .u8)) → w.grownBy w' v.ownBlock → (v' = .slice none 0 0 ↔ v = .slice none 0 0 ∧ xs.length = 0) → wpListIn F n P ops Q rest (a.put o.dst v') w') :
  wpListIn F n P ops Q (o :: rest) a w := by
 refine wpListIn_plain hg fun K hK' => ?_
 obtain ⟨v', w', hrun, r1, r2, r3⟩ := run_append_row (P := P) w base t o.type e i z h1 h2 h3 h4 h5 h6 v k us hown B sv xs hr b2 b3
 unfold Oper.wpIn
 refine ⟨?_, ?_⟩
 ·simp [Oper.about, hop, resolve, Target.leads, Sem.run_pure]
 ·rw [Oper.semAt_plain F _ _ (by rw [hop]; intro c hc'; cases hc')]
  simp [execOp, hop, resolve, invoke, builtin, hs, hx, hrun, Result.andThen]
  exact hK' _ _ (hK v' w' r1 r2 r3)
theorem boxed_grown {W w1 : World} {n₀ B : Nat} {t e : TypeId} {size : Nat} {v v' : Value} {k m : Nat} {xs ys : List Value}
  (hv : Boxed W B t v) (hte : t ≠ e) (hrow : W.ownsRow n₀ e size v k xs) (hn₀ : n₀ ≤ W.heap.size) (hB : n₀ ≤ B)
  (hown' : w1.ownsRow n₀ e size v' m ys) (hgrow : W.grownBy w1 v.ownBlock) :
  Boxed w1 B t v ∧ Boxed (w1.setCell ⟨B, 0, none⟩ v') B t v' ∧ (w1.setCell ⟨B, 0, none⟩ v').ownsRow n₀ e size v' m ys ∧ Below n₀ W (w1.setCell ⟨B, 0, none⟩ v') := by
 have hv1 : Boxed w1 B t v := hv.kept hgrow (hv.not_row hte hrow)
 refine ⟨hv1, hv1.set v', hown'.kept (grownBy_setCell' w1 B v') (.inr (hv1.not_row hte hown').symm), ?_⟩
 refine ((Below.refl n₀ W).grown hgrow hn₀ fun j ej => ?_).setCell (p := ⟨B, 0, none⟩) hB v'
 exact (hrow.lt j ej).1
theorem ownsRow_some {W : World} {base : Nat} {e : TypeId} {size : Nat} {v : Value} {k : Nat} {xs : List Value} (h : W.ownsRow base e size v k xs) (hne : v ≠ .slice none 0 0) : ∃ g cap, v = .slice (some ⟨g, 0, none⟩) k cap := by
 rcases h.2 with ⟨h0, _⟩ | ⟨g, cap, _, rfl, _⟩
 ·exact absurd h0 hne
 ·exact ⟨g, cap, rfl⟩
def IsRow (k : IntKind) (w : World) (a : Option Addr) (len cap : Nat) (zs : List Int) : Prop :=
 (a = none ∧ len = 0 ∧ cap = 0 ∧ zs = []) ∨
 ∃ x, a = some x ∧ len ≤ cap ∧ cap ≤ maxLen ∧ zs.length = cap ∧ (∀ i, i < zs.length → w.cell? (x.add i) = some (.int k (zs.getD i 0))) ∧ ∀ n ∈ zs, (Lit.int k n).wf = true
theorem Row.of_arg {w : World} {a : Option Addr} {len cap : Nat} {zs : List Int} (h : IsRow .u8 w a len cap zs) :
  ∃ xs : List Int, xs.length = len ∧ Row w w.heap.size (.slice a len cap) xs ∧ ∀ x ∈ xs, 0 ≤ x ∧ x < 256 := by
 rcases h with ⟨rfl, rfl, rfl, rfl⟩ | ⟨x, rfl, hl, hm, hz, hc, hw⟩
 ·exact ⟨[], rfl, Row.nil _ _, by simp⟩
 ·have hlen : (zs.take len).length = len := by simp; omega
  refine ⟨zs.take len, hlen, ⟨some x, cap, by rw [hlen], by omega, hm, by simp, fun hn => ?_⟩, fun y hy => ?_⟩
  ·obtain ⟨b, o, sp⟩ := x
   have h0 := hc 0 (by omega)
   have hs : sp = none := by simpa [Addr.add] using World.cell?_spot h0
   subst hs
   refine ⟨b, o, rfl, World.block_lt_of_cell? w ⟨b, o, none⟩ (by simpa [Addr.add] using h0), fun i hi => ?_⟩
   have hi' := hc i (by omega)
   rw [Go.WideShapes.add_plain] at hi'
   rw [hi']
   simp only [List.getD, List.getElem?_take]
   rw [if_pos (by omega)]
  ·have := bounds_u8 (hw y (List.mem_of_mem_take hy))
   omega
theorem conv_bytes {P : Program} (w : World) (src dst e : TypeId) (hs : P.underlying src = some .string) (hd : P.underlying dst = some (.slice e)) (he : P.underlying e = some (.int .u8))
  (xs : List Int) (hb : ∀ x ∈ xs, 0 ≤ x ∧ x < 256) (hl : xs.length ≤ 9223372036854775807) :
  ∃ A c W', (convert src dst (.string (strOfNums xs))).run P w = .ok (.slice A xs.length c) W' ∧ Row W' W'.heap.size (.slice A xs.length c) xs ∧ Below w.heap.size w W' := by
 have h := Lib.run_convert_string_bytes (P := P) w src dst e (strOfNums xs) hs hd he
 have hsz := strOfNums_size xs
 rw [hsz] at h
 refine ⟨_, _, _, h, ⟨_, _, rfl, grownCap_ge _ _ _ _, grownCap_le_maxLen _ _ _ _ (by simp only [maxLen]; omega), by simp, fun hn => ?_⟩, ?_⟩
 ·refine ⟨w.heap.size, 0, rfl, by rw [Lib.bytesWorld_size]; omega, fun i hi => ?_⟩
  rw [Nat.zero_add, Lib.bytesWorld_cell w e _ i (by omega)]
  have hx : xs.getD i 0 ∈ xs := by rw [List.getD, List.getElem?_eq_getElem hi]; simp
  have hx' := hb _ hx
  have e1 : (strOfNums xs).data.toList.getD i 0 = UInt8.ofNat (xs.getD i 0).toNat := by
   rw [strOfNums_data]
   simp [List.getD, List.getElem?_map, List.getElem?_eq_getElem hi]
  have e2 : ((UInt8.ofNat (xs.getD i 0).toNat).toNat : Int) = xs.getD i 0 := by rw [UInt8.toNat_ofNat']; omega
  rw [e1, e2]
 ·exact ⟨rfl, rfl, rfl, by rw [Lib.bytesWorld_size]; omega, fun i hi => Lib.bytesWorld_at_old w e _ i hi⟩
def numsOf (s : ByteArray) : List Int := s.data.toList.map fun b => (b.toNat : Int)
theorem nums_str (xs : List Int) (hb : ∀ x ∈ xs, 0 ≤ x ∧ x < 256) : numsOf (strOfNums xs) = xs := by
 rw [numsOf, strOfNums_data, List.map_map]
 conv => rhs; rw [← List.map_id xs]
 apply List.map_congr_left
 intro x hx
 have := hb x hx
 simp only [Function.comp, id]
 rw [UInt8.toNat_ofNat']
 omega
theorem str_inj {xs ys : List Int} (hx : ∀ x ∈ xs, 0 ≤ x ∧ x < 256) (hy : ∀ y ∈ ys, 0 ≤ y ∧ y < 256) (h : strOfNums xs = strOfNums ys) : xs = ys := by
 rw [← nums_str xs hx, ← nums_str ys hy, h]
theorem strCells_nums (xs : List Int) (hb : ∀ x ∈ xs, 0 ≤ x ∧ x < 256) : Lib.strCells (strOfNums xs) = xs.map (.int .u8) := by
 have h : Lib.strCells (strOfNums xs) = (numsOf (strOfNums xs)).map (.int .u8) := by simp [Lib.strCells, numsOf]
 rw [h, nums_str xs hb]
theorem Row.drop {w : World} {B : Nat} {A : Option Addr} {n c : Nat} {xs : List Int} (h : Row w B (.slice A n c) xs) {k : Nat} (hk : k ≤ xs.length) :
  Row w B (.slice (if c = k then A else A.map (·.add k)) (xs.drop k).length (c - k)) (xs.drop k) := by
 obtain ⟨A', c', hv, h1, h2, h3, h4⟩ := h
 injection hv with e1 e2 e3
 subst e1 e3
 have hl : (xs.drop k).length = xs.length - k := by simp
 refine ⟨_, _, rfl, by omega, by omega, fun h => ?_, fun hn => ?_⟩
 ·by_cases e : c = k
  ·omega
  ·rw [if_neg e] at h
   cases A with
   | none => have := h3 rfl; omega
   | some a => simp at h
 ·obtain ⟨b, o, rfl, hb, hc⟩ := h4 (by omega)
  rw [if_neg (by omega)]
  refine ⟨b, o + k, ?_, hb, fun i hi => ?_⟩
  ·rw [Option.map_some, Go.WideShapes.add_plain]
  ·rw [Nat.add_assoc, hc (k + i) (by omega)]
   simp [List.getD, List.getElem?_drop]
def VRow (w : World) (B : Nat) (v : Value) (us : List Value) : Prop :=
 ∃ A c, v = .slice A us.length c ∧ us.length ≤ c ∧ c ≤ maxLen ∧ (A = none → c = 0) ∧
  (0 < us.length → ∃ b o, A = some ⟨b, o, none⟩ ∧ b < B ∧ ∀ i u, us[i]? = some u → w.cell? ⟨b, o + i, none⟩ = some u)
section
variable {w w' : World} {B B' : Nat} {v : Value} {us : List Value}
theorem VRow.keep (h : VRow w B v us) (hk : ∀ p : Addr, p.block < B → w'.cell? p = w.cell? p) : VRow w' B v us := by
 obtain ⟨A, c, hv, h1, h2, h3, h4⟩ := h
 refine ⟨A, c, hv, h1, h2, h3, fun hn => ?_⟩
 obtain ⟨b, o, e, hb, hc⟩ := h4 hn
 exact ⟨b, o, e, hb, fun i u hi => (hk ⟨b, o + i, none⟩ hb).trans (hc i u hi)⟩
theorem VRow.below (h : VRow w B v us) (hb : Below B w w') : VRow w' B v us := h.keep fun _ hp => hb.cell hp
theorem VRow.more (h : VRow w B v us) (hB : B ≤ B') : VRow w B' v us := by
 obtain ⟨A, c, hv, h1, h2, h3, h4⟩ := h
 refine ⟨A, c, hv, h1, h2, h3, fun hn => ?_⟩
 obtain ⟨b, o, e, hb, hc⟩ := h4 hn
 exact ⟨b, o, e, by omega, hc⟩
theorem VRow.nil (w : World) (B : Nat) : VRow w B (.slice none 0 0) [] := ⟨none, 0, rfl, Nat.le_refl _, Nat.zero_le _, fun _ => rfl, fun h => absurd h (by simp)⟩
theorem VRow.of_own {base : Nat} {e : TypeId} {n : Nat} (h : w.ownsRow base e 1 v n us) : VRow w w.heap.size v us := by
 have hl : us.length = n := by have := h.1; simpa using this
 subst hl
 have h' := h
 rcases h.2 with ⟨rfl, h0⟩ | ⟨g, cap, cur, rfl, _, hg, hnc, hcm, _, _⟩
 ·obtain rfl : us = [] := List.eq_nil_of_length_eq_zero h0
  exact VRow.nil _ _
 ·refine ⟨some ⟨g, 0, none⟩, cap, rfl, hnc, hcm, by simp, fun _ => ⟨g, 0, rfl, (Array.getElem?_eq_some_iff.1 hg).1, fun i u hi => ?_⟩⟩
  have hlt := (List.getElem?_eq_some_iff.1 hi).1
  rw [show 0 + i = i by omega, h'.cellAt i (by omega), hi]
theorem VRow.length {A : Option Addr} {n c : Nat} (h : VRow w B (.slice A n c) us) : n = us.length ∧ us.length ≤ c ∧ c ≤ 9223372036854775807 := by
 obtain ⟨A', c', hv, h1, h2, h3, h4⟩ := h
 injection hv with e1 e2 e3
 subst e3
 unfold maxLen at h2
 exact ⟨e2, h1, by omega⟩
end
theorem own_below {w w' : World} {base : Nat} {e : TypeId} {size n : Nat} {v : Value} {us : List Value} (h : w.ownsRow base e size v n us) (hb : Below w.heap.size w w') : w'.ownsRow base e size v n us :=
 h.kept (row := none) ⟨hb.os, hb.tape, hb.output, hb.size, fun k hk _ => hb.block k hk⟩ (Classical.em _)
def strV (t : List Int) : Value := .string (strOfNums t)
def strVs (l : List (List Int)) : List Value := l.map strV
theorem strVs_length (l : List (List Int)) : (strVs l).length = l.length := by simp [strVs]
theorem strVs_at (l : List (List Int)) {k : Nat} {t : List Int} (h : l[k]? = some t) : (strVs l)[k]? = some (.string (strOfNums t)) := by simp [strVs, strV, h]
theorem strVs_snoc (l : List (List Int)) (t : List Int) : strVs (l ++ [t]) = strVs l ++ [.string (strOfNums t)] := by simp [strVs, strV]
theorem Row.of_cells {w : World} {B g : Nat} {xs : List Int} (hl : xs.length ≤ 9223372036854775807) (hg : g < B) (hc : ∀ i, i < xs.length → w.cell? ⟨g, i, none⟩ = some (.int .u8 (xs.getD i 0))) : Row w B (.slice (some ⟨g, 0, none⟩) xs.length xs.length) xs :=
 ⟨_, _, rfl, Nat.le_refl _, by unfold maxLen; exact hl, by simp, fun _ => ⟨g, 0, rfl, hg, fun i hi => by rw [Nat.zero_add]; exact hc i hi⟩⟩
def Held (w : World) (g : Nat) (t : TypeId) (cs : Array Value) : Prop := w.heap[g]? = some (.cells cs t (0, 0))
section
variable {w w' : World} {g : Nat} {t : TypeId} {cs : Array Value}
theorem Held.lt (h : Held w g t cs) : g < w.heap.size := (Array.getElem?_eq_some_iff.1 h).1
theorem Held.cell (h : Held w g t cs) (i : Nat) : w.cell? ⟨g, i, none⟩ = cs[i]? := by simp [World.cell?, show w.heap[g]? = _ from h]
theorem Held.frozen (h : Held w g t cs) (i : Nat) : w.frozen? ⟨g, i, none⟩ = false := by simp [World.frozen?, show w.heap[g]? = _ from h]
theorem cC2 {w : World} {g : Nat} {t : TypeId} {cs : Array Value} (h : Held w g t cs) : w.cell? ⟨g, 0, none⟩ = cs[0]? ∧ w.cell? ⟨g, 1, none⟩ = cs[1]? := ⟨h.cell 0, h.cell 1⟩
theorem cC3 {w : World} {g : Nat} {t : TypeId} {cs : Array Value} (h : Held w g t cs) : w.cell? ⟨g, 0, none⟩ = cs[0]? ∧ w.cell? ⟨g, 1, none⟩ = cs[1]? ∧ w.cell? ⟨g, 2, none⟩ = cs[2]? := ⟨h.cell 0, h.cell 1, h.cell 2⟩
theorem cC4 {w : World} {g : Nat} {t : TypeId} {cs : Array Value} (h : Held w g t cs) : w.cell? ⟨g, 0, none⟩ = cs[0]? ∧ w.cell? ⟨g, 1, none⟩ = cs[1]? ∧ w.cell? ⟨g, 2, none⟩ = cs[2]? ∧ w.cell? ⟨g, 3, none⟩ = cs[3]? := ⟨h.cell 0, h.cell 1, h.cell 2, h.cell 3⟩
theorem cC5 {w : World} {g : Nat} {t : TypeId} {cs : Array Value} (h : Held w g t cs) : w.cell? ⟨g, 0, none⟩ = cs[0]? ∧ w.cell? ⟨g, 1, none⟩ = cs[1]? ∧ w.cell? ⟨g, 2, none⟩ = cs[2]? ∧ w.cell? ⟨g, 3, none⟩ = cs[3]? ∧ w.cell? ⟨g, 4, none⟩ = cs[4]? := ⟨h.cell 0, h.cell 1, h.cell 2, h.cell 3, h.cell 4⟩
theorem cF2 {w : World} {g : Nat} {t : TypeId} {cs : Array Value} (h : Held w g t cs) : w.frozen? ⟨g, 0, none⟩ = false ∧ w.frozen? ⟨g, 1, none⟩ = false := ⟨h.frozen 0, h.frozen 1⟩
theorem cF3 {w : World} {g : Nat} {t : TypeId} {cs : Array Value} (h : Held w g t cs) : w.frozen? ⟨g, 0, none⟩ = false ∧ w.frozen? ⟨g, 1, none⟩ = false ∧ w.frozen? ⟨g, 2, none⟩ = false := ⟨h.frozen 0, h.frozen 1, h.frozen 2⟩
theorem cF5 {w : World} {g : Nat} {t : TypeId} {cs : Array Value} (h : Held w g t cs) : w.frozen? ⟨g, 0, none⟩ = false ∧ w.frozen? ⟨g, 1, none⟩ = false ∧ w.frozen? ⟨g, 2, none⟩ = false ∧ w.frozen? ⟨g, 3, none⟩ = false ∧ w.frozen? ⟨g, 4, none⟩ = false := ⟨h.frozen 0, h.frozen 1, h.frozen 2, h.frozen 3, h.frozen 4⟩
theorem cG2 {w : World} {g : Nat} {t : TypeId} {cs : Array Value} (h : Held w g t cs) : (w.frozen? ⟨g, 0, none⟩ = false ∧ w.frozen? ⟨g, 1, none⟩ = false) ∧ w.cell? ⟨g, 0, none⟩ = cs[0]? ∧ w.cell? ⟨g, 1, none⟩ = cs[1]? := ⟨cF2 h, cC2 h⟩
theorem cG3 {w : World} {g : Nat} {t : TypeId} {cs : Array Value} (h : Held w g t cs) : (w.frozen? ⟨g, 0, none⟩ = false ∧ w.frozen? ⟨g, 1, none⟩ = false ∧ w.frozen? ⟨g, 2, none⟩ = false) ∧ w.cell? ⟨g, 0, none⟩ = cs[0]? ∧ w.cell? ⟨g, 1, none⟩ = cs[1]? ∧ w.cell? ⟨g, 2, none⟩ = cs[2]? := ⟨cF3 h, cC3 h⟩
theorem cG5 {w : World} {g : Nat} {t : TypeId} {cs : Array Value} (h : Held w g t cs) : (w.frozen? ⟨g, 0, none⟩ = false ∧ w.frozen? ⟨g, 1, none⟩ = false ∧ w.frozen? ⟨g, 2, none⟩ = false ∧ w.frozen? ⟨g, 3, none⟩ = false ∧ w.frozen? ⟨g, 4, none⟩ = false) ∧ w.cell? ⟨g, 0, none⟩ = cs[0]? ∧ w.cell? ⟨g, 1, none⟩ = cs[1]? ∧ w.cell? ⟨g, 2, none⟩ = cs[2]? ∧ w.cell? ⟨g, 3, none⟩ = cs[3]? ∧ w.cell? ⟨g, 4, none⟩ = cs[4]? := ⟨cF5 h, cC5 h⟩
theorem Held.put (h : Held w g t cs) (i : Nat) (u : Value) : Held (w.setCell ⟨g, i, none⟩ u) g t (cs.setIfInBounds i u) := by
 have h' : w.heap[g]? = _ := h
 show (w.setCell ⟨g, i, none⟩ u).heap[g]? = _
 simp [World.setCell, Array.getElem?_modify, h']
theorem Held.grown {row : Option Nat} (h : Held w g t cs) (hg : w.grownBy w' row) (hne : some g ≠ row) : Held w' g t cs := (hg.block g h.lt hne).trans h
theorem Held.below {B : Nat} (h : Held w g t cs) (hb : Below B w w') (hlt : g < B) : Held w' g t cs := (hb.block g hlt).trans h
end
theorem Held.other_put {W : World} {q b i : Nat} {t : TypeId} {vs : Array Value} (h : Held W q t vs) (hne : q ≠ b) (u : Value) : Held (W.setCell ⟨b, i, none⟩ u) q t vs := (Below.heap_setCell _ _ _ _ (by simpa using hne)).trans h
theorem grown_trans {a b c : World} {row : Option Nat} (h : a.grownBy b row) (k : b.grownBy c row) : a.grownBy c row :=
 ⟨k.os.trans h.os, k.tape.trans h.tape, k.output.trans h.output, Nat.le_trans h.size k.size, fun i hi hn => (k.block i (Nat.lt_of_lt_of_le hi h.size) hn).trans (h.block i hi hn)⟩
theorem grown_below {a b : World} (h : Below a.heap.size a b) (row : Option Nat) : a.grownBy b row := ⟨h.os, h.tape, h.output, h.size, fun i hi _ => h.block i hi⟩
theorem grown_put (w : World) (g i : Nat) (u : Value) : w.grownBy (w.setCell ⟨g, i, none⟩ u) (some g) :=
 ⟨rfl, rfl, rfl, by simp [World.setCell], fun k _ hn => Below.heap_setCell w ⟨g, i, none⟩ u k (fun e => hn (by rw [e]))⟩
theorem grown_drewN {a b : World} {row : Option Nat} (h : a.grownBy b row) (n : Nat) : a.grownBy (b.drewN n) row := ⟨h.os, h.tape, h.output, h.size, h.block⟩
def Cur (T : TypeId) (w : World) (K g : Nat) (xs : List Int) (p : Nat) (e : Int) : Prop :=
 ∃ A c, Held w g T #[.slice A xs.length c, .int .i64 p, .int .i64 e] ∧ Row w g (.slice A xs.length c) xs ∧ (∀ a, A = some a → K ≤ a.block)
section
variable {T : TypeId} {w w' : World} {K g : Nat} {xs : List Int} {p : Nat} {e : Int}
theorem Cur.lt (h : Cur T w K g xs p e) : g < w.heap.size := by
 obtain ⟨A, c, h1, _⟩ := h
 exact h1.lt
theorem Cur.keep (h : Cur T w K g xs p e) (hk : ∀ k, K ≤ k → k ≤ g → w'.heap[k]? = w.heap[k]?) (hKg : K ≤ g) : Cur T w' K g xs p e := by
 obtain ⟨A, c, h1, h2, h3⟩ := h
 refine ⟨A, c, (hk g hKg (Nat.le_refl _)).trans h1, ?_, h3⟩
 obtain ⟨A', c', hv, q1, q2, q3, q4⟩ := h2
 refine ⟨A', c', hv, q1, q2, q3, fun hn => ?_⟩
 obtain ⟨b, o, e1, hb, hc⟩ := q4 hn
 injection hv with e2
 have hK := h3 ⟨b, o, none⟩ (e2.trans e1)
 exact ⟨b, o, e1, hb, fun i hi => (World.cell?_of_block (hk b hK (by omega))).trans (hc i hi)⟩
theorem Cur.below (h : Cur T w K g xs p e) (hb : Below w.heap.size w w') (hKg : K ≤ g) : Cur T w' K g xs p e := h.keep (fun k _ hk => hb.block k (by have := h.lt; omega)) hKg
theorem Cur.grown {k : Nat} (h : Cur T w K g xs p e) (hg : w.grownBy w' (some k)) (hk : k < K ∨ g < k) (hKg : K ≤ g) : Cur T w' K g xs p e :=
 h.keep (fun j h1 h2 => hg.block j (by have := h.lt; omega) (fun e => by injection e with e; omega)) hKg
theorem Cur.row_put {A : Option Addr} {c n i : Nat} {u : Value} (h : Row w g (.slice A n c) xs) : Row (w.setCell ⟨g, i, none⟩ u) g (.slice A n c) xs :=
 h.keep fun q hq => World.cell?_of_block (Below.heap_setCell w ⟨g, i, none⟩ u q.block (by simp only; omega))
theorem Cur.at_ (h : Cur T w K g xs p e) (q : Nat) : Cur T (w.setCell ⟨g, 1, none⟩ (.int .i64 q)) K g xs q e := by
 obtain ⟨A, c, h1, h2, h3⟩ := h
 exact ⟨A, c, by simpa using h1.put 1 (.int .i64 q), Cur.row_put h2, h3⟩
theorem Cur.err (h : Cur T w K g xs p e) (q : Int) : Cur T (w.setCell ⟨g, 2, none⟩ (.int .i64 q)) K g xs p q := by
 obtain ⟨A, c, h1, h2, h3⟩ := h
 exact ⟨A, c, by simpa using h1.put 2 (.int .i64 q), Cur.row_put h2, h3⟩
theorem Cur.cells (h : Cur T w K g xs p e) : ∃ A c, w.cell? ⟨g, 0, none⟩ = some (.slice A xs.length c) ∧ w.cell? ⟨g, 1, none⟩ = some (.int .i64 p) ∧ w.cell? ⟨g, 2, none⟩ = some (.int .i64 e) ∧ w.frozen? ⟨g, 1, none⟩ = false ∧ w.frozen? ⟨g, 2, none⟩ = false ∧
  Row w g (.slice A xs.length c) xs ∧ xs.length ≤ c ∧ c ≤ 9223372036854775807 := by
 obtain ⟨A, c, h1, h2, h3⟩ := h
 obtain ⟨A', c', hv, q1, q2, _⟩ := id h2
 injection hv with _ _ e3
 subst e3
 unfold maxLen at q2
 exact ⟨A, c, h1.cell 0, h1.cell 1, h1.cell 2, h1.frozen 1, h1.frozen 2, h2, q1, by omega⟩
end
section
variable {a b c w w' : World} {g n K : Nat} {row : Option Nat} {T : TypeId} {xs : List Int} {p : Nat} {e : Int}
theorem Cur.past (h : Cur T w K g xs p e) (hg : w.grownBy w' row) (hrow : ∀ j, row = some j → n ≤ j) (hgn : g < n) (hKg : K ≤ g) : Cur T w' K g xs p e :=
 h.keep (fun k h1 h2 => hg.block k (by have := h.lt; omega) (fun e => by have := hrow k e.symm; omega)) hKg
theorem grown_past (h : a.grownBy b (some g)) (k : b.grownBy c row) (hn : ∀ j, row = some j → a.heap.size ≤ j) : a.grownBy c (some g) :=
 ⟨k.os.trans h.os, k.tape.trans h.tape, k.output.trans h.output, Nat.le_trans h.size k.size, fun i hi hne => (k.block i (Nat.lt_of_lt_of_le hi h.size) (fun e => by have := hn i e.symm; omega)).trans (h.block i hi hne)⟩
end
theorem wpList_append_row {P : Program} (w : World) {ops : Array Oper} {rest : List Oper} {o : Oper} {a : Act} {Q : Exit → Act → World → Prop}
  (hg : o.guard = none) (s x : Operand) (t : TypeId) (hop : o.op = Op.call { callee := Callee.builtin Builtin.append, args := #[s, x], argTypes := #[t, t] })
  (base : Nat) (e : TypeId) (i : TypeInfo) (z : Value) (h1 : P.underlying t = some (.slice e)) (h2 : P.info? e = some i) (h3 : i.zero = some z) (h4 : i.size = 1) (h5 : i.bytes = 1) (h6 : z.cells.size = 1)
  (v : Value) (k : Nat) (us : List Value) (hs : a.eval s = v) (hown : w.ownsRow base e 1 v k us) (B : Nat) (sv : Value) (xs : List Int) (hx : a.eval x = sv) (hr : Row w B sv xs)
  (b2 : k + xs.length ≤ 140737488355328) (b3 : base ≤ w.heap.size)
  (hK : ∀ v' w', w'.ownsRow base e 1 v' (k + xs.length) (us ++ xs.map (.int .u8)) → w.grownBy w' v.ownBlock → (v' = .slice none 0 0 ↔ v = .slice none 0 0 ∧ xs.length = 0) → wpList P ops Q rest (a.put o.dst v') w') :
  wpList P ops Q (o :: rest) a w := by
 obtain ⟨v', w', hrun, r1, r2, r3⟩ := run_append_row (P := P) w base t o.type e i z h1 h2 h3 h4 h5 h6 v k us hown B sv xs hr b2 b3
 refine wpList_plain hg fun K hK' => ?_
 unfold Oper.wp
 simp [execOp, hop, resolve, invoke, builtin, hs, hx, hrun, Result.andThen]
 exact hK' _ _ (hK v' w' r1 r2 r3)
theorem own_none1 (w : World) (base : Nat) (e : TypeId) (hb : base ≤ w.heap.size) : (w.alloc (.cells #[] e)).ownsRow base e 1 (.slice (some ⟨w.heap.size, 0, none⟩) 0 0) 0 [] :=
 ⟨rfl, .inr ⟨w.heap.size, 0, #[], rfl, hb, heap_alloc_new w _, Nat.le_refl _, Nat.zero_le _, rfl, rfl⟩⟩
structure But (w w' : World) (row : Option Nat) (g : Nat) : Prop where
 os : w'.os = w.os
 tape : w'.tape = w.tape
 output : w'.output = w.output
 size : w.heap.size ≤ w'.heap.size
 block : ∀ k, k < w.heap.size → k ≠ g → some k ≠ row → w'.heap[k]? = w.heap[k]?
section
variable {w w' w2 : World} {row row' : Option Nat} {g : Nat}
theorem But.refl (w : World) (row : Option Nat) (g : Nat) : But w w row g := ⟨rfl, rfl, rfl, Nat.le_refl _, fun _ _ _ _ => rfl⟩
theorem But.of_one (h : w.grownBy w' (some g)) (row : Option Nat) : But w w' row g := ⟨h.os, h.tape, h.output, h.size, fun k hk hn _ => h.block k hk (fun e => hn (by injection e))⟩
theorem But.of_row (h : w.grownBy w' row) (g : Nat) : But w w' row g := ⟨h.os, h.tape, h.output, h.size, fun k hk _ hn => h.block k hk hn⟩
theorem But.of_below (h : Below w.heap.size w w') (row : Option Nat) (g : Nat) : But w w' row g := ⟨h.os, h.tape, h.output, h.size, fun k hk _ _ => h.block k hk⟩
theorem But.trans (h : But w w' row g) (k : But w' w2 row' g) (hr : ∀ j, row' = some j → row = some j ∨ w.heap.size ≤ j) : But w w2 row g :=
 ⟨k.os.trans h.os, k.tape.trans h.tape, k.output.trans h.output, Nat.le_trans h.size k.size, fun i hi hn hn2 =>
  (k.block i (Nat.lt_of_lt_of_le hi h.size) hn (fun e => (hr i e.symm).elim (fun e2 => hn2 e2.symm) (fun h => by omega))).trans (h.block i hi hn hn2)⟩
theorem But.low {n : Nat} (h : But w w' row g) (hn : n ≤ w.heap.size) (hg : n ≤ g) (hr : ∀ j, row = some j → n ≤ j) : Below n w w' :=
 ⟨h.os, h.tape, h.output, h.size, fun k hk => h.block k (by omega) (by omega) (fun e => by have := hr k e.symm; omega)⟩
theorem But.held {k : Nat} {t : TypeId} {cs : Array Value} (h : But w w' row g) (hk : Held w k t cs) (h1 : k ≠ g) (h2 : some k ≠ row) : Held w' k t cs := (h.block k hk.lt h1 h2).trans hk
theorem But.bytes {B : Nat} {A : Option Addr} {n c : Nat} {xs : List Int} (h : But w w' row g) (hr : Row w B (.slice A n c) xs) (hg : ∀ (i : Nat) (n : Int), w.cell? ⟨g, i, none⟩ ≠ some (.int .u8 n)) (hA : ∀ a, A = some a → row ≠ some a.block) : Row w' B (.slice A n c) xs := by
 obtain ⟨A', c', hv, h1, h2, h3, h4⟩ := hr
 injection hv with e1 e2 e3
 subst e1 e3
 refine ⟨_, _, by rw [e2], h1, h2, h3, fun hn => ?_⟩
 obtain ⟨b, o, e, hb, hc⟩ := h4 hn
 refine ⟨b, o, e, hb, fun i hi => ?_⟩
 have hlt : b < w.heap.size := World.block_lt_of_cell? w ⟨b, o + 0, none⟩ (hc 0 hn)
 have hne : b ≠ g := fun e => by
  subst e
  exact hg _ _ (hc 0 hn)
 exact (World.cell?_of_block (h.block b hlt hne (fun e2 => hA _ e e2.symm))).trans (hc i hi)
theorem But.clean {B : Nat} {v : Value} {xs : List Int} (h : But w w' row g) (hr : Row w B v xs) (hg : ∀ (i : Nat) (n : Int), w.cell? ⟨g, i, none⟩ ≠ some (.int .u8 n)) (hc : ∀ j, row = some j → ∀ (i : Nat) (n : Int), w.cell? ⟨j, i, none⟩ ≠ some (.int .u8 n)) : Row w' B v xs := by
 obtain ⟨A, c, hv, h1, h2, h3, h4⟩ := hr
 refine ⟨_, _, hv, h1, h2, h3, fun hn => ?_⟩
 obtain ⟨b, o, e, hb, hcell⟩ := h4 hn
 refine ⟨b, o, e, hb, fun i hi => ?_⟩
 have hlt : b < w.heap.size := World.block_lt_of_cell? w ⟨b, o + 0, none⟩ (hcell 0 hn)
 exact (World.cell?_of_block (h.block b hlt (fun e => by subst e; exact hg _ _ (hcell 0 hn)) (fun e2 => hc b e2.symm _ _ (hcell 0 hn)))).trans (hcell i hi)
end
theorem own_but {w w' : World} {row : Option Nat} {g base : Nat} {e : TypeId} {size n : Nat} {v : Value} {us : List Value} (h : w.ownsRow base e size v n us) (hb : But w w' row g) (h1 : v.ownBlock = none ∨ v.ownBlock ≠ some g) (h2 : v.ownBlock = none ∨ v.ownBlock ≠ row) : w'.ownsRow base e size v n us := by
 refine ⟨h.1, ?_⟩
 rcases h.2 with h3 | ⟨b, cap, cur, rfl, hbb, hgb, r⟩
 ·exact .inl h3
 ·refine .inr ⟨b, cap, cur, rfl, hbb, ?_, r⟩
  refine (hb.block b (Array.getElem?_eq_some_iff.1 hgb).1 (fun e2 => ?_) (fun e2 => ?_)).trans hgb
  ·exact h1.elim (fun h => by simp [Value.ownBlock] at h) (fun h => h (by simp [Value.ownBlock, e2]))
  ·exact h2.elim (fun h => by simp [Value.ownBlock] at h) (fun h => h (by rw [← e2]; rfl))
open Go.RowKit Go.ChangeShapes Go.WideShapes
def IRow (w : World) (B : Nat) (v : Value) (xs : List Int) : Prop := VRow w B v (xs.map (.int .i64))
theorem IRow.below {w w' : World} {B : Nat} {v : Value} {xs : List Int} (h : IRow w B v xs) (hb : Below B w w') : IRow w' B v xs := VRow.below h hb
theorem IRow.more {w : World} {B B' : Nat} {v : Value} {xs : List Int} (h : IRow w B v xs) (hB : B ≤ B') : IRow w B' v xs := VRow.more h hB
theorem IRow.at {w : World} {B n c : Nat} {A : Option Addr} {xs : List Int} (h : IRow w B (.slice A n c) xs) {i : Nat} (hi : i < xs.length) : ∃ b o, A = some ⟨b, o, none⟩ ∧ b < B ∧ w.cell? ⟨b, o + i, none⟩ = some (.int .i64 (xs.getD i 0)) := by
 obtain ⟨A', c', hv, _, _, _, h4⟩ := h
 injection hv with e1 _ _
 obtain ⟨b, o, e, hb, hc⟩ := h4 (by rw [List.length_map]; omega)
 exact ⟨b, o, e1.trans e, hb, hc i _ (by rw [List.getElem?_map, List.getElem?_eq_getElem hi]; simp [List.getD, List.getElem?_eq_getElem hi])⟩
structure Pd where
 p : Pr
 A : Option Addr
 c : Nat
abbrev Pd.val (d : Pd) : Value := .agg #[.string (strOfNums d.p.name), .slice d.A d.p.args.length d.c]
def Pd.Fits (d : Pd) : Prop := d.p.name.length ≤ maxLen ∧ (∀ x ∈ d.p.name, 0 ≤ x ∧ x < 256) ∧ ∀ x ∈ d.p.args, -9223372036854775808 ≤ x ∧ x ≤ 9223372036854775807
def PredRow (w : World) (B : Nat) (v : Value) (ds : List Pd) : Prop :=
 ∃ A c, v = .slice A ds.length c ∧ ds.length ≤ c ∧ c ≤ maxLen ∧ (A = none → c = 0) ∧
  (0 < ds.length → ∃ b o, A = some ⟨b, o, none⟩ ∧ b < B ∧ ∀ (i : Nat) (d : Pd), ds[i]? = some d → w.cell? ⟨b, o + i * 2, none⟩ = some (.string (strOfNums d.p.name)) ∧ w.cell? ⟨b, o + i * 2 + 1, none⟩ = some (.slice d.A d.p.args.length d.c)) ∧
  ∀ d ∈ ds, IRow w B (.slice d.A d.p.args.length d.c) d.p.args ∧ d.Fits
section
variable {w w' : World} {B B' : Nat} {v : Value} {ds : List Pd}
theorem PredRow.below (h : PredRow w B v ds) (hb : Below B w w') : PredRow w' B v ds := by
 obtain ⟨A, c, hv, h1, h2, h3, h4, h5⟩ := h
 refine ⟨A, c, hv, h1, h2, h3, fun hn => ?_, fun d hd => ⟨(h5 d hd).1.below hb, (h5 d hd).2⟩⟩
 obtain ⟨b, o, e, hlt, hc⟩ := h4 hn
 exact ⟨b, o, e, hlt, fun i d hd => ⟨(hb.cell (p := ⟨b, o + i * 2, none⟩) hlt).trans (hc i d hd).1, (hb.cell (p := ⟨b, o + i * 2 + 1, none⟩) hlt).trans (hc i d hd).2⟩⟩
theorem PredRow.more (h : PredRow w B v ds) (hB : B ≤ B') : PredRow w B' v ds := by
 obtain ⟨A, c, hv, h1, h2, h3, h4, h5⟩ := h
 refine ⟨A, c, hv, h1, h2, h3, fun hn => ?_, fun d hd => ⟨(h5 d hd).1.more hB, (h5 d hd).2⟩⟩
 obtain ⟨b, o, e, hlt, hc⟩ := h4 hn
 exact ⟨b, o, e, Nat.lt_of_lt_of_le hlt hB, hc⟩
theorem PredRow.nil (w : World) (B : Nat) : PredRow w B (.slice none 0 0) [] := ⟨none, 0, rfl, Nat.le_refl _, Nat.zero_le _, fun _ => rfl, fun h => absurd h (by simp), by simp⟩
theorem PredRow.form (h : PredRow w B v ds) : ∃ A c, v = .slice A ds.length c ∧ ds.length ≤ c ∧ c ≤ 9223372036854775807 := by
 obtain ⟨A, c, hv, h1, h2, _⟩ := h
 unfold maxLen at h2
 exact ⟨A, c, hv, h1, by omega⟩
theorem PredRow.at {A : Option Addr} {n c : Nat} (h : PredRow w B (.slice A n c) ds) {i : Nat} {d : Pd} (hd : ds[i]? = some d) : ∃ b o, A = some ⟨b, o, none⟩ ∧ b < B ∧
  w.cell? ⟨b, o + i * 2, none⟩ = some (.string (strOfNums d.p.name)) ∧ w.cell? ⟨b, o + i * 2 + 1, none⟩ = some (.slice d.A d.p.args.length d.c) ∧ IRow w B (.slice d.A d.p.args.length d.c) d.p.args ∧ d.Fits ∧ d.p.args.length ≤ d.c ∧ d.c ≤ 9223372036854775807 := by
 obtain ⟨A', c', hv, h1, h2, h3, h4, h5⟩ := h
 injection hv with e1 _ _
 have hlt := (List.getElem?_eq_some_iff.1 hd).1
 obtain ⟨b, o, e, hb, hc⟩ := h4 (by omega)
 obtain ⟨q1, q2⟩ := h5 d (List.mem_of_getElem? hd)
 obtain ⟨_, _, ev, r1, r2, _⟩ := id q1
 injection ev with _ _ e3
 rw [List.length_map] at r1
 unfold maxLen at r2
 exact ⟨b, o, e1.trans e, hb, (hc i d hd).1, (hc i d hd).2, q1, q2, by omega, by omega⟩
end
theorem at_pr {ds : List Pd} {i : Nat} {d : Pd} (h : ds[i]? = some d) : (ds.map (·.p))[i]? = some d.p := by rw [List.getElem?_map, h]; rfl
theorem pr_at {ds : List Pd} {i : Nat} {p : Pr} (h : (ds.map (·.p))[i]? = some p) : ∃ d, ds[i]? = some d ∧ d.p = p := by
 rw [List.getElem?_map] at h
 cases hd : ds[i]? with
 | none => rw [hd] at h; cases h
 | some d => rw [hd] at h; exact ⟨d, rfl, by simpa using h⟩
theorem str_empty (xs : List Int) : (strOfNums xs).toList.isEmpty = xs.isEmpty := by
 rw [Lib.toList_data, strOfNums_data]
 cases xs <;> rfl
theorem str_eq_dec {xs ys : List Int} (hx : ∀ x ∈ xs, 0 ≤ x ∧ x < 256) (hy : ∀ y ∈ ys, 0 ≤ y ∧ y < 256) : ((strOfNums xs).toList == (strOfNums ys).toList) = decide (xs = ys) := by
 by_cases h : xs = ys
 ·subst h; simp
 ·rw [decide_eq_false h, beq_eq_false_iff_ne]
  intro e
  rw [Lib.toList_data, Lib.toList_data] at e
  refine h (str_inj hx hy ?_)
  rw [← Lib.mk_data (strOfNums xs), ← Lib.mk_data (strOfNums ys), e]
theorem str_ne {xs ys : List Int} (hx : ∀ x ∈ xs, 0 ≤ x ∧ x < 256) (hy : ∀ y ∈ ys, 0 ≤ y ∧ y < 256) (h : xs ≠ ys) : ((strOfNums xs).toList == (strOfNums ys).toList) = false := by rw [str_eq_dec hx hy, decide_eq_false h]
theorem nameB_all {s : List Int} (h : ∀ k, k < s.length → nameB (s.getD k 0) = true) : s.all nameB = true := by
 rw [List.all_eq_true]
 intro x hx
 obtain ⟨k, hk, e⟩ := List.getElem_of_mem hx
 have := h k hk
 rw [List.getD, List.getElem?_eq_getElem hk] at this
 simpa [e] using this
section
variable {l : List Pr} {i : Nat} {p : Pr}
theorem getD_pr (hp : l[i]? = some p) : l.getD i default = p := by simp [List.getD, hp]
theorem whyP_9 (hp : l[i]? = some p) (h : okName p.name = false ∨ findP l p.name < i) : whyP l i = 9 := by
 unfold whyP
 rw [getD_pr hp, if_pos h]
end
theorem step_lt {P : Nat → Prop} {k : Nat} (h : ∀ j, j < k → P j) (hk : P k) : ∀ j, j < k + 1 → P j := fun j hj => by
 rcases Nat.lt_or_ge j k with q | q
 ·exact h j q
 ·obtain rfl : j = k := by omega
  exact hk
end Go.Proofs.YtnlfcmbpocdpjaaGreat
