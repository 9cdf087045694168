/-
  What the theorem of WriteTakes rests on, part 4 of 11.
-/
import Derived.Test.YtohibmjjhifggaaGreatRows
import Derived.WalkKit
import Derived.WalkSpells
import Derived.WalkLawsBesides
import Derived.LoopTactic
import Derived.Lib.Hide
import Derived.Outline
import Derived.Deep.RegionWith
import Derived.Deep.RegionHeld3
import Derived.Test.YtohibmjjhifggaaGreatWriteTakesZ3
namespace Go.Proofs.YtohibmjjhifggaaGreat
open Go.RowKit
/-- string([]byte{x}), of a slice of one cell, wherever that lies. -/
theorem conv_one (W : World) (b : Nat) (x : Int) (h : W.cell? ⟨b, 0, none⟩ = some (.int .u8 x)) : (convert 38 9 (.slice (some ⟨b, 0, none⟩) 1 1)).run Tryz.prog W = .ok (.string (strOfNums [x])) W := by
  refine run_convert_bytes_arg (P := Tryz.prog) W 38 5 Tryz.underlying38 Tryz.underlying5 b 0 1 1 [x] rfl ?_ 9 Tryz.underlying9
  intro i hi
  have hi0 : i = 0 := by omega
  subst hi0
  simpa using h
set_option maxRecDepth 100000 in
theorem rput_small (n : Nat) (w : World) (hs : n < 128) :
    Calls Tryz.prog 51 #[.int .u64 n] w fun e w' => e = .returned (.string (strOfNums (encI n))) ∧ Below w.heap.size w w' := by
  have hcv := fun W b => conv_one W b (n : Int)
  have e1 := encI_small hs
  have E1 := Lib.hid e1; clear e1
  go_enter Tryz.func51, Tryz.ntmps51
  go_wp2_with fail
  go_ret
  exact ⟨by rw [E1.out]; rfl, (Below.refl _ _).alloc (Nat.le_refl _) _⟩
set_option maxRecDepth 100000 in
set_option maxHeartbeats 2000000 in
theorem rput_any (k : Nat) : ∀ (n : Nat) (w : World), n < 128 ^ (k + 1) → n < 18446744073709551616 →
    Calls Tryz.prog 51 #[.int .u64 n] w fun e w' => e = .returned (.string (strOfNums (encI n))) ∧ Below w.heap.size w w' := by
  induction k with
  | zero => intro n w h1 h2; exact rput_small n w (by omega)
  | succ k ih =>
    intro n w h1 h2
    by_cases hs : n < 128
    · exact rput_small n w hs
    · have hge : ¬ ((n : Int) < 128) := by omega
      have ih2 := fun w => ih (n / 128) w (by rw [Nat.pow_succ] at h1; omega) (by omega)
      rw [show (((n / 128 : Nat)) : Int) = (n : Int) / 128 by omega] at ih2
      have IH := Lib.hid ih2; clear ih2 ih h1
      have e1 := encI_great hs
      rw [Int.add_comm] at e1
      have E1 := Lib.hid e1; clear e1
      have hcv := fun W b => conv_one W b (128 + (n : Int) % 128)
      have t1 : (n : Int).tmod 128 = (n : Int) % 128 := by rw [Int.tmod_eq_emod_of_nonneg (by omega)]
      have t2 : IntKind.u64.wrap (128 + (n : Int) % 128) = 128 + (n : Int) % 128 := by rw [IntKind.wrap_u64]; omega
      have t3 : IntKind.u8.wrap (128 + (n : Int) % 128) = 128 + (n : Int) % 128 := by rw [IntKind.wrap_u8]; omega
      have t4 : IntKind.u64.wrap ((n : Int) / 128) = (n : Int) / 128 := by rw [IntKind.wrap_u64]; omega
      have hlen := (encI_ten (n := n / 128) (by omega)).2
      have hadd : ∀ W, (Op.stringOp .add (strOfNums [128 + (n : Int) % 128]) (strOfNums (encI (n / 128)))).run Tryz.prog W = .ok (.string (strOfNums ((128 + (n : Int) % 128) :: encI (n / 128)))) W := fun W => by
        rw [run_string_add_sum (P := Tryz.prog) (w := W) _ _ (by rw [strOfNums_size, strOfNums_size]; simp; omega), str_append]; rfl
      clear hlen
      go_enter Tryz.func51, Tryz.ntmps51
      go_wp2_with fail
      go_region_with (go_at_call 51; refine (IH.out _).mono ?_; rintro e w1 ⟨rfl, hb⟩; have hcl := fun h => hb.cell (p := ⟨w.heap.size, 0, none⟩) h)
      all_goals go_wp2_with fail
      all_goals go_ret
      all_goals refine ⟨by rw [E1.out]; rfl, ?_⟩
      all_goals first
        | exact ((Below.refl w.heap.size w).alloc (Nat.le_refl _) _).drew.trans (hb.mono (by simp))
        | exact ((Below.refl w.heap.size w).drew.trans (hb.mono (by simp))).alloc (by have := hb.size; simpa using this) _
theorem rput (n : Nat) (hn : n < 18446744073709551616) (w : World) :
    Calls Tryz.prog 51 #[.int .u64 n] w fun e w' => e = .returned (.string (strOfNums (encI n))) ∧ Below w.heap.size w w' := rput_any 9 n w (by omega) hn
end Go.Proofs.YtohibmjjhifggaaGreat

namespace Go.Proofs.YtohibmjjhifggaaGreat
open Go.RowKit Go.Shelf
set_option maxHeartbeats 1000000 in
/-- blob.Put: b, and the text's bytes behind, in new memory. -/
theorem bput_any (A : Option Addr) (c : Nat) (xs : List Int) (s : List Int) (hs : ∀ x ∈ s, 0 ≤ x ∧ x < 256) (hsm : xs.length ≤ 1000000000) (hsl : s.length ≤ 1000000000) (w : World) (hrow : Row w w.heap.size (.slice A xs.length c) xs) :
    Calls Tryz.prog 66 #[.slice A xs.length c, .string (strOfNums s)] w fun e W' => ∃ v, e = .returned v ∧ W'.ownsRow w.heap.size 5 1 v (xs.length + (encT s).length) ((xs ++ encT s).map (.int .u8)) ∧ Below w.heap.size w W' := by
  have hn : s.length < 18446744073709551616 := by omega
  obtain ⟨l1, l2⟩ := encI_ten hn
  obtain ⟨i0, hi, hz0, hz1, hz2⟩ := info_parts Tryz.infoU8
  have hp := put_any A c xs s.length hn (by omega) w hrow
  have hss : (strOfNums s).size = s.length := strOfNums_size s
  have hcs := strCells_nums s hs
  have HP := Lib.hid hp; clear hp hrow
  have HCS := Lib.hid hcs; clear hcs
  have HET := Lib.hid (encT_length s)
  go_enter Tryz.func66, Tryz.ntmps66
  go_wp2_with fail
  refine HP.out.mono ?_
  rintro e w1 ⟨v1, rfl, hown1, hb1⟩
  have hsz1 := hb1.size
  go_wp2_with (at_builtin; refine Lib.wpList_append_own_string _ rfl _ _ 38 9 rfl w.heap.size 5 i0 Tryz.underlying38 Tryz.underlying9 hi hz0 hz1 hz2 _ _ _ rfl hown1 (strOfNums s) rfl (by rw [hss]; simp only [maxLen]; omega) (by rw [hss]; omega) hsz1 ?_; intro v2 w2 hown2 hg2 hn2)
  go_ret
  refine ⟨v2, rfl, ?_, hb1.grown hg2 hsz1 (fun j ej => (hown1.lt j ej).1)⟩
  rw [HCS.out, hss, ← List.map_append, List.append_assoc] at hown2
  rw [HET.out, ← Nat.add_assoc]
  exact hown2
set_option maxHeartbeats 400000 in
/-- The document's Put. -/
theorem rbput (s : List Int) (hsl : s.length ≤ 1000000000) (w : World) :
    Calls Tryz.prog 52 #[.string (strOfNums s)] w fun e w' => e = .returned (.string (strOfNums (encT s))) ∧ Below w.heap.size w w' := by
  have hn : s.length < 18446744073709551616 := by omega
  obtain ⟨l1, l2⟩ := encI_ten hn
  have hss : (strOfNums s).size = s.length := strOfNums_size s
  have hadd := fun W => add_strs (P := Tryz.prog) W (encI s.length) s (by omega)
  have hp := fun W => rput s.length hn W
  have HP := Lib.hid hp; clear hp
  have he : encT s = encI s.length ++ s := rfl
  rw [he]
  clear he
  generalize encI s.length ++ s = es at hadd
  generalize strOfNums (encI s.length) = ps at hadd HP
  generalize strOfNums s = ss at hadd hss
  go_enter Tryz.func52, Tryz.ntmps52
  go_wp2_with fail
  refine (HP.out _).mono ?_
  rintro e w1 ⟨rfl, hb1⟩
  go_wp2_with fail
  go_ret
  exact ⟨rfl, hb1⟩
end Go.Proofs.YtohibmjjhifggaaGreat

namespace Go.Proofs.YtohibmjjhifggaaGreat
open Go.RowKit
theorem fold_any (x : Int) (h1 : -9223372036854775808 ≤ x) (h2 : x ≤ 9223372036854775807) (w : World) :
    Calls Tryz.prog 103 #[.int .i64 x] w fun e w' => e = .returned (.int .u64 (foldI x)) ∧ w = w' := by
  by_cases hx : x < 0
  · have e1 : foldI x = 2 * (-1 - x) + 1 := by unfold foldI; rw [if_pos hx]
    have E1 := Lib.hid e1; clear e1
    go_enter Tryz.func103, Tryz.ntmps103
    go_wp2
    go_ret
    exact ⟨by rw [E1.out]; rfl, rfl⟩
  · have e1 : foldI x = 2 * x := by unfold foldI; rw [if_neg hx]
    have E1 := Lib.hid e1; clear e1
    go_enter Tryz.func103, Tryz.ntmps103
    go_wp2
    go_ret
    exact ⟨by rw [E1.out]; rfl, rfl⟩
theorem rfold_any (x : Int) (h1 : -9223372036854775808 ≤ x) (h2 : x ≤ 9223372036854775807) (w : World) :
    Calls Tryz.prog 73 #[.int .i64 x] w fun e w' => e = .returned (.int .u64 (foldI x)) ∧ w = w' := by
  by_cases hx : 0 ≤ x
  · have e1 : foldI x = 2 * x := by unfold foldI; rw [if_neg (by omega)]
    have E1 := Lib.hid e1; clear e1
    go_enter Tryz.func73, Tryz.ntmps73
    go_wp2
    go_ret
    exact ⟨by rw [E1.out]; rfl, rfl⟩
  · have e1 : foldI x = 2 * (-(x + 1)) + 1 := by unfold foldI; rw [if_pos (by omega)]; omega
    have E1 := Lib.hid e1; clear e1
    go_enter Tryz.func73, Tryz.ntmps73
    go_wp2
    go_ret
    exact ⟨by rw [E1.out]; rfl, rfl⟩
end Go.Proofs.YtohibmjjhifggaaGreat

namespace Go.Proofs.YtohibmjjhifggaaGreat
theorem encI_mono : ∀ (k m n : Nat), n < k → m ≤ n → (encI m).length ≤ (encI n).length
  | 0, _, _, h, _ => by omega
  | k + 1, m, n, h, hm => by
    by_cases h1 : m < 128
    · rw [encI_small h1]
      by_cases h2 : n < 128
      · rw [encI_small h2]; simp
      · rw [encI_great h2]; simp
    · have h2 : ¬ n < 128 := by omega
      rw [encI_great h1, encI_great h2, List.length_cons, List.length_cons]
      have := encI_mono k (m / 128) (n / 128) (by omega) (by omega)
      omega
theorem encI_one_at_least (n : Nat) : 1 ≤ (encI n).length := by
  by_cases h : n < 128
  · rw [encI_small h]; simp
  · rw [encI_great h]; simp
def tmAt (l : List Pm) (i : Nat) : Int := match l[i]? with
  | some p => p.tm
  | none => 0
def evsAt (l : List Pm) (i : Nat) : List Em := match l[i]? with
  | some p => p.evs
  | none => []
theorem tmAt_of {l : List Pm} {i : Nat} {p : Pm} (h : l[i]? = some p) : tmAt l i = p.tm := by unfold tmAt; rw [h]
theorem evsAt_of {l : List Pm} {i : Nat} {p : Pm} (h : l[i]? = some p) : evsAt l i = p.evs := by unfold evsAt; rw [h]
/-- What is put of an argument. -/
def argN (D : List (List Int)) (a : Ag) : Nat := if a.t = 1 then (foldI a.n).toNat else (placeD D a.s).toNat
def argsB (D : List (List Int)) (l : List Ag) : List Int := l.flatMap fun a => encI (argN D a)
def evB (D : List (List Int)) (e : Em) : List Int := encI e.p.toNat ++ argsB D e.args
def evlB (D : List (List Int)) (l : List Em) : List Int := l.flatMap (evB D)
def evsB (D : List (List Int)) (l : List Em) : List Int := encI l.length ++ evlB D l
def stepN (l : List Pm) (i : Nat) : Nat := (tmAt l i - tmAt l (i - 1)).toNat
def ptB (D : List (List Int)) (l : List Pm) (i : Nat) : List Int := (if 0 < i then encI (stepN l i) else []) ++ evsB D (evsAt l i)
def ptsB (D : List (List Int)) (l : List Pm) (k : Nat) : List Int := (List.range k).flatMap (ptB D l)
def dictB (D : List (List Int)) : List Int := encI D.length ++ catT D
def headB (l : List Pm) : List Int := encI l.length ++ dictB (addT [] l) ++ ptsB (addT [] l) l l.length
/-- The payload of points. -/
def payB (l : List Pm) : List Int := encI (tmAt l 0).toNat ++ headB l
theorem ptsB_succ (D : List (List Int)) (l : List Pm) (k : Nat) : ptsB D l (k + 1) = ptsB D l k ++ ptB D l k := by simp [ptsB, List.range_succ]
theorem argsB_succ {D : List (List Int)} {l : List Ag} {k : Nat} {a : Ag} (h : l[k]? = some a) : argsB D (l.take (k + 1)) = argsB D (l.take k) ++ encI (argN D a) := by rw [take_one h]; simp [argsB]
theorem evlB_succ {D : List (List Int)} {l : List Em} {k : Nat} {e : Em} (h : l[k]? = some e) : evlB D (l.take (k + 1)) = evlB D (l.take k) ++ evB D e := by rw [take_one h]; simp [evlB]
structure AOk (a : Ag) : Prop where
  kind : a.t = 1 ∨ a.t = 2
  len : a.s.length ≤ 200
  fits : a.Fits
structure EOk (e : Em) : Prop where
  low : 0 ≤ e.p
  high : e.p < 64
  few : e.args.length ≤ 8
  args : ∀ a ∈ e.args, AOk a
structure POk (p : Pm) : Prop where
  fits : p.Fits
  few : p.evs.length ≤ 1024
  evs : ∀ e ∈ p.evs, EOk e
structure BOk (l : List Pm) : Prop where
  few : l.length ≤ 1024
  pts : ∀ p ∈ l, POk p
  ord : ∀ i p q, l[i]? = some p → l[i + 1]? = some q → p.tm ≤ q.tm
theorem BOk.take {l : List Pm} (h : BOk l) (n : Nat) : BOk (l.take n) :=
  ⟨by rw [List.length_take]; have := h.few; omega, fun p hp => h.pts p (List.mem_of_mem_take hp), fun i p q h1 h2 => by
    rw [List.getElem?_take] at h1 h2
    split at h2
    · rename_i hlt
      rw [if_pos (by omega)] at h1
      exact h.ord i p q h1 h2
    · cases h2⟩
theorem argN_lt {D : List (List Int)} {a : Ag} (h : AOk a) (hD : D.length ≤ 1000000000) : argN D a < 18446744073709551616 := by
  unfold argN
  split
  · obtain ⟨_, _, _, h1, h2⟩ := h.fits
    obtain ⟨q1, q2⟩ := foldI_range h1 h2
    omega
  · rcases placeD_ways D a.s with ⟨q, _⟩ | ⟨j, h0, q, _⟩
    · rw [q]; decide
    · rw [q]; omega
theorem argsB_len {D : List (List Int)} (hD : D.length ≤ 1000000000) : ∀ (l : List Ag), (∀ a ∈ l, AOk a) → (argsB D l).length ≤ 10 * l.length
  | [], _ => by simp [argsB]
  | a :: l, h => by
    have h1 := argsB_len hD l (fun b hb => h b (List.mem_cons_of_mem _ hb))
    have h2 := (encI_ten (argN_lt (D := D) (h a (List.mem_cons_self ..)) hD)).2
    simp only [argsB, List.flatMap_cons, List.length_append, List.length_cons] at h1 ⊢
    omega
theorem evB_len {D : List (List Int)} (hD : D.length ≤ 1000000000) {e : Em} (h : EOk e) : (evB D e).length ≤ 90 := by
  have h1 := argsB_len hD e.args h.args
  have h2 := (encI_ten (n := e.p.toNat) (by have := h.high; omega)).2
  have := h.few
  simp only [evB, List.length_append]
  omega
theorem evlB_len {D : List (List Int)} (hD : D.length ≤ 1000000000) : ∀ (l : List Em), (∀ e ∈ l, EOk e) → (evlB D l).length ≤ 90 * l.length
  | [], _ => by simp [evlB]
  | a :: l, h => by
    have h1 := evlB_len hD l (fun b hb => h b (List.mem_cons_of_mem _ hb))
    have h2 := evB_len hD (h a (List.mem_cons_self ..))
    simp only [evlB, List.flatMap_cons, List.length_append, List.length_cons] at h1 ⊢
    omega
theorem evsB_len {D : List (List Int)} (hD : D.length ≤ 1000000000) {p : Pm} (h : POk p) : 1 ≤ (evsB D p.evs).length ∧ (evsB D p.evs).length ≤ 92170 := by
  have h1 := evlB_len hD p.evs h.evs
  have h2 := (encI_ten (n := p.evs.length) (by have := h.few; omega)).2
  have h3 := encI_one_at_least p.evs.length
  have := h.few
  simp only [evsB, List.length_append]
  omega
theorem stepN_lt {l : List Pm} (h : ∀ p ∈ l, POk p) (i : Nat) : stepN l i < 18446744073709551616 := by
  have key : ∀ j, 0 ≤ tmAt l j ∧ tmAt l j < 18446744073709551616 := fun j => by
    unfold tmAt
    cases hj : l[j]? with
    | none => exact ⟨Int.le_refl _, by decide⟩
    | some p => exact (h p (List.mem_of_getElem? hj)).fits
  have h1 := key i
  have h2 := key (i - 1)
  unfold stepN
  omega
theorem ptB_len {D : List (List Int)} (hD : D.length ≤ 1000000000) {l : List Pm} (h : ∀ p ∈ l, POk p) {i : Nat} (hi : i < l.length) : 1 ≤ (ptB D l i).length ∧ (ptB D l i).length ≤ 92180 := by
  have h1 := evsB_len hD (h _ (List.getElem_mem hi))
  rw [← evsAt_of (List.getElem?_eq_getElem hi)] at h1
  have h2 := (encI_ten (stepN_lt h i)).2
  simp only [ptB, List.length_append]
  split
  · omega
  · simp; omega
theorem ptsB_len {D : List (List Int)} (hD : D.length ≤ 1000000000) {l : List Pm} (h : ∀ p ∈ l, POk p) : ∀ k, k ≤ l.length → (ptsB D l k).length ≤ 92180 * k
  | 0, _ => by simp [ptsB]
  | k + 1, hk => by
    have h1 := ptsB_len hD h k (by omega)
    have h2 := (ptB_len hD h (i := k) (by omega)).2
    rw [ptsB_succ, List.length_append]
    omega
theorem nA_le : ∀ l : List Em, (∀ e ∈ l, EOk e) → nA l ≤ 8 * l.length
  | [], _ => by simp [nA]
  | e :: l, h => by
    have h1 := nA_le l (fun b hb => h b (List.mem_cons_of_mem _ hb))
    have h2 := (h e (List.mem_cons_self ..)).few
    simp only [nA, List.foldr_cons, List.length_cons] at h1 ⊢
    omega
theorem nT_le : ∀ l : List Pm, (∀ p ∈ l, POk p) → nT l ≤ 8192 * l.length
  | [], _ => by simp [nT]
  | p :: l, h => by
    have h1 := nT_le l (fun b hb => h b (List.mem_cons_of_mem _ hb))
    have h2 := nA_le p.evs (h p (List.mem_cons_self ..)).evs
    have h3 := (h p (List.mem_cons_self ..)).few
    simp only [nT, List.foldr_cons, List.length_cons] at h1 ⊢
    omega
/-- Texts of at most 200 bytes. -/
def Tx200 (L : List (List Int)) : Prop := ∀ t ∈ L, t.length ≤ 200 ∧ ∀ x ∈ t, 0 ≤ x ∧ x < 256
theorem addA_200 : ∀ (l : List Ag) (L : List (List Int)), Tx200 L → (∀ a ∈ l, AOk a) → Tx200 (addA L l)
  | [], _, h, _ => h
  | a :: l, L, h, hl => by
    refine addA_200 l (stepA L a) ?_ (fun b hb => hl b (List.mem_cons_of_mem _ hb))
    have ha := hl a (List.mem_cons_self ..)
    unfold stepA
    split
    · intro t ht
      rcases putD_mem ht with h1 | rfl
      · exact h t h1
      · exact ⟨ha.len, ha.fits.2.1⟩
    · exact h
theorem addE_200 : ∀ (l : List Em) (L : List (List Int)), Tx200 L → (∀ e ∈ l, EOk e) → Tx200 (addE L l)
  | [], _, h, _ => h
  | e :: l, L, h, hl => addE_200 l (addA L e.args) (addA_200 _ _ h (hl e (List.mem_cons_self ..)).args) (fun b hb => hl b (List.mem_cons_of_mem _ hb))
theorem addT_200 : ∀ (l : List Pm) (L : List (List Int)), Tx200 L → (∀ p ∈ l, POk p) → Tx200 (addT L l)
  | [], _, h, _ => h
  | p :: l, L, h, hl => addT_200 l (addE L p.evs) (addE_200 _ _ h (hl p (List.mem_cons_self ..)).evs) (fun b hb => hl b (List.mem_cons_of_mem _ hb))
theorem BOk.dict {l : List Pm} (h : BOk l) : (addT [] l).length ≤ 8388608 ∧ Tx200 (addT [] l) := by
  have h1 := (addT_ok l []).high
  have h2 := nT_le l h.pts
  have h3 := h.few
  simp only [List.length_nil] at h1
  exact ⟨by omega, addT_200 l [] (fun t ht => by simp at ht) h.pts⟩
theorem dictB_len {D : List (List Int)} (h1 : D.length ≤ 8388608) (h2 : Tx200 D) : (dictB D).length ≤ 1761607690 := by
  have h3 := (encI_ten (n := D.length) (by omega)).2
  have h4 := catT_le 200 (by decide) D (fun t ht => (h2 t ht).1)
  simp only [dictB, List.length_append]
  omega
theorem headB_len {l : List Pm} (h : BOk l) : (headB l).length ≤ 1856000020 := by
  obtain ⟨h1, h2⟩ := h.dict
  have h3 := dictB_len h1 h2
  have h4 := ptsB_len (D := addT [] l) (by omega) h.pts l.length (Nat.le_refl _)
  have h5 := (encI_ten (n := l.length) (by have := h.few; omega)).2
  have := h.few
  simp only [headB, List.length_append]
  omega
theorem payB_len {l : List Pm} (h : BOk l) : (payB l).length ≤ 1856000030 := by
  have h1 := headB_len h
  have h2 : (encI (tmAt l 0).toNat).length ≤ 10 := by
    refine (encI_ten ?_).2
    unfold tmAt
    cases hj : l[0]? with
    | none => decide
    | some p => have := (h.pts p (List.mem_of_getElem? hj)).fits; unfold Pm.Fits at this; dsimp only; omega
  simp only [payB, List.length_append]
  omega
theorem stepA_more (L : List (List Int)) (a : Ag) : ∃ X, stepA L a = L ++ X := by
  unfold stepA putD
  split
  · split
    · exact ⟨_, rfl⟩
    · exact ⟨[], by simp⟩
  · exact ⟨[], by simp⟩
theorem addA_more : ∀ (l : List Ag) (L : List (List Int)), ∃ X, addA L l = L ++ X
  | [], L => ⟨[], by simp [addA]⟩
  | a :: l, L => by
    obtain ⟨X, hX⟩ := stepA_more L a
    obtain ⟨Y, hY⟩ := addA_more l (stepA L a)
    exact ⟨X ++ Y, by rw [show addA L (a :: l) = addA (stepA L a) l from rfl, hY, hX, List.append_assoc]⟩
theorem addE_more : ∀ (l : List Em) (L : List (List Int)), ∃ X, addE L l = L ++ X
  | [], L => ⟨[], by simp [addE]⟩
  | a :: l, L => by
    obtain ⟨X, hX⟩ := addA_more a.args L
    obtain ⟨Y, hY⟩ := addE_more l (addA L a.args)
    exact ⟨X ++ Y, by rw [show addE L (a :: l) = addE (addA L a.args) l from rfl, hY, hX, List.append_assoc]⟩
theorem addT_more : ∀ (l : List Pm) (L : List (List Int)), ∃ X, addT L l = L ++ X
  | [], L => ⟨[], by simp [addT]⟩
  | a :: l, L => by
    obtain ⟨X, hX⟩ := addE_more a.evs L
    obtain ⟨Y, hY⟩ := addT_more l (addE L a.evs)
    exact ⟨X ++ Y, by rw [show addT L (a :: l) = addT (addE L a.evs) l from rfl, hY, hX, List.append_assoc]⟩
theorem placeF_more (x : List Int) (X : List (List Int)) : ∀ (D : List (List Int)) (k : Nat), x ∈ D → placeF x (D ++ X) k = placeF x D k
  | [], _, h => by simp at h
  | t :: D, k, h => by
    simp only [List.cons_append, placeF]
    split
    · rfl
    · rename_i hne
      exact placeF_more x X D (k + 1) ((List.mem_cons.1 h).resolve_left (Ne.symm hne))
theorem argN_more {D X : List (List Int)} {a : Ag} (h : a.t = 2 → a.s ∈ D) (hk : a.t = 1 ∨ a.t = 2) : argN (D ++ X) a = argN D a := by
  unfold argN
  split
  · rfl
  · rename_i h1
    unfold placeD
    rw [placeF_more a.s X D 0 (h (hk.resolve_left h1))]
theorem putD_has {D : List (List Int)} {x : List Int} : x ∈ (putD D x).1 := by
  rcases placeD_ways D x with ⟨h1, h2⟩ | ⟨j, _, h1, h2, _⟩
  · rw [putD_new h1]; simp
  · rw [putD_old h1]; exact List.mem_of_getElem? h2
theorem addA_has : ∀ (l : List Ag) (L : List (List Int)), ∀ a ∈ l, a.t = 2 → a.s ∈ addA L l
  | [], _, a, h, _ => by simp at h
  | b :: l, L, a, h, ht => by
    rw [show addA L (b :: l) = addA (stepA L b) l from rfl]
    rcases List.mem_cons.1 h with rfl | h
    · obtain ⟨X, hX⟩ := addA_more l (stepA L a)
      rw [hX, stepA, if_pos ht]
      exact List.mem_append.2 (.inl putD_has)
    · exact addA_has l _ a h ht
theorem addE_has : ∀ (l : List Em) (L : List (List Int)), ∀ e ∈ l, ∀ a ∈ e.args, a.t = 2 → a.s ∈ addE L l
  | [], _, e, h, _, _, _ => by simp at h
  | b :: l, L, e, h, a, ha, ht => by
    rw [show addE L (b :: l) = addE (addA L b.args) l from rfl]
    rcases List.mem_cons.1 h with rfl | h
    · obtain ⟨X, hX⟩ := addE_more l (addA L e.args)
      rw [hX]
      exact List.mem_append.2 (.inl (addA_has _ _ a ha ht))
    · exact addE_has l _ e h a ha ht
theorem addT_has : ∀ (l : List Pm) (L : List (List Int)), ∀ p ∈ l, ∀ e ∈ p.evs, ∀ a ∈ e.args, a.t = 2 → a.s ∈ addT L l
  | [], _, p, h, _, _, _, _, _ => by simp at h
  | b :: l, L, p, h, e, he, a, ha, ht => by
    rw [show addT L (b :: l) = addT (addE L b.evs) l from rfl]
    rcases List.mem_cons.1 h with rfl | h
    · obtain ⟨X, hX⟩ := addT_more l (addE L p.evs)
      rw [hX]
      exact List.mem_append.2 (.inl (addE_has _ _ e he a ha ht))
    · exact addT_has l _ p h e he a ha ht
theorem flatMap_same {α β : Type} {f g : α → List β} {l : List α} (h : ∀ a ∈ l, f a = g a) : l.flatMap f = l.flatMap g := by
  induction l with
  | nil => rfl
  | cons a l ih => rw [List.flatMap_cons, List.flatMap_cons, h a (List.mem_cons_self ..), ih fun b hb => h b (List.mem_cons_of_mem _ hb)]
theorem evsB_more {D X : List (List Int)} {l : List Em} (h : ∀ e ∈ l, ∀ a ∈ e.args, (a.t = 2 → a.s ∈ D) ∧ (a.t = 1 ∨ a.t = 2)) : evsB (D ++ X) l = evsB D l := by
  unfold evsB evlB
  rw [flatMap_same (g := evB D) fun e he => ?_]
  unfold evB argsB
  rw [flatMap_same (g := fun a => encI (argN D a)) fun a ha => ?_]
  rw [argN_more (h e he a ha).1 (h e he a ha).2]
theorem payB_longer {l : List Pm} (h : BOk l) {n : Nat} (h1 : 1 ≤ n) (hn : n < l.length) : (payB (l.take n)).length < (payB (l.take (n + 1))).length := by
  obtain ⟨p, hp⟩ : ∃ p, l[n]? = some p := ⟨_, List.getElem?_eq_getElem hn⟩
  have hT : addT [] (l.take (n + 1)) = addE (addT [] (l.take n)) p.evs := addT_succ hp
  obtain ⟨X, hX⟩ := addE_more p.evs (addT [] (l.take n))
  have hat : ∀ i, i < n → (l.take n)[i]? = l[i]? ∧ (l.take (n + 1))[i]? = l[i]? := fun i hi => ⟨by rw [List.getElem?_take, if_pos hi], by rw [List.getElem?_take, if_pos (by omega)]⟩
  have htm : ∀ i, i < n → tmAt (l.take (n + 1)) i = tmAt (l.take n) i := fun i hi => by unfold tmAt; rw [(hat i hi).1, (hat i hi).2]
  have hev : ∀ i, i < n → evsAt (l.take (n + 1)) i = evsAt (l.take n) i := fun i hi => by unfold evsAt; rw [(hat i hi).1, (hat i hi).2]
  have hl1 : (l.take n).length = n := by rw [List.length_take]; omega
  have hl2 : (l.take (n + 1)).length = n + 1 := by rw [List.length_take]; omega
  have hB := h.take n
  have hpt : ∀ i, i < n → ptB (addT [] (l.take (n + 1))) (l.take (n + 1)) i = ptB (addT [] (l.take n)) (l.take n) i := fun i hi => by
    obtain ⟨q, hq⟩ : ∃ q, (l.take n)[i]? = some q := ⟨_, List.getElem?_eq_getElem (by omega)⟩
    have hm := List.mem_of_getElem? hq
    unfold ptB stepN
    rw [hev i hi, htm i hi, htm (i - 1) (by omega), hT, hX, evsAt_of hq, evsB_more fun e he a ha => ⟨addT_has _ _ q hm e he a ha, (((hB.pts q hm).evs e he).args a ha).kind⟩]
  have hpts : ∀ k, k ≤ n → ptsB (addT [] (l.take (n + 1))) (l.take (n + 1)) k = ptsB (addT [] (l.take n)) (l.take n) k := fun k => by
    induction k with
    | zero => intro _; rfl
    | succ k ih => intro hk; rw [ptsB_succ, ptsB_succ, ih (by omega), hpt k (by omega)]
  have hlast := (ptB_len (D := addT [] (l.take (n + 1))) (by have := ((h.take (n + 1)).dict).1; omega) (h.take (n + 1)).pts (i := n) (by omega)).1
  unfold payB headB
  rw [htm 0 (by omega), hl1, hl2, ptsB_succ, hpts n (Nat.le_refl _)]
  generalize ptB (addT [] (l.take (n + 1))) (l.take (n + 1)) n = P at hlast ⊢
  rw [hT, hX]
  have m1 := encI_mono (n + 2) n (n + 1) (by omega) (by omega)
  have m2 := encI_mono ((addT [] (l.take n) ++ X).length + 1) (addT [] (l.take n)).length (addT [] (l.take n) ++ X).length (by omega) (by simp)
  simp only [dictB, catT, List.flatMap_append, List.length_append] at m2 ⊢
  omega
theorem catT_take_le (L : List (List Int)) (k : Nat) : (catT (L.take k)).length ≤ (catT L).length := by
  have h : catT L = catT (L.take k) ++ catT (L.drop k) := by unfold catT; rw [← List.flatMap_append, List.take_append_drop]
  rw [h, List.length_append]
  omega
theorem flatMap_take_le {α β : Type} (f : α → List β) (l : List α) (k : Nat) : ((l.take k).flatMap f).length ≤ (l.flatMap f).length := by
  have h : l.flatMap f = (l.take k).flatMap f ++ (l.drop k).flatMap f := by rw [← List.flatMap_append, List.take_append_drop]
  rw [h, List.length_append]
  omega
theorem placeD_in {L : List (List Int)} {s : List Int} (h : s ∈ L) : placeD L s = ((placeD L s).toNat : Int) := by
  rcases placeD_ways L s with ⟨_, h1⟩ | ⟨j, _, h1, _⟩
  · exact absurd h h1
  · rw [h1]; rfl
end Go.Proofs.YtohibmjjhifggaaGreat
namespace Go.Proofs.YtohibmjjhifggaaGreat
theorem whyG_zero {t : Int} {a : Ag} (h : whyG t a = 0) : a.t = t ∧ a.s.length ≤ 200 := by
  unfold whyG at h
  split at h
  · cases h
  · rename_i h1
    refine ⟨by simpa using h1, ?_⟩
    split at h
    · cases h
    · split at h
      · cases h
      · split at h
        · cases h
        · omega
theorem eok_of {sig : List Pr} (hs : checkP sig = 0) {e : Em} (h : eventT sig e.e = 0) (hf : ∀ a ∈ e.args, a.Fits) : EOk e := by
  obtain ⟨h1, h2⟩ := checkP_zero.1 hs
  by_cases hp : e.p < 0 ∨ (sig.length : Int) ≤ e.p
  · rw [eventT_name hp] at h
    cases h
  · obtain ⟨p, hp'⟩ : ∃ p, sig[e.p.toNat]? = some p := ⟨_, List.getElem?_eq_getElem (by omega)⟩
    obtain ⟨_, _, o1, o2⟩ := h2 _ p hp'
    rw [eventT_has (k := e.p.toNat) (by show e.p = _; omega) hp'] at h
    split at h
    · cases h
    · rename_i hl
      have hl : e.args.length = p.args.length := by simpa using hl
      refine ⟨by omega, by omega, by omega, fun a ha => ?_⟩
      obtain ⟨i, hi⟩ := List.mem_iff_getElem?.1 ha
      have hil := (List.getElem?_eq_some_iff.1 hi).1
      have hw := firstWhy_zero _ _ h i (Nat.zero_le _) (by show i < 0 + e.args.length; omega)
      rw [show e.e.args.getD i default = a from getD_of hi] at hw
      obtain ⟨w1, w2⟩ := whyG_zero hw
      have ht := o2 (p.args.getD i 0) (by rw [List.getD, List.getElem?_eq_getElem (by omega)]; exact List.getElem_mem (by omega))
      exact ⟨by omega, w2, hf a ha⟩
/-- What points that are of a signature are. -/
theorem bok_of {sig : List Pr} {l : List Pm} (h : (checkT sig (l.map (·.p))).1 = 0) (hlen : l.length ≤ 1024) (hf : ∀ p ∈ l, p.Fits ∧ ∀ e ∈ p.evs, ∀ a ∈ e.args, a.Fits) : BOk l := by
  obtain ⟨hs, hw⟩ := checkT_zero.1 h
  have hat : ∀ (i : Nat) (p : Pm), l[i]? = some p → (l.map (·.p)).getD i default = p.p := fun i p hi => getD_of (at_pn hi)
  have hE : ∀ (i : Nat) (p : Pm), l[i]? = some p → ¬ (0 < i ∧ p.tm < ((l.map (·.p)).getD (i - 1) default).tm) ∧ whyE sig (p.evs.map (·.e)) = 0 := fun i p hi => by
    have hil := (List.getElem?_eq_some_iff.1 hi).1
    have := hw i (by rw [List.length_map]; exact hil)
    unfold whyT at this
    rw [hat i p hi] at this
    split at this
    · cases this
    · rename_i h1
      exact ⟨h1, this⟩
  refine ⟨hlen, fun p hp => ?_, fun i p q h1 h2 => ?_⟩
  · obtain ⟨i, hi⟩ := List.mem_iff_getElem?.1 hp
    have h1 := (hE i p hi).2
    unfold whyE at h1
    split at h1
    · cases h1
    · rename_i hl
      rw [List.length_map] at hl h1
      refine ⟨(hf p hp).1, by omega, fun e he => ?_⟩
      obtain ⟨k, hk⟩ := List.mem_iff_getElem?.1 he
      have hkl := (List.getElem?_eq_some_iff.1 hk).1
      have := firstWhy_zero _ _ h1 k (Nat.zero_le _) (by omega)
      rw [getD_of (at_ev hk)] at this
      exact eok_of hs this ((hf p hp).2 e he)
  · have := (hE (i + 1) q h2).1
    rw [Nat.add_sub_cancel, hat i p h1] at this
    have : ¬ q.tm < p.tm := fun h => this ⟨Nat.succ_pos i, h⟩
    omega
/-- Why points have no payload, however long; 0. -/
def checkB (sig : List Pr) (l : List Pm) : Int := if l.length = 0 then 1 else if (checkT sig (l.map (·.p))).1 ≠ 0 then (checkT sig (l.map (·.p))).1 else if 1024 < l.length then 6 else 0
def wholeB (sig : List Pr) (l : List Pm) : List Int × Int := if checkB sig l = 0 then (payB l, 0) else ([], checkB sig l)
def putB (sig : List Pr) (l : List Pm) : List Int × Int := if checkB sig l = 0 then (if 4096 < (payB l).length then ([], 6) else (payB l, 0)) else ([], checkB sig l)
theorem checkB_zero {sig : List Pr} {l : List Pm} (h : checkB sig l = 0) : 0 < l.length ∧ (checkT sig (l.map (·.p))).1 = 0 ∧ l.length ≤ 1024 := by
  unfold checkB at h
  split at h
  · cases h
  · split at h
    · rename_i h2
      exact absurd h h2
    · rename_i h1 h2
      split at h
      · cases h
      · exact ⟨by omega, by simpa using h2, by omega⟩
theorem TrRow.fits {w : World} {B : Nat} {v : Value} {l : List Pm} (h : TrRow w B v l) : ∀ p ∈ l, p.Fits ∧ ∀ e ∈ p.evs, ∀ a ∈ e.args, a.Fits := fun p hp => ⟨(h.2 p hp).2, fun e he a ha => ((h.2 p hp).1.2 e he).1.2 a ha⟩
theorem TrRow.bok {w : World} {B : Nat} {v : Value} {l : List Pm} {sig : List Pr} (h : TrRow w B v l) (hc : checkB sig l = 0) : BOk l := by
  obtain ⟨_, h1, h2⟩ := checkB_zero hc
  exact bok_of h1 h2 h.fits
theorem argsB_byte {D : List (List Int)} (hD : D.length ≤ 1000000000) {l : List Ag} (h : ∀ a ∈ l, AOk a) : ∀ x ∈ argsB D l, 0 ≤ x ∧ x < 256 := fun x hx => by
  obtain ⟨a, ha, hx⟩ := List.mem_flatMap.1 hx
  exact encI_bytes (argN_lt (D := D) (h a ha) hD) x hx
theorem evsB_byte {D : List (List Int)} (hD : D.length ≤ 1000000000) {p : Pm} (h : POk p) : ∀ x ∈ evsB D p.evs, 0 ≤ x ∧ x < 256 := fun x hx => by
  rcases List.mem_append.1 hx with hx | hx
  · exact encI_bytes (by have := h.few; omega) x hx
  · obtain ⟨e, he, hx⟩ := List.mem_flatMap.1 hx
    rcases List.mem_append.1 hx with hx | hx
    · exact encI_bytes (by have := (h.evs e he).high; omega) x hx
    · exact argsB_byte hD (h.evs e he).args x hx
theorem payB_bytes {l : List Pm} (h : BOk l) : ∀ x ∈ payB l, 0 ≤ x ∧ x < 256 := fun x hx => by
  obtain ⟨h1, h2⟩ := h.dict
  have htm : (tmAt l 0).toNat < 18446744073709551616 := by
    unfold tmAt
    cases hj : l[0]? with
    | none => decide
    | some p => have := (h.pts p (List.mem_of_getElem? hj)).fits; unfold Pm.Fits at this; dsimp only; omega
  simp only [payB, headB, dictB, List.mem_append] at hx
  rcases hx with hx | (hx | hx | hx) | hx
  · exact encI_bytes htm x hx
  · exact encI_bytes (by have := h.few; omega) x hx
  · exact encI_bytes (by omega) x hx
  · obtain ⟨t, ht, hx⟩ := List.mem_flatMap.1 hx
    exact encT_bytes (by have := (h2 t ht).1; omega) (h2 t ht).2 x hx
  · obtain ⟨i, hi, hx⟩ := List.mem_flatMap.1 hx
    have hi := List.mem_range.1 hi
    rcases List.mem_append.1 hx with hx | hx
    · split at hx
      · exact encI_bytes (stepN_lt h.pts i) x hx
      · simp at hx
    · rw [evsAt_of (List.getElem?_eq_getElem hi)] at hx
      exact evsB_byte (by omega) (h.pts _ (List.getElem_mem hi)) x hx
theorem putB_ok {sig : List Pr} {l : List Pm} (h : (putB sig l).2 = 0) : checkB sig l = 0 ∧ (payB l).length ≤ 4096 ∧ putB sig l = (payB l, 0) := by
  unfold putB at h
  split at h
  · rename_i h1
    split at h
    · cases h
    · rename_i h2
      exact ⟨h1, by omega, by rw [putB, if_pos h1, if_neg h2]⟩
  · rename_i h1
    exact absurd h h1
end Go.Proofs.YtohibmjjhifggaaGreat

namespace Go.Proofs.YtohibmjjhifggaaGreat
open Go.RowKit Go.ChangeShapes Go.WideShapes
/-- append as a step of a drawn region: of any row behind a row of the call's own; and where the new row lies. -/
theorem step_append_erow_at {P : Program} {w : World} {ops : Array Oper} {o : Oper} {a : Act} {K : Act → World → Prop} {Q : Exit → Act → World → Prop} {E : Prop} (hgd : o.guard = none) (s x : Operand) (t e : TypeId) (ho : o.op = .call { callee := .builtin .append, args := #[s, x], argTypes := #[t, t] })
    (base : Nat) (i : TypeInfo) (z : Value) (size bytes : Nat) (ht : P.underlying t = some (.slice e)) (hi : P.info? e = some i) (hz : i.zero = some z) (hsize : i.size = size) (hby : i.bytes = bytes) (hzs : z.cells.size = size) (hsz : 0 < size)
    (v : Value) (n : Nat) (xs : List Value) (hs : a.eval s = v) (hown : w.ownsRow base e size v n xs) (B : Nat) (sv : Value) (m : Nat) (us : List Value) (hx : a.eval x = sv) (hr : ERow w B sv m us) (hl : us.length = m * size) (h1 : ∀ u ∈ us, u.oneCell' = true)
    (h63 : n + m ≤ maxLen) (hbytes : (n + m) * bytes ≤ 140737488355328) (hbase : base ≤ w.heap.size) (N : Nat) (hN : n + m = N) (ys : List Value) (hys : xs ++ us = ys)
    (h : ∀ A c w', w'.ownsRow base e size (.slice A N c) N ys → w.grownBy w' v.ownBlock → ((Value.slice A N c).ownBlock = v.ownBlock ∨ (Value.slice A N c).ownBlock = some w.heap.size) → K (a.put o.dst (.slice A N c)) w') : if Region.wanted o (yielded ops a.tmps) = true then Oper.wp P o a w K Q else E := by
  subst hN hys
  have hw : Region.wanted o (yielded ops a.tmps) = true := by simp [Region.wanted, hgd]
  obtain ⟨v', w', hrun, h2, h3, h4⟩ := run_append_erow_at (P := P) w base t o.type e i z size bytes ht hi hz hsize hby hzs hsz v n xs hown B sv m us hr hl h1 h63 hbytes hbase
  obtain ⟨A, c, rfl⟩ := own_form h2
  rw [if_pos hw]
  unfold Oper.wp execOp
  simp only [ho, resolve, invoke, builtin, Sem.run_bind, Sem.run_pure, Result.andThen_ok, List.map_toArray, List.map_cons, List.map_nil, hs, hx, hrun]
  exact h A c w' h2 h3 h4
section
variable {w w' w2 : World} {base g n k : Nat} {v u : Value} {us : List Value} {T : TypeId}
/-- What is of another type is kept by what turns a block of type T and a row of bytes. -/
theorem apart_held {j : Nat} {t : TypeId} {cs : Array Value} (hh : Held w g T #[u]) (ho : w.ownsRow base 5 1 v n us) (hb : But w w' v.ownBlock g) (hk : Held w j t cs) (h1 : t ≠ T) (h2 : t ≠ 5) : Held w' j t cs :=
  hb.held hk (fun e => by
    subst e
    rw [Held, hh] at hk
    injection hk with hk
    injection hk with _ e2
    exact h1 e2.symm) (own_not_held ho hk (Ne.symm h2))
theorem apart_own {n2 k2 size : Nat} {e : TypeId} {vx : Value} {ux : List Value} (hh : Held w g T #[u]) (ho : w.ownsRow base 5 1 v n us) (hb : But w w' v.ownBlock g) (hx : w.ownsRow n2 e size vx k2 ux) (h1 : e ≠ T) (h2 : e ≠ 5) : w'.ownsRow n2 e size vx k2 ux :=
  own_but hx hb (.inr (Ne.symm (own_not_held hx hh h1))) (by
    rcases hx.2 with ⟨rfl, _⟩ | ⟨b, cap, cur, rfl, _, hgb, _⟩
    · exact .inl rfl
    · exact .inr (own_not_held (g := b) ho (show Held w b e cur from hgb) (Ne.symm h2)))
theorem apart_dict {b2 D r : Nat} {vd : Value} {L : List (List Int)} (hh : Held w g T #[u]) (ho : w.ownsRow base 5 1 v n us) (hb : But w w' v.ownBlock g) (hd : DictAt w b2 D r vd L) (h1 : 163 ≠ T) (h2 : 9 ≠ T) : DictAt w' b2 D r vd L := by
  refine ⟨apart_held hh ho hb hd.held h1 (by decide), apart_own hh ho hb hd.own h2 (by decide), ?_, hd.hD, hd.hr, hd.tx⟩
  obtain ⟨es, cl, he, _⟩ := hd.map
  refine hd.map.keep (hb.block r hd.map.lt (fun e => ?_) (own_not_map ho he))
  subst e
  rw [show w.heap[r]? = _ from hh] at he
  cases he
/-- The slice variable g reads as the bytes that were put. -/
structure SnkP (w : World) (base g : Nat) (v : Value) (zs : List Int) : Prop where
  held : Held w g 38 #[v]
  hg : base ≤ g
  own : w.ownsRow base 5 1 v zs.length (zs.map (.int .u8))
/-- The variable g is how many bytes were put. -/
structure SnkS (w : World) (base g : Nat) (v : Value) (zs : List Int) : Prop where
  held : Held w g 3 #[.int .i64 zs.length]
  hg : base ≤ g
  own : w.ownsRow base 5 1 v 0 []
theorem SnkP.below {zs : List Int} (h : SnkP w base g v zs) (hb : Below w.heap.size w w') : SnkP w' base g v zs := ⟨h.held.below hb h.held.lt, h.hg, own_below h.own hb⟩
/-- What is left behind more that was put. -/
def LeftP (w : World) (base g : Nat) (v : Value) (zs : List Int) (w' : World) : Prop := ∃ v', SnkP w' base g v' zs ∧ But w w' v.ownBlock g ∧ ∀ j, v'.ownBlock = some j → v.ownBlock = some j ∨ w.heap.size ≤ j
theorem LeftP.of_below {zs : List Int} (h : SnkP w base g v zs) (hb : Below w.heap.size w w') : LeftP w base g v zs w' := ⟨v, h.below hb, But.of_below hb _ _, fun _ e => .inl e⟩
theorem LeftP.trans {v1 : Value} {zs : List Int} (hb : But w w' v.ownBlock g) (hv : ∀ j, v1.ownBlock = some j → v.ownBlock = some j ∨ w.heap.size ≤ j) (k : LeftP w' base g v1 zs w2) : LeftP w base g v zs w2 := by
  obtain ⟨v2, h1, h2, h3⟩ := k
  refine ⟨v2, h1, hb.trans h2 hv, fun j e => ?_⟩
  rcases h3 j e with h | h
  · exact hv j h
  · exact .inr (Nat.le_trans hb.size h)
theorem LeftP.ahead {zs : List Int} (hb : Below w.heap.size w w') (k : LeftP w' base g v zs w2) : LeftP w base g v zs w2 := LeftP.trans (But.of_below hb _ _) (fun _ e => .inl e) k
theorem LeftP.behind {zs : List Int} (k : LeftP w base g v zs w') (hb : Below w'.heap.size w' w2) : LeftP w base g v zs w2 := by
  obtain ⟨v1, h1, h2, h3⟩ := k
  exact LeftP.trans h2 h3 (LeftP.of_below h1 hb)
theorem LeftP.low {zs ys : List Int} (k : LeftP w base g v zs w') (h : SnkP w base g v ys) (hn : base ≤ w.heap.size) : Below base w w' := by
  obtain ⟨v1, h1, h2, h3⟩ := k
  exact h2.low hn h.hg (fun j e => (World.ownsRow.lt h.own j e).1)
theorem LeftP.size {zs : List Int} (k : LeftP w base g v zs w') : w.heap.size ≤ w'.heap.size := by
  obtain ⟨v1, h1, h2, h3⟩ := k
  exact h2.size
theorem LeftP.held {zs ys : List Int} {j : Nat} {t : TypeId} {cs : Array Value} (k : LeftP w base g v zs w') (h : SnkP w base g v ys) (hk : Held w j t cs) (h1 : t ≠ 38) (h2 : t ≠ 5) : Held w' j t cs := by
  obtain ⟨v1, q1, q2, q3⟩ := k
  exact apart_held h.held h.own q2 hk h1 h2
theorem LeftP.keep {zs ys : List Int} {n2 k2 size : Nat} {e : TypeId} {vx : Value} {ux : List Value} (k : LeftP w base g v zs w') (h : SnkP w base g v ys) (hx : w.ownsRow n2 e size vx k2 ux) (h1 : e ≠ 38) (h2 : e ≠ 5) : w'.ownsRow n2 e size vx k2 ux := by
  obtain ⟨v1, q1, q2, q3⟩ := k
  exact apart_own h.held h.own q2 hx h1 h2
theorem LeftP.dict {zs ys : List Int} {b2 D r : Nat} {vd : Value} {L : List (List Int)} (k : LeftP w base g v zs w') (h : SnkP w base g v ys) (hd : DictAt w b2 D r vd L) : DictAt w' b2 D r vd L := by
  obtain ⟨v1, q1, q2, q3⟩ := k
  exact apart_dict h.held h.own q2 hd (by decide) (by decide)
theorem SnkS.below {zs : List Int} (h : SnkS w base g v zs) (hb : Below w.heap.size w w') : SnkS w' base g v zs := ⟨h.held.below hb h.held.lt, h.hg, own_below h.own hb⟩
/-- What is left behind more that was put. -/
def LeftS (w : World) (base g : Nat) (v : Value) (zs : List Int) (w' : World) : Prop := ∃ v', SnkS w' base g v' zs ∧ But w w' v.ownBlock g ∧ ∀ j, v'.ownBlock = some j → v.ownBlock = some j ∨ w.heap.size ≤ j
theorem LeftS.of_below {zs : List Int} (h : SnkS w base g v zs) (hb : Below w.heap.size w w') : LeftS w base g v zs w' := ⟨v, h.below hb, But.of_below hb _ _, fun _ e => .inl e⟩
theorem LeftS.trans {v1 : Value} {zs : List Int} (hb : But w w' v.ownBlock g) (hv : ∀ j, v1.ownBlock = some j → v.ownBlock = some j ∨ w.heap.size ≤ j) (k : LeftS w' base g v1 zs w2) : LeftS w base g v zs w2 := by
  obtain ⟨v2, h1, h2, h3⟩ := k
  refine ⟨v2, h1, hb.trans h2 hv, fun j e => ?_⟩
  rcases h3 j e with h | h
  · exact hv j h
  · exact .inr (Nat.le_trans hb.size h)
theorem LeftS.ahead {zs : List Int} (hb : Below w.heap.size w w') (k : LeftS w' base g v zs w2) : LeftS w base g v zs w2 := LeftS.trans (But.of_below hb _ _) (fun _ e => .inl e) k
theorem LeftS.behind {zs : List Int} (k : LeftS w base g v zs w') (hb : Below w'.heap.size w' w2) : LeftS w base g v zs w2 := by
  obtain ⟨v1, h1, h2, h3⟩ := k
  exact LeftS.trans h2 h3 (LeftS.of_below h1 hb)
theorem LeftS.low {zs ys : List Int} (k : LeftS w base g v zs w') (h : SnkS w base g v ys) (hn : base ≤ w.heap.size) : Below base w w' := by
  obtain ⟨v1, h1, h2, h3⟩ := k
  exact h2.low hn h.hg (fun j e => (World.ownsRow.lt h.own j e).1)
theorem LeftS.size {zs : List Int} (k : LeftS w base g v zs w') : w.heap.size ≤ w'.heap.size := by
  obtain ⟨v1, h1, h2, h3⟩ := k
  exact h2.size
theorem LeftS.held {zs ys : List Int} {j : Nat} {t : TypeId} {cs : Array Value} (k : LeftS w base g v zs w') (h : SnkS w base g v ys) (hk : Held w j t cs) (h1 : t ≠ 3) (h2 : t ≠ 5) : Held w' j t cs := by
  obtain ⟨v1, q1, q2, q3⟩ := k
  exact apart_held h.held h.own q2 hk h1 h2
theorem LeftS.keep {zs ys : List Int} {n2 k2 size : Nat} {e : TypeId} {vx : Value} {ux : List Value} (k : LeftS w base g v zs w') (h : SnkS w base g v ys) (hx : w.ownsRow n2 e size vx k2 ux) (h1 : e ≠ 3) (h2 : e ≠ 5) : w'.ownsRow n2 e size vx k2 ux := by
  obtain ⟨v1, q1, q2, q3⟩ := k
  exact apart_own h.held h.own q2 hx h1 h2
theorem LeftS.dict {zs ys : List Int} {b2 D r : Nat} {vd : Value} {L : List (List Int)} (k : LeftS w base g v zs w') (h : SnkS w base g v ys) (hd : DictAt w b2 D r vd L) : DictAt w' b2 D r vd L := by
  obtain ⟨v1, q1, q2, q3⟩ := k
  exact apart_dict h.held h.own q2 hd (by decide) (by decide)
end
end Go.Proofs.YtohibmjjhifggaaGreat
namespace Go.Proofs.YtohibmjjhifggaaGreat
open Go.RowKit Go.ChangeShapes Go.WideShapes
theorem put_nil_own (n : Nat) (hn : n < 18446744073709551616) (w : World) :
    Calls Tryz.prog 64 #[.slice none 0 0, .int .u64 n] w fun e W' => ∃ A c, e = .returned (.slice A (encI n).length c) ∧ W'.ownsRow w.heap.size 5 1 (.slice A (encI n).length c) (encI n).length ((encI n).map (.int .u8)) ∧ Below w.heap.size w W' := by
  refine (put_nil n hn w).mono ?_
  rintro e w1 ⟨v, rfl, h1, h2⟩
  obtain ⟨A, c, rfl⟩ := own_form h1
  exact ⟨A, c, rfl, h1, h2⟩
theorem bput_nil_own (s : List Int) (hb : ∀ x ∈ s, 0 ≤ x ∧ x < 256) (hs : s.length ≤ 1000000000) (w : World) :
    Calls Tryz.prog 66 #[.slice none 0 0, .string (strOfNums s)] w fun e W' => ∃ A c, e = .returned (.slice A (encT s).length c) ∧ W'.ownsRow w.heap.size 5 1 (.slice A (encT s).length c) (encT s).length ((encT s).map (.int .u8)) ∧ Below w.heap.size w W' := by
  have h := bput_any none 0 [] s hb (by simp) hs w (Row.nil _ _)
  refine h.mono ?_
  rintro e w1 ⟨v, rfl, h1, h2⟩
  simp only [List.nil_append, List.length_nil, Nat.zero_add] at h1
  obtain ⟨A, c, rfl⟩ := own_form h1
  exact ⟨A, c, rfl, h1, h2⟩
theorem left_put {w w1 w2 : World} {base g : Nat} {v : Value} {zs ys : List Int} {A : Option Addr} {c : Nat} (h : SnkP w base g v zs) (hb : Below w.heap.size w w1) (ho : w2.ownsRow base 5 1 (.slice A ys.length c) ys.length (ys.map (.int .u8))) (hg : w1.grownBy w2 v.ownBlock)
    (hat : (Value.slice A ys.length c).ownBlock = v.ownBlock ∨ (Value.slice A ys.length c).ownBlock = some w1.heap.size) (hh : Held w2 g 38 #[v]) : LeftP w base g v ys (w2.setCell ⟨g, 0, none⟩ (.slice A ys.length c)) := by
  have hh2 := hh.put 0 (.slice A ys.length c)
  have hne := own_not_held ho hh (by decide)
  refine ⟨.slice A ys.length c, ⟨by simpa using hh2, h.hg, ownsRow_setCell_other ho (Ne.symm hne) _⟩, ?_, fun j e => ?_⟩
  · exact (But.of_below hb _ _).trans ((But.of_row hg g).trans (But.of_one (grown_put w2 g 0 _) v.ownBlock) (fun j e => .inl e)) (fun j e => .inl e)
  · rcases hat with q | q
    · exact .inl (q ▸ e)
    · rw [q] at e
      cases e
      exact .inr hb.size
set_option maxRecDepth 100000 in
set_option maxHeartbeats 1000000 in
theorem putn_any {w : World} {base g : Nat} {v : Value} {zs : List Int} (h : SnkP w base g v zs) (n : Nat) (hn : n < 18446744073709551616) (hl : zs.length ≤ 10000000000) (hbs : base ≤ w.heap.size) :
    Calls Tryz.prog 63 #[.int .u64 n, .pointer (some ⟨g, 0, none⟩)] w fun e w' => e = .returned (.tuple #[]) ∧ LeftP w base g v (zs ++ encI n) w' := by
  obtain ⟨i0, hi, hz0, hz1, hz2⟩ := info_parts Tryz.infoU8
  have hlen : (encI n).length ≤ 1000000100 := by have := (encI_ten hn).2; omega
  have HC := Lib.hid (fun W => put_nil_own n hn W)
  have HH := Lib.hid (fun (W : World) (hb : Below w.heap.size w W) => (h.below hb))
  have h0 := h
  have hng := own_not_held h.own h.held (by decide)
  generalize encI n = E at hlen HC ⊢
  clear h
  go_enter Tryz.func63, Tryz.ntmps63
  go_wp2_with fail
  refine wp_region_held_drew (S := fun _ => True) (by kernel_rfl) trivial (fun _ => ?_)
  refine wpAnyH_take (i := 1) (v := .int .u64 n) rfl (by kernel_rfl) (by kernel_rfl) (by kernel_rfl) (fun _ _ _ h => h) (Or.inl ⟨by rfl, fun W _ => by go_simp⟩) trivial ?_
  try simp only [List.getElem_toArray, List.getElem_cons_zero, List.getElem_cons_succ, Act.put, List.setIfInBounds_toArray, List.set_cons_zero, List.set_cons_succ]
  refine wpAnyH_ready (rs := [0, 2]) (by kernel_rfl) (by simp) ?_
  refine AllReadyH.cons rfl (fun K hK => ?_) (AllReadyH.cons rfl (fun K hK => ?_) AllReadyH.nil)
  · skip
    have y0 := (HH.out _ (Below.refl _ _).drew).held.cell 0
    simp at y0
    go_simp
    clear y0
    refine hK.out _ _ trivial (fun _ => ?_)
    clear hK K
    try simp only [List.getElem_toArray, List.getElem_cons_zero, List.getElem_cons_succ, Act.put, List.setIfInBounds_toArray, List.set_cons_zero, List.set_cons_succ]
    refine wpAnyH_ready (rs := [2]) (by kernel_rfl) (by simp) ?_
    refine AllReadyH.cons rfl (fun K hK => ?_) AllReadyH.nil
    go_simp
    refine (HC.out _).mono ?_
    rintro e w1 ⟨A1, c1, rfl, hown1, hb1⟩
    have b1 : Below w.heap.size w w1 := (Below.refl _ _).drew.trans hb1
    refine hK.out _ _ trivial (fun _ => ?_)
    clear hK K
    try simp only [List.getElem_toArray, List.getElem_cons_zero, List.getElem_cons_succ, Act.put, List.setIfInBounds_toArray, List.set_cons_zero, List.set_cons_succ]
    refine wpAnyH_ready (rs := [3]) (by kernel_rfl) (by simp) ?_
    refine AllReadyH.cons rfl (fun K hK => ?_) AllReadyH.nil
    refine step_append_erow_at (by rfl) (.tmp 3) (.tmp 5) 38 5 (by rfl) base i0 (.int .u8 0) 1 1 Tryz.underlying38 hi hz0 hz1 hz2 rfl (by decide) v zs.length (zs.map (.int .u8)) (by rfl) (HH.out _ b1).own _ (.slice A1 E.length c1) E.length (E.map (.int .u8)) (by rfl) (ERow.of_own hown1) (by simp) (by simp [Value.oneCell']) (by simp only [maxLen]; omega) (by omega) (by have := b1.size; omega) (zs ++ E).length (by simp) ((zs ++ E).map (.int .u8)) (by simp) ?_
    intro A c w2 hown2 hg2 hat2
    refine hK.out _ _ trivial (fun _ => ?_)
    clear hK K
    try simp only [List.getElem_toArray, List.getElem_cons_zero, List.getElem_cons_succ, Act.put, List.setIfInBounds_toArray, List.set_cons_zero, List.set_cons_succ]
    refine wpAnyH_ready (rs := [4]) (by kernel_rfl) (by simp) ?_
    refine AllReadyH.cons rfl (fun K hK => ?_) AllReadyH.nil
    have hh2 := (HH.out _ b1).held.grown hg2 hng
    have y0 := hh2.cell 0
    have yf := hh2.frozen 0
    simp at y0
    go_simp
    clear y0 yf
    refine hK.out _ _ trivial (fun _ => ?_)
    clear hK K
    try simp only [List.getElem_toArray, List.getElem_cons_zero, List.getElem_cons_succ, Act.put, List.setIfInBounds_toArray, List.set_cons_zero, List.set_cons_succ]
    refine wpAnyH_done (by kernel_rfl) ?_ _
    go_wp2_with fail
    go_end0
    refine ⟨rfl, ?_⟩
    rw [← List.length_append]
    exact left_put h0 b1 hown2 hg2 hat2 hh2
  · skip
    go_simp
    refine (HC.out _).mono ?_
    rintro e w1 ⟨A1, c1, rfl, hown1, hb1⟩
    have b1 : Below w.heap.size w w1 := (Below.refl _ _).drew.trans hb1
    refine hK.out _ _ trivial (fun _ => ?_)
    clear hK K
    try simp only [List.getElem_toArray, List.getElem_cons_zero, List.getElem_cons_succ, Act.put, List.setIfInBounds_toArray, List.set_cons_zero, List.set_cons_succ]
    refine wpAnyH_ready (rs := [0]) (by kernel_rfl) (by simp) ?_
    refine AllReadyH.cons rfl (fun K hK => ?_) AllReadyH.nil
    have y0 := (HH.out _ b1).held.cell 0
    simp at y0
    go_simp
    clear y0
    refine hK.out _ _ trivial (fun _ => ?_)
    clear hK K
    try simp only [List.getElem_toArray, List.getElem_cons_zero, List.getElem_cons_succ, Act.put, List.setIfInBounds_toArray, List.set_cons_zero, List.set_cons_succ]
    refine wpAnyH_ready (rs := [3]) (by kernel_rfl) (by simp) ?_
    refine AllReadyH.cons rfl (fun K hK => ?_) AllReadyH.nil
    refine step_append_erow_at (by rfl) (.tmp 3) (.tmp 5) 38 5 (by rfl) base i0 (.int .u8 0) 1 1 Tryz.underlying38 hi hz0 hz1 hz2 rfl (by decide) v zs.length (zs.map (.int .u8)) (by rfl) (HH.out _ b1).own _ (.slice A1 E.length c1) E.length (E.map (.int .u8)) (by rfl) (ERow.of_own hown1) (by simp) (by simp [Value.oneCell']) (by simp only [maxLen]; omega) (by omega) (by have := b1.size; omega) (zs ++ E).length (by simp) ((zs ++ E).map (.int .u8)) (by simp) ?_
    intro A c w2 hown2 hg2 hat2
    refine hK.out _ _ trivial (fun _ => ?_)
    clear hK K
    try simp only [List.getElem_toArray, List.getElem_cons_zero, List.getElem_cons_succ, Act.put, List.setIfInBounds_toArray, List.set_cons_zero, List.set_cons_succ]
    refine wpAnyH_ready (rs := [4]) (by kernel_rfl) (by simp) ?_
    refine AllReadyH.cons rfl (fun K hK => ?_) AllReadyH.nil
    have hh2 := (HH.out _ b1).held.grown hg2 hng
    have y0 := hh2.cell 0
    have yf := hh2.frozen 0
    simp at y0
    go_simp
    clear y0 yf
    refine hK.out _ _ trivial (fun _ => ?_)
    clear hK K
    try simp only [List.getElem_toArray, List.getElem_cons_zero, List.getElem_cons_succ, Act.put, List.setIfInBounds_toArray, List.set_cons_zero, List.set_cons_succ]
    refine wpAnyH_done (by kernel_rfl) ?_ _
    go_wp2_with fail
    go_end0
    refine ⟨rfl, ?_⟩
    rw [← List.length_append]
    exact left_put h0 b1 hown2 hg2 hat2 hh2
set_option maxRecDepth 100000 in
set_option maxHeartbeats 1000000 in
theorem putt_any {w : World} {base g : Nat} {v : Value} {zs : List Int} (h : SnkP w base g v zs) (s : List Int) (hsb : ∀ x ∈ s, 0 ≤ x ∧ x < 256) (hs : s.length ≤ 1000000000) (hl : zs.length ≤ 10000000000) (hbs : base ≤ w.heap.size) :
    Calls Tryz.prog 65 #[.string (strOfNums s), .pointer (some ⟨g, 0, none⟩)] w fun e w' => e = .returned (.tuple #[]) ∧ LeftP w base g v (zs ++ encT s) w' := by
  obtain ⟨i0, hi, hz0, hz1, hz2⟩ := info_parts Tryz.infoU8
  have hlen : (encT s).length ≤ 1000000100 := by rw [encT_length]; have := (encI_ten (n := s.length) (by omega)).2; omega
  have HC := Lib.hid (fun W => bput_nil_own s hsb hs W)
  have HH := Lib.hid (fun (W : World) (hb : Below w.heap.size w W) => (h.below hb))
  have h0 := h
  have hng := own_not_held h.own h.held (by decide)
  generalize encT s = E at hlen HC ⊢
  clear h
  go_enter Tryz.func65, Tryz.ntmps65
  go_wp2_with fail
  refine wp_region_held_drew (S := fun _ => True) (by kernel_rfl) trivial (fun _ => ?_)
  refine wpAnyH_take (i := 1) (v := .string (strOfNums s)) rfl (by kernel_rfl) (by kernel_rfl) (by kernel_rfl) (fun _ _ _ h => h) (Or.inl ⟨by rfl, fun W _ => by go_simp⟩) trivial ?_
  try simp only [List.getElem_toArray, List.getElem_cons_zero, List.getElem_cons_succ, Act.put, List.setIfInBounds_toArray, List.set_cons_zero, List.set_cons_succ]
  refine wpAnyH_ready (rs := [0, 2]) (by kernel_rfl) (by simp) ?_
  refine AllReadyH.cons rfl (fun K hK => ?_) (AllReadyH.cons rfl (fun K hK => ?_) AllReadyH.nil)
  · skip
    have y0 := (HH.out _ (Below.refl _ _).drew).held.cell 0
    simp at y0
    go_simp
    clear y0
    refine hK.out _ _ trivial (fun _ => ?_)
    clear hK K
    try simp only [List.getElem_toArray, List.getElem_cons_zero, List.getElem_cons_succ, Act.put, List.setIfInBounds_toArray, List.set_cons_zero, List.set_cons_succ]
    refine wpAnyH_ready (rs := [2]) (by kernel_rfl) (by simp) ?_
    refine AllReadyH.cons rfl (fun K hK => ?_) AllReadyH.nil
    go_simp
    refine (HC.out _).mono ?_
    rintro e w1 ⟨A1, c1, rfl, hown1, hb1⟩
    have b1 : Below w.heap.size w w1 := (Below.refl _ _).drew.trans hb1
    refine hK.out _ _ trivial (fun _ => ?_)
    clear hK K
    try simp only [List.getElem_toArray, List.getElem_cons_zero, List.getElem_cons_succ, Act.put, List.setIfInBounds_toArray, List.set_cons_zero, List.set_cons_succ]
    refine wpAnyH_ready (rs := [3]) (by kernel_rfl) (by simp) ?_
    refine AllReadyH.cons rfl (fun K hK => ?_) AllReadyH.nil
    refine step_append_erow_at (by rfl) (.tmp 3) (.tmp 5) 38 5 (by rfl) base i0 (.int .u8 0) 1 1 Tryz.underlying38 hi hz0 hz1 hz2 rfl (by decide) v zs.length (zs.map (.int .u8)) (by rfl) (HH.out _ b1).own _ (.slice A1 E.length c1) E.length (E.map (.int .u8)) (by rfl) (ERow.of_own hown1) (by simp) (by simp [Value.oneCell']) (by simp only [maxLen]; omega) (by omega) (by have := b1.size; omega) (zs ++ E).length (by simp) ((zs ++ E).map (.int .u8)) (by simp) ?_
    intro A c w2 hown2 hg2 hat2
    refine hK.out _ _ trivial (fun _ => ?_)
    clear hK K
    try simp only [List.getElem_toArray, List.getElem_cons_zero, List.getElem_cons_succ, Act.put, List.setIfInBounds_toArray, List.set_cons_zero, List.set_cons_succ]
    refine wpAnyH_ready (rs := [4]) (by kernel_rfl) (by simp) ?_
    refine AllReadyH.cons rfl (fun K hK => ?_) AllReadyH.nil
    have hh2 := (HH.out _ b1).held.grown hg2 hng
    have y0 := hh2.cell 0
    have yf := hh2.frozen 0
    simp at y0
    go_simp
    clear y0 yf
    refine hK.out _ _ trivial (fun _ => ?_)
    clear hK K
    try simp only [List.getElem_toArray, List.getElem_cons_zero, List.getElem_cons_succ, Act.put, List.setIfInBounds_toArray, List.set_cons_zero, List.set_cons_succ]
    refine wpAnyH_done (by kernel_rfl) ?_ _
    go_wp2_with fail
    go_end0
    refine ⟨rfl, ?_⟩
    rw [← List.length_append]
    exact left_put h0 b1 hown2 hg2 hat2 hh2
  · skip
    go_simp
    refine (HC.out _).mono ?_
    rintro e w1 ⟨A1, c1, rfl, hown1, hb1⟩
    have b1 : Below w.heap.size w w1 := (Below.refl _ _).drew.trans hb1
    refine hK.out _ _ trivial (fun _ => ?_)
    clear hK K
    try simp only [List.getElem_toArray, List.getElem_cons_zero, List.getElem_cons_succ, Act.put, List.setIfInBounds_toArray, List.set_cons_zero, List.set_cons_succ]
    refine wpAnyH_ready (rs := [0]) (by kernel_rfl) (by simp) ?_
    refine AllReadyH.cons rfl (fun K hK => ?_) AllReadyH.nil
    have y0 := (HH.out _ b1).held.cell 0
    simp at y0
    go_simp
    clear y0
    refine hK.out _ _ trivial (fun _ => ?_)
    clear hK K
    try simp only [List.getElem_toArray, List.getElem_cons_zero, List.getElem_cons_succ, Act.put, List.setIfInBounds_toArray, List.set_cons_zero, List.set_cons_succ]
    refine wpAnyH_ready (rs := [3]) (by kernel_rfl) (by simp) ?_
    refine AllReadyH.cons rfl (fun K hK => ?_) AllReadyH.nil
    refine step_append_erow_at (by rfl) (.tmp 3) (.tmp 5) 38 5 (by rfl) base i0 (.int .u8 0) 1 1 Tryz.underlying38 hi hz0 hz1 hz2 rfl (by decide) v zs.length (zs.map (.int .u8)) (by rfl) (HH.out _ b1).own _ (.slice A1 E.length c1) E.length (E.map (.int .u8)) (by rfl) (ERow.of_own hown1) (by simp) (by simp [Value.oneCell']) (by simp only [maxLen]; omega) (by omega) (by have := b1.size; omega) (zs ++ E).length (by simp) ((zs ++ E).map (.int .u8)) (by simp) ?_
    intro A c w2 hown2 hg2 hat2
    refine hK.out _ _ trivial (fun _ => ?_)
    clear hK K
    try simp only [List.getElem_toArray, List.getElem_cons_zero, List.getElem_cons_succ, Act.put, List.setIfInBounds_toArray, List.set_cons_zero, List.set_cons_succ]
    refine wpAnyH_ready (rs := [4]) (by kernel_rfl) (by simp) ?_
    refine AllReadyH.cons rfl (fun K hK => ?_) AllReadyH.nil
    have hh2 := (HH.out _ b1).held.grown hg2 hng
    have y0 := hh2.cell 0
    have yf := hh2.frozen 0
    simp at y0
    go_simp
    clear y0 yf
    refine hK.out _ _ trivial (fun _ => ?_)
    clear hK K
    try simp only [List.getElem_toArray, List.getElem_cons_zero, List.getElem_cons_succ, Act.put, List.setIfInBounds_toArray, List.set_cons_zero, List.set_cons_succ]
    refine wpAnyH_done (by kernel_rfl) ?_ _
    go_wp2_with fail
    go_end0
    refine ⟨rfl, ?_⟩
    rw [← List.length_append]
    exact left_put h0 b1 hown2 hg2 hat2 hh2
end Go.Proofs.YtohibmjjhifggaaGreat
namespace Go.Proofs.YtohibmjjhifggaaGreat
open Go.RowKit Go.ChangeShapes Go.WideShapes
theorem left_sum {w w1 : World} {base g : Nat} {v : Value} {zs ys : List Int} {Z E : Nat} (h : SnkS w base g v zs) (hb : Below w.heap.size w w1) (hE : ys.length = E) (hZ : zs.length = Z) : LeftS w base g v (zs ++ ys) (w1.setCell ⟨g, 0, none⟩ (.int .i64 ((Z : Int) + (E : Int)))) := by
  have h1 := h.below hb
  have hh2 := h1.held.put 0 (.int .i64 ((Z : Int) + (E : Int)))
  have hne := own_not_held h1.own h1.held (by decide)
  refine ⟨v, ⟨by rw [List.length_append, hE, hZ]; simpa using hh2, h.hg, ownsRow_setCell_other h1.own (Ne.symm hne) _⟩, ?_, fun j e => .inl e⟩
  exact (But.of_below hb _ _).trans (But.of_one (grown_put w1 g 0 _) v.ownBlock) (fun j e => .inl e)
set_option maxRecDepth 100000 in
set_option maxHeartbeats 1000000 in
theorem sumn_any {w : World} {base g : Nat} {v : Value} {zs : List Int} (h : SnkS w base g v zs) (n : Nat) (hn : n < 18446744073709551616) (hl : zs.length ≤ 10000000000) :
    Calls Tryz.prog 81 #[.int .u64 n, .pointer (some ⟨g, 0, none⟩)] w fun e w' => e = .returned (.tuple #[]) ∧ LeftS w base g v (zs ++ encI n) w' := by
  have hlen : (encI n).length ≤ 1000000100 := by have := (encI_ten hn).2; omega
  have HC := Lib.hid (fun W => size_any n hn W)
  have HH := Lib.hid (fun (W : World) (hb : Below w.heap.size w W) => (h.below hb))
  have h0 := h
  obtain ⟨E, hE⟩ : ∃ E, (encI n).length = E := ⟨_, rfl⟩
  rw [hE] at hlen HC
  obtain ⟨Z, hZ⟩ : ∃ Z, zs.length = Z := ⟨_, rfl⟩
  have HWR := Lib.hid (show IntKind.i64.wrap ((Z : Int) + (E : Int)) = (Z : Int) + (E : Int) from IntWalk.i64_in _ (by omega))
  have HZ := Lib.hid hZ
  have HL := Lib.hid hE
  clear h hE hZ
  go_enter Tryz.func81, Tryz.ntmps81
  go_wp2_with fail
  refine wp_region_held_drew (S := fun _ => True) (by kernel_rfl) trivial (fun _ => ?_)
  refine wpAnyH_take (i := 1) (v := .int .u64 n) rfl (by kernel_rfl) (by kernel_rfl) (by kernel_rfl) (fun _ _ _ h => h) (Or.inl ⟨by rfl, fun W _ => by go_simp⟩) trivial ?_
  try simp only [List.getElem_toArray, List.getElem_cons_zero, List.getElem_cons_succ, Act.put, List.setIfInBounds_toArray, List.set_cons_zero, List.set_cons_succ]
  refine wpAnyH_ready (rs := [0, 2]) (by kernel_rfl) (by simp) ?_
  refine AllReadyH.cons rfl (fun K hK => ?_) (AllReadyH.cons rfl (fun K hK => ?_) AllReadyH.nil)
  · skip
    have y0 := (HH.out _ (Below.refl _ _).drew).held.cell 0
    simp at y0
    rw [HZ.out] at y0
    go_simp
    clear y0
    refine hK.out _ _ trivial (fun _ => ?_)
    clear hK K
    try simp only [List.getElem_toArray, List.getElem_cons_zero, List.getElem_cons_succ, Act.put, List.setIfInBounds_toArray, List.set_cons_zero, List.set_cons_succ]
    refine wpAnyH_ready (rs := [2]) (by kernel_rfl) (by simp) ?_
    refine AllReadyH.cons rfl (fun K hK => ?_) AllReadyH.nil
    go_simp
    refine (HC.out _).mono ?_
    rintro e w1 ⟨rfl, hb1⟩
    have b1 : Below w.heap.size w w1 := (Below.refl _ _).drew.trans hb1
    refine hK.out _ _ trivial (fun _ => ?_)
    clear hK K
    try simp only [List.getElem_toArray, List.getElem_cons_zero, List.getElem_cons_succ, Act.put, List.setIfInBounds_toArray, List.set_cons_zero, List.set_cons_succ]
    refine wpAnyH_take (i := 3) (v := .int .i64 ((Z : Int) + (E : Int))) rfl (by kernel_rfl) (by kernel_rfl) (by kernel_rfl) (fun _ _ _ h => h) (Or.inl ⟨by rfl, fun W _ => by have hwr := HWR.out; go_simp⟩) trivial ?_
    try simp only [List.getElem_toArray, List.getElem_cons_zero, List.getElem_cons_succ, Act.put, List.setIfInBounds_toArray, List.set_cons_zero, List.set_cons_succ]
    refine wpAnyH_ready (rs := [4]) (by kernel_rfl) (by simp) ?_
    refine AllReadyH.cons rfl (fun K hK => ?_) AllReadyH.nil
    have hh2 := (HH.out _ b1).held
    have y0 := hh2.cell 0
    have yf := hh2.frozen 0
    simp at y0
    rw [HZ.out] at y0
    go_simp
    clear y0 yf
    refine hK.out _ _ trivial (fun _ => ?_)
    clear hK K
    try simp only [List.getElem_toArray, List.getElem_cons_zero, List.getElem_cons_succ, Act.put, List.setIfInBounds_toArray, List.set_cons_zero, List.set_cons_succ]
    refine wpAnyH_done (by kernel_rfl) ?_ _
    go_wp2_with fail
    go_end0
    exact ⟨rfl, left_sum h0 b1 HL.out HZ.out⟩
  · skip
    go_simp
    refine (HC.out _).mono ?_
    rintro e w1 ⟨rfl, hb1⟩
    have b1 : Below w.heap.size w w1 := (Below.refl _ _).drew.trans hb1
    refine hK.out _ _ trivial (fun _ => ?_)
    clear hK K
    try simp only [List.getElem_toArray, List.getElem_cons_zero, List.getElem_cons_succ, Act.put, List.setIfInBounds_toArray, List.set_cons_zero, List.set_cons_succ]
    refine wpAnyH_ready (rs := [0]) (by kernel_rfl) (by simp) ?_
    refine AllReadyH.cons rfl (fun K hK => ?_) AllReadyH.nil
    have y0 := (HH.out _ b1).held.cell 0
    simp at y0
    rw [HZ.out] at y0
    go_simp
    clear y0
    refine hK.out _ _ trivial (fun _ => ?_)
    clear hK K
    try simp only [List.getElem_toArray, List.getElem_cons_zero, List.getElem_cons_succ, Act.put, List.setIfInBounds_toArray, List.set_cons_zero, List.set_cons_succ]
    refine wpAnyH_take (i := 3) (v := .int .i64 ((Z : Int) + (E : Int))) rfl (by kernel_rfl) (by kernel_rfl) (by kernel_rfl) (fun _ _ _ h => h) (Or.inl ⟨by rfl, fun W _ => by have hwr := HWR.out; go_simp⟩) trivial ?_
    try simp only [List.getElem_toArray, List.getElem_cons_zero, List.getElem_cons_succ, Act.put, List.setIfInBounds_toArray, List.set_cons_zero, List.set_cons_succ]
    refine wpAnyH_ready (rs := [4]) (by kernel_rfl) (by simp) ?_
    refine AllReadyH.cons rfl (fun K hK => ?_) AllReadyH.nil
    have hh2 := (HH.out _ b1).held
    have y0 := hh2.cell 0
    have yf := hh2.frozen 0
    simp at y0
    rw [HZ.out] at y0
    go_simp
    clear y0 yf
    refine hK.out _ _ trivial (fun _ => ?_)
    clear hK K
    try simp only [List.getElem_toArray, List.getElem_cons_zero, List.getElem_cons_succ, Act.put, List.setIfInBounds_toArray, List.set_cons_zero, List.set_cons_succ]
    refine wpAnyH_done (by kernel_rfl) ?_ _
    go_wp2_with fail
    go_end0
    exact ⟨rfl, left_sum h0 b1 HL.out HZ.out⟩
set_option maxRecDepth 100000 in
set_option maxHeartbeats 1000000 in
theorem sumt_any {w : World} {base g : Nat} {v : Value} {zs : List Int} (h : SnkS w base g v zs) (s : List Int) (hsb : ∀ x ∈ s, 0 ≤ x ∧ x < 256) (hs : s.length ≤ 1000000000) (hl : zs.length ≤ 10000000000) :
    Calls Tryz.prog 83 #[.string (strOfNums s), .pointer (some ⟨g, 0, none⟩)] w fun e w' => e = .returned (.tuple #[]) ∧ LeftS w base g v (zs ++ encT s) w' := by
  have hlen : (encT s).length ≤ 1000000100 := by rw [encT_length]; have := (encI_ten (n := s.length) (by omega)).2; omega
  have HC := Lib.hid (fun W => bput_nil_own s hsb hs W)
  have HH := Lib.hid (fun (W : World) (hb : Below w.heap.size w W) => (h.below hb))
  have h0 := h
  obtain ⟨E, hE⟩ : ∃ E, (encT s).length = E := ⟨_, rfl⟩
  rw [hE] at hlen HC
  obtain ⟨Z, hZ⟩ : ∃ Z, zs.length = Z := ⟨_, rfl⟩
  have HWR := Lib.hid (show IntKind.i64.wrap ((Z : Int) + (E : Int)) = (Z : Int) + (E : Int) from IntWalk.i64_in _ (by omega))
  have HZ := Lib.hid hZ
  have HL := Lib.hid hE
  clear h hE hZ
  go_enter Tryz.func83, Tryz.ntmps83
  go_wp2_with fail
  refine wp_region_held_drew (S := fun _ => True) (by kernel_rfl) trivial (fun _ => ?_)
  refine wpAnyH_take (i := 1) (v := .string (strOfNums s)) rfl (by kernel_rfl) (by kernel_rfl) (by kernel_rfl) (fun _ _ _ h => h) (Or.inl ⟨by rfl, fun W _ => by go_simp⟩) trivial ?_
  try simp only [List.getElem_toArray, List.getElem_cons_zero, List.getElem_cons_succ, Act.put, List.setIfInBounds_toArray, List.set_cons_zero, List.set_cons_succ]
  refine wpAnyH_ready (rs := [0, 2]) (by kernel_rfl) (by simp) ?_
  refine AllReadyH.cons rfl (fun K hK => ?_) (AllReadyH.cons rfl (fun K hK => ?_) AllReadyH.nil)
  · skip
    have y0 := (HH.out _ (Below.refl _ _).drew).held.cell 0
    simp at y0
    rw [HZ.out] at y0
    go_simp
    clear y0
    refine hK.out _ _ trivial (fun _ => ?_)
    clear hK K
    try simp only [List.getElem_toArray, List.getElem_cons_zero, List.getElem_cons_succ, Act.put, List.setIfInBounds_toArray, List.set_cons_zero, List.set_cons_succ]
    refine wpAnyH_ready (rs := [2]) (by kernel_rfl) (by simp) ?_
    refine AllReadyH.cons rfl (fun K hK => ?_) AllReadyH.nil
    go_simp
    refine (HC.out _).mono ?_
    rintro e w1 ⟨A1, c1, rfl, hown1, hb1⟩
    have b1 : Below w.heap.size w w1 := (Below.refl _ _).drew.trans hb1
    refine hK.out _ _ trivial (fun _ => ?_)
    clear hK K
    try simp only [List.getElem_toArray, List.getElem_cons_zero, List.getElem_cons_succ, Act.put, List.setIfInBounds_toArray, List.set_cons_zero, List.set_cons_succ]
    refine wpAnyH_take (i := 3) (v := .int .i64 (E : Int)) rfl (by kernel_rfl) (by kernel_rfl) (by kernel_rfl) (fun _ _ _ h => h) (Or.inl ⟨by rfl, fun W _ => by go_simp⟩) trivial ?_
    try simp only [List.getElem_toArray, List.getElem_cons_zero, List.getElem_cons_succ, Act.put, List.setIfInBounds_toArray, List.set_cons_zero, List.set_cons_succ]
    refine wpAnyH_take (i := 4) (v := .int .i64 ((Z : Int) + (E : Int))) rfl (by kernel_rfl) (by kernel_rfl) (by kernel_rfl) (fun _ _ _ h => h) (Or.inl ⟨by rfl, fun W _ => by have hwr := HWR.out; go_simp⟩) trivial ?_
    try simp only [List.getElem_toArray, List.getElem_cons_zero, List.getElem_cons_succ, Act.put, List.setIfInBounds_toArray, List.set_cons_zero, List.set_cons_succ]
    refine wpAnyH_ready (rs := [5]) (by kernel_rfl) (by simp) ?_
    refine AllReadyH.cons rfl (fun K hK => ?_) AllReadyH.nil
    have hh2 := (HH.out _ b1).held
    have y0 := hh2.cell 0
    have yf := hh2.frozen 0
    simp at y0
    rw [HZ.out] at y0
    go_simp
    clear y0 yf
    refine hK.out _ _ trivial (fun _ => ?_)
    clear hK K
    try simp only [List.getElem_toArray, List.getElem_cons_zero, List.getElem_cons_succ, Act.put, List.setIfInBounds_toArray, List.set_cons_zero, List.set_cons_succ]
    refine wpAnyH_done (by kernel_rfl) ?_ _
    go_wp2_with fail
    go_end0
    exact ⟨rfl, left_sum h0 b1 HL.out HZ.out⟩
  · skip
    go_simp
    refine (HC.out _).mono ?_
    rintro e w1 ⟨A1, c1, rfl, hown1, hb1⟩
    have b1 : Below w.heap.size w w1 := (Below.refl _ _).drew.trans hb1
    refine hK.out _ _ trivial (fun _ => ?_)
    clear hK K
    try simp only [List.getElem_toArray, List.getElem_cons_zero, List.getElem_cons_succ, Act.put, List.setIfInBounds_toArray, List.set_cons_zero, List.set_cons_succ]
    refine wpAnyH_take (i := 3) (v := .int .i64 (E : Int)) rfl (by kernel_rfl) (by kernel_rfl) (by kernel_rfl) (fun _ _ _ h => h) (Or.inl ⟨by rfl, fun W _ => by go_simp⟩) trivial ?_
    try simp only [List.getElem_toArray, List.getElem_cons_zero, List.getElem_cons_succ, Act.put, List.setIfInBounds_toArray, List.set_cons_zero, List.set_cons_succ]
    refine wpAnyH_ready (rs := [0]) (by kernel_rfl) (by simp) ?_
    refine AllReadyH.cons rfl (fun K hK => ?_) AllReadyH.nil
    have y0 := (HH.out _ b1).held.cell 0
    simp at y0
    rw [HZ.out] at y0
    go_simp
    clear y0
    refine hK.out _ _ trivial (fun _ => ?_)
    clear hK K
    try simp only [List.getElem_toArray, List.getElem_cons_zero, List.getElem_cons_succ, Act.put, List.setIfInBounds_toArray, List.set_cons_zero, List.set_cons_succ]
    refine wpAnyH_take (i := 4) (v := .int .i64 ((Z : Int) + (E : Int))) rfl (by kernel_rfl) (by kernel_rfl) (by kernel_rfl) (fun _ _ _ h => h) (Or.inl ⟨by rfl, fun W _ => by have hwr := HWR.out; go_simp⟩) trivial ?_
    try simp only [List.getElem_toArray, List.getElem_cons_zero, List.getElem_cons_succ, Act.put, List.setIfInBounds_toArray, List.set_cons_zero, List.set_cons_succ]
    refine wpAnyH_ready (rs := [5]) (by kernel_rfl) (by simp) ?_
    refine AllReadyH.cons rfl (fun K hK => ?_) AllReadyH.nil
    have hh2 := (HH.out _ b1).held
    have y0 := hh2.cell 0
    have yf := hh2.frozen 0
    simp at y0
    rw [HZ.out] at y0
    go_simp
    clear y0 yf
    refine hK.out _ _ trivial (fun _ => ?_)
    clear hK K
    try simp only [List.getElem_toArray, List.getElem_cons_zero, List.getElem_cons_succ, Act.put, List.setIfInBounds_toArray, List.set_cons_zero, List.set_cons_succ]
    refine wpAnyH_done (by kernel_rfl) ?_ _
    go_wp2_with fail
    go_end0
    exact ⟨rfl, left_sum h0 b1 HL.out HZ.out⟩
end Go.Proofs.YtohibmjjhifggaaGreat
namespace Go.Proofs.YtohibmjjhifggaaGreat
open Go.RowKit Go.ChangeShapes Go.WideShapes
/-- The table, where x holds the dictionary. -/
abbrev TabV (x : Nat) : Value := .agg #[.nilFunc, .func (.func 102) #[] #[], .func (.func 104) #[] #[.pointer (some ⟨x, 0, none⟩)]]
set_option maxRecDepth 100000 in
theorem table_any (D : Nat) (w : World) : Calls Tryz.prog 86 #[.pointer (some ⟨D, 0, none⟩)] w fun e w' => ∃ x, e = .returned (TabV x) ∧ Held w' x 140 #[.pointer (some ⟨D, 0, none⟩)] ∧ w.heap.size ≤ x ∧ Below w.heap.size w w' := by
  obtain ⟨N, hN⟩ : ∃ N, w.heap.size = N := ⟨_, rfl⟩
  obtain ⟨w1, hw1⟩ : ∃ w1, w.alloc (.cells #[.pointer (some ⟨D, 0, none⟩)] 140) = w1 := ⟨_, rfl⟩
  have b1 : Below N w w1 := by rw [← hw1]; exact (Below.refl _ _).alloc (by omega) _
  have s1 : w1.heap.size = N + 1 := by rw [← hw1, World.size_alloc, hN]
  have h1 : Held w1 N 140 #[.pointer (some ⟨D, 0, none⟩)] := by rw [← hw1, ← hN]; exact heap_alloc_new w _
  obtain ⟨w2, hw2⟩ : ∃ w2, w1.alloc (.cells #[.nilFunc, .nilFunc, .nilFunc] 144) = w2 := ⟨_, rfl⟩
  have b2 : Below (N + 1) w1 w2 := by rw [← hw2]; exact (Below.refl _ _).alloc (by omega) _
  have h2 : Held w2 (N + 1) 144 #[.nilFunc, .nilFunc, .nilFunc] := by rw [← hw2, ← s1]; exact heap_alloc_new w1 _
  have c0 := h2.cell 0
  have c1 := h2.cell 1
  have c2 := h2.cell 2
  have f0 := h2.frozen 0
  have f1 := h2.frozen 1
  have f2 := h2.frozen 2
  simp at c0 c1 c2
  obtain ⟨F1, hF1⟩ : ∃ F, Value.func (.func 102) #[] #[] = F := ⟨_, rfl⟩
  obtain ⟨F2, hF2⟩ : ∃ F, Value.func (.func 104) #[] #[.pointer (some ⟨N, 0, none⟩)] = F := ⟨_, rfl⟩
  have p0 := h2.put 0 .nilFunc
  have p1 := p0.put 1 F1
  have p2 := p1.put 2 F2
  have q0 : (store ⟨N + 1, 0, none⟩ .nilFunc).run Tryz.prog w2 = .ok () (w2.setCell ⟨N + 1, 0, none⟩ .nilFunc) := by rw [run_store _ _ _ _ _ rfl, c0]; simp [f0]
  have q1 : (store ⟨N + 1, 1, none⟩ F1).run Tryz.prog (w2.setCell ⟨N + 1, 0, none⟩ .nilFunc) = .ok () ((w2.setCell ⟨N + 1, 0, none⟩ .nilFunc).setCell ⟨N + 1, 1, none⟩ F1) := by
    rw [run_store _ _ _ _ _ (by rw [← hF1]; rfl), p0.cell 1]; simp [p0.frozen 1]
  have q2 : (store ⟨N + 1, 2, none⟩ F2).run Tryz.prog ((w2.setCell ⟨N + 1, 0, none⟩ .nilFunc).setCell ⟨N + 1, 1, none⟩ F1) = .ok () (((w2.setCell ⟨N + 1, 0, none⟩ .nilFunc).setCell ⟨N + 1, 1, none⟩ F1).setCell ⟨N + 1, 2, none⟩ F2) := by
    rw [run_store _ _ _ _ _ (by rw [← hF2]; rfl), p1.cell 2]; simp [p1.frozen 2]
  obtain ⟨w3, hw3⟩ : ∃ w3, ((w2.setCell ⟨N + 1, 0, none⟩ .nilFunc).setCell ⟨N + 1, 1, none⟩ F1).setCell ⟨N + 1, 2, none⟩ F2 = w3 := ⟨_, rfl⟩
  rw [hw3] at q2 p2
  have HH1 := Lib.hid (show Held w3 N 140 #[.pointer (some ⟨D, 0, none⟩)] by rw [← hw3]; exact Held.other_put (Held.other_put (Held.other_put (h1.below b2 (by omega)) (by omega) _) (by omega) _) (by omega) _)
  have HB3 := Lib.hid (show Below N w w3 by rw [← hw3]; exact (((b1.trans (b2.mono (by omega))).setCell (Nat.le_succ N) _).setCell (Nat.le_succ N) _).setCell (Nat.le_succ N) _)
  have c0 := p2.cell 0
  have c1 := p2.cell 1
  have c2 := p2.cell 2
  simp at c0 c1 c2
  rw [← hF1] at q1 c1
  rw [← hF2] at q2 c2
  subst hF1 hF2
  rw [hN]
  clear h1 h2 b1 b2 p0 p1 p2 hw3
  go_enter Tryz.func86, Tryz.ntmps86
  go_wp2_with fail
  exact bodyPost_ret (v := TabV N) (by simp [results, Tryz.results86, go_sem, c0, c1, c2]) rfl ⟨N, rfl, HH1.out, Nat.le_refl _, HB3.out⟩
set_option maxRecDepth 100000 in
theorem tab1_any (t n : Int) (s : Value) (h1 : -9223372036854775808 ≤ n) (h2 : n ≤ 9223372036854775807) (w : World) : Calls Tryz.prog 102 #[.agg #[.int .i64 t, .int .i64 n, s]] w fun e w' => e = .returned (.int .u64 (foldI n)) ∧ Below w.heap.size w w' := by
  have HF := Lib.hid (fun W => fold_any n h1 h2 W)
  generalize foldI n = y at HF ⊢
  have ba : Below w.heap.size w (w.alloc (.cells #[.int .i64 t, .int .i64 n, s] 75)) := (Below.refl _ _).alloc (Nat.le_refl _) _
  have hh : Held (w.alloc (.cells #[.int .i64 t, .int .i64 n, s] 75)) w.heap.size 75 #[.int .i64 t, .int .i64 n, s] := heap_alloc_new w _
  obtain ⟨w1, hw1⟩ : ∃ w1, w.alloc (.cells #[.int .i64 t, .int .i64 n, s] 75) = w1 := ⟨_, rfl⟩
  rw [hw1] at ba hh
  have x1 := hh.cell 1
  simp at x1
  go_enter Tryz.func102, Tryz.ntmps102
  go_wp2_with fail
  refine (HF.out _).mono ?_
  rintro e w2 ⟨rfl, rfl⟩
  go_wp2_with fail
  go_ret
  exact ⟨rfl, ba⟩
set_option maxRecDepth 100000 in
theorem tab2_any {b D r x : Nat} {v : Value} {L : List (List Int)} (t n : Int) (s : List Int) (hs : TxB s) (w : World) (hx : Held w x 140 #[.pointer (some ⟨D, 0, none⟩)]) (hd : DictAt w b D r v L) (j : Nat) (hj : placeD L s = (j : Int)) (hl : j < 9223372036854775808) :
    Calls Tryz.prog 104 #[.agg #[.int .i64 t, .int .i64 n, .string (strOfNums s)], .pointer (some ⟨x, 0, none⟩)] w fun e w' => e = .returned (.int .u64 j) ∧ Below w.heap.size w w' := by
  have ba : Below w.heap.size w (w.alloc (.cells #[.int .i64 t, .int .i64 n, .string (strOfNums s)] 75)) := (Below.refl _ _).alloc (Nat.le_refl _) _
  have hh : Held (w.alloc (.cells #[.int .i64 t, .int .i64 n, .string (strOfNums s)] 75)) w.heap.size 75 #[.int .i64 t, .int .i64 n, .string (strOfNums s)] := heap_alloc_new w _
  have hxl := hx.lt
  obtain ⟨w1, hw1⟩ : ∃ w1, w.alloc (.cells #[.int .i64 t, .int .i64 n, .string (strOfNums s)] 75) = w1 := ⟨_, rfl⟩
  rw [hw1] at ba hh
  have HF := dfind_any (hd.below ba) s hs
  rw [hj, if_neg (by omega), decide_eq_true (by omega)] at HF
  have HF := Lib.hid HF
  have x2 := hh.cell 2
  have y0 := (hx.below ba hxl).cell 0
  simp at x2 y0
  clear hd hx hj
  go_enter Tryz.func104, Tryz.ntmps104
  go_wp2_with fail
  refine HF.out.mono ?_
  rintro e w2 ⟨rfl, rfl⟩
  go_wp2_with fail
  go_ret
  exact ⟨rfl, ba⟩
/-- A function value is stored. -/
theorem store_func {P : Program} {w : World} {b i : Nat} {t : TypeId} {cs : Array Value} {u f : Value} (h : Held w b t cs) (hi : cs[i]? = some u) (hf : f.oneCell' = true) : (store ⟨b, i, none⟩ f).run P w = .ok () (w.setCell ⟨b, i, none⟩ f) := by
  rw [run_store _ _ _ _ _ hf, h.cell i, hi]
  simp [h.frozen i]
/-- What the table's variable is, laid and written. -/
theorem lay_table (w : World) (N x : Nat) (hN : w.heap.size = N) : ∃ w3, (store ⟨N, 0, none⟩ .nilFunc).run Tryz.prog (w.alloc (.cells #[.nilFunc, .nilFunc, .nilFunc] 144)) = .ok () (w.alloc (.cells #[.nilFunc, .nilFunc, .nilFunc] 144))
    ∧ (store ⟨N, 1, none⟩ (.func (.func 102) #[] #[])).run Tryz.prog (w.alloc (.cells #[.nilFunc, .nilFunc, .nilFunc] 144)) = .ok () (w.alloc (.cells #[.nilFunc, .func (.func 102) #[] #[], .nilFunc] 144))
    ∧ (store ⟨N, 2, none⟩ (.func (.func 104) #[] #[.pointer (some ⟨x, 0, none⟩)])).run Tryz.prog (w.alloc (.cells #[.nilFunc, .func (.func 102) #[] #[], .nilFunc] 144)) = .ok () w3
    ∧ Held w3 N 144 #[.nilFunc, .func (.func 102) #[] #[], .func (.func 104) #[] #[.pointer (some ⟨x, 0, none⟩)]] ∧ Below N w w3 ∧ w3.heap.size = N + 1 := by
  subst hN
  have h0 : Held (w.alloc (.cells #[.nilFunc, .nilFunc, .nilFunc] 144)) w.heap.size 144 #[.nilFunc, .nilFunc, .nilFunc] := heap_alloc_new w _
  have h1 : Held (w.alloc (.cells #[.nilFunc, .func (.func 102) #[] #[], .nilFunc] 144)) w.heap.size 144 #[.nilFunc, .func (.func 102) #[] #[], .nilFunc] := heap_alloc_new w _
  have q0 := store_func (P := Tryz.prog) (i := 0) (f := .nilFunc) h0 rfl rfl
  have q1 := store_func (P := Tryz.prog) (i := 1) (f := .func (.func 102) #[] #[]) h0 rfl rfl
  have q2 := store_func (P := Tryz.prog) (i := 2) (f := .func (.func 104) #[] #[.pointer (some ⟨x, 0, none⟩)]) h1 rfl rfl
  rw [World.setCell_alloc_new] at q0 q1 q2
  exact ⟨w.alloc (.cells #[.nilFunc, .func (.func 102) #[] #[], .func (.func 104) #[] #[.pointer (some ⟨x, 0, none⟩)]] 144), by simpa using q0, by simpa using q1, by simpa using q2, heap_alloc_new w _, (Below.refl _ _).alloc (Nat.le_refl _) _, by simp⟩
/-- What a writer's variable is, laid and written. -/
theorem lay_writer (w : World) (N : Nat) (f1 f2 : Value) (h1 : f1.oneCell' = true) (h2 : f2.oneCell' = true) (hN : w.heap.size = N) : ∃ w3, (store ⟨N, 0, none⟩ f1).run Tryz.prog (w.alloc (.cells #[.nilFunc, .nilFunc] 121)) = .ok () (w.alloc (.cells #[f1, .nilFunc] 121))
    ∧ (store ⟨N, 1, none⟩ f2).run Tryz.prog (w.alloc (.cells #[f1, .nilFunc] 121)) = .ok () w3
    ∧ Held w3 N 121 #[f1, f2] ∧ Below N w w3 ∧ w3.heap.size = N + 1 := by
  subst hN
  have i0 : Held (w.alloc (.cells #[.nilFunc, .nilFunc] 121)) w.heap.size 121 #[.nilFunc, .nilFunc] := heap_alloc_new w _
  have i1 : Held (w.alloc (.cells #[f1, .nilFunc] 121)) w.heap.size 121 #[f1, .nilFunc] := heap_alloc_new w _
  have q0 := store_func (P := Tryz.prog) (i := 0) (f := f1) i0 rfl h1
  have q1 := store_func (P := Tryz.prog) (i := 1) (f := f2) i1 rfl h2
  rw [World.setCell_alloc_new] at q0 q1
  exact ⟨w.alloc (.cells #[f1, f2] 121), by simpa using q0, by simpa using q1, heap_alloc_new w _, (Below.refl _ _).alloc (Nat.le_refl _) _, by simp⟩
abbrev TabVc (x : Nat) : Array Value := #[.nilFunc, .func (.func 102) #[] #[], .func (.func 104) #[] #[.pointer (some ⟨x, 0, none⟩)]]
abbrev argC (a : Ag) : Array Value := #[.int .i64 a.t, .int .i64 a.n, .string (strOfNums a.s)]
end Go.Proofs.YtohibmjjhifggaaGreat
