/-
  Slices whose elements take one cell each: what such a one reads as, and how that is kept; a slice of texts that came in. No program here.
-/
import Derived.Test.YtpphgmddancocaaText
import Derived.Deep.AppendLies
namespace Go.Proofs.Ytpphgmddancocaa
open Go.RowKit

/-- The slice value v reads as the cells us; they lie in a block below B. -/
def VRow (w : World) (B : Nat) (v : Value) (us : List Value) : Prop :=
  ∃ A c, v = .slice A us.length c ∧ us.length ≤ c ∧ c ≤ maxLen ∧ (A = none → c = 0) ∧
    (0 < us.length → ∃ b o, A = some ⟨b, o, none⟩ ∧ b < B ∧ ∀ i u, us[i]? = some u → w.cell? ⟨b, o + i, none⟩ = some u)

section
variable {w w' : World} {B B' : Nat} {v : Value} {us : List Value}
theorem VRow.keep (h : VRow w B v us) (hk : ∀ p : Addr, p.block < B → w'.cell? p = w.cell? p) : VRow w' B v us := by
  obtain ⟨A, c, hv, h1, h2, h3, h4⟩ := h
  refine ⟨A, c, hv, h1, h2, h3, fun hn => ?_⟩
  obtain ⟨b, o, e, hb, hc⟩ := h4 hn
  exact ⟨b, o, e, hb, fun i u hi => (hk ⟨b, o + i, none⟩ hb).trans (hc i u hi)⟩
theorem VRow.below (h : VRow w B v us) (hb : Below B w w') : VRow w' B v us := h.keep fun _ hp => hb.cell hp
theorem VRow.more (h : VRow w B v us) (hB : B ≤ B') : VRow w B' v us := by
  obtain ⟨A, c, hv, h1, h2, h3, h4⟩ := h
  refine ⟨A, c, hv, h1, h2, h3, fun hn => ?_⟩
  obtain ⟨b, o, e, hb, hc⟩ := h4 hn
  exact ⟨b, o, e, by omega, hc⟩
theorem VRow.nil (w : World) (B : Nat) : VRow w B (.slice none 0 0) [] := ⟨none, 0, rfl, Nat.le_refl _, Nat.zero_le _, fun _ => rfl, fun h => absurd h (by simp)⟩
theorem VRow.of_own {base : Nat} {e : TypeId} {n : Nat} (h : w.ownsRow base e 1 v n us) : VRow w w.heap.size v us := by
  have hl : us.length = n := by have := h.1; simpa using this
  subst hl
  have h' := h
  rcases h.2 with ⟨rfl, h0⟩ | ⟨g, cap, cur, rfl, _, hg, hnc, hcm, _, _⟩
  · obtain rfl : us = [] := List.eq_nil_of_length_eq_zero h0
    exact VRow.nil _ _
  · refine ⟨some ⟨g, 0, none⟩, cap, rfl, hnc, hcm, by simp, fun _ => ⟨g, 0, rfl, (Array.getElem?_eq_some_iff.1 hg).1, fun i u hi => ?_⟩⟩
    have hlt := (List.getElem?_eq_some_iff.1 hi).1
    rw [show 0 + i = i by omega, h'.cellAt i (by omega), hi]
theorem VRow.take {A : Option Addr} {n c : Nat} (h : VRow w B (.slice A n c) us) {k : Nat} (hk : k ≤ us.length) : VRow w B (.slice A (us.take k).length c) (us.take k) := by
  obtain ⟨A', c', hv, h1, h2, h3, h4⟩ := h
  injection hv with e1 e2 e3
  subst e1 e3
  have hl : (us.take k).length = k := by simp; omega
  refine ⟨A, c, rfl, by omega, h2, h3, fun hn => ?_⟩
  obtain ⟨b, o, e, hb, hc⟩ := h4 (by omega)
  refine ⟨b, o, e, hb, fun i u hi => hc i u ?_⟩
  have hlt := (List.getElem?_eq_some_iff.1 hi).1
  rw [List.getElem?_take, if_pos (by omega)] at hi
  exact hi
theorem VRow.length {A : Option Addr} {n c : Nat} (h : VRow w B (.slice A n c) us) : n = us.length ∧ us.length ≤ c ∧ c ≤ 9223372036854775807 := by
  obtain ⟨A', c', hv, h1, h2, h3, h4⟩ := h
  injection hv with e1 e2 e3
  subst e3
  unfold maxLen at h2
  exact ⟨e2, h1, by omega⟩
theorem VRow.form (h : VRow w B v us) : ∃ A c, v = .slice A us.length c ∧ us.length ≤ c ∧ c ≤ 9223372036854775807 := by
  obtain ⟨A', c', hv, h1, h2, h3, h4⟩ := h
  unfold maxLen at h2
  exact ⟨A', c', hv, h1, by omega⟩
end

/-- A row of the call's own is kept where what lay in memory is. -/
theorem own_below {w w' : World} {base : Nat} {e : TypeId} {size n : Nat} {v : Value} {us : List Value} (h : w.ownsRow base e size v n us) (hb : Below w.heap.size w w') : w'.ownsRow base e size v n us :=
  h.kept (row := none) ⟨hb.os, hb.tape, hb.output, hb.size, fun k hk _ => hb.block k hk⟩ (Classical.em _)

/-- A text as a cell. -/
def strV (t : List Int) : Value := .string (strOfNums t)
/-- Texts as cells. -/
def strVs (l : List (List Int)) : List Value := l.map strV
theorem strVs_length (l : List (List Int)) : (strVs l).length = l.length := by simp [strVs]
theorem strVs_take (l : List (List Int)) (k : Nat) : (strVs l).take k = strVs (l.take k) := by simp [strVs, List.map_take]
theorem strVs_at (l : List (List Int)) {k : Nat} {t : List Int} (h : l[k]? = some t) : (strVs l)[k]? = some (.string (strOfNums t)) := by simp [strVs, strV, h]
theorem strVs_str (l : List (List Int)) : ∀ u ∈ strVs l, ∃ s, u = .string s := fun u hu => by
  obtain ⟨t, _, rfl⟩ := List.mem_map.1 hu
  exact ⟨_, rfl⟩
theorem strVs_snoc (l : List (List Int)) (t : List Int) : strVs (l ++ [t]) = strVs l ++ [.string (strOfNums t)] := by simp [strVs, strV]

/-- A slice of texts that came in: it is nil, or it leads to cells. -/
def IsStrs (w : World) (a : Option Addr) (len cap : Nat) (ss : List ByteArray) : Prop :=
  (a = none ∧ len = 0 ∧ cap = 0 ∧ ss = []) ∨
  ∃ x, a = some x ∧ len ≤ cap ∧ cap ≤ maxLen ∧ ss.length = cap ∧ (∀ i, i < ss.length → w.cell? (x.add i) = some (.string (ss.getD i ByteArray.empty))) ∧ ∀ s ∈ ss, s.size ≤ maxLen
theorem VRow.of_strs {w : World} {a : Option Addr} {len cap : Nat} {ss : List ByteArray} (h : IsStrs w a len cap ss) :
    ∃ ts : List (List Int), ts.length = len ∧ VRow w w.heap.size (.slice a len cap) (strVs ts) ∧ ∀ t ∈ ts, t.length ≤ maxLen ∧ ∀ x ∈ t, 0 ≤ x ∧ x < 256 := by
  rcases h with ⟨rfl, rfl, rfl, rfl⟩ | ⟨x, rfl, hl, hm, hz, hc, hw⟩
  · exact ⟨[], rfl, VRow.nil _ _, by simp⟩
  · have hlen : ((ss.take len).map numsOf).length = len := by simp; omega
    refine ⟨(ss.take len).map numsOf, hlen, ⟨some x, cap, by rw [strVs_length, hlen], by rw [strVs_length, hlen]; exact hl, hm, by simp, fun hn => ?_⟩, fun t ht => ?_⟩
    · rw [strVs_length, hlen] at hn
      obtain ⟨b, o, sp⟩ := x
      have h0 := hc 0 (by omega)
      have hs : sp = none := by simpa [Addr.add] using World.cell?_spot h0
      subst hs
      refine ⟨b, o, rfl, World.block_lt_of_cell? w ⟨b, o, none⟩ (by simpa [Addr.add] using h0), fun i u hi => ?_⟩
      have hlt := (List.getElem?_eq_some_iff.1 hi).1
      rw [strVs_length, hlen] at hlt
      have hi' := hc i (by omega)
      rw [Go.WideShapes.add_plain] at hi'
      rw [hi']
      have hget : ss[i]? = some (ss[i]'(by omega)) := List.getElem?_eq_getElem (by omega)
      simp only [strVs, strV, List.map_map, List.getElem?_map, List.getElem?_take, if_pos hlt, hget, Option.map_some, Function.comp, str_numsOf, Option.some.injEq] at hi
      rw [← hi, List.getD, hget]
      rfl
    · obtain ⟨s, hs, rfl⟩ := List.mem_map.1 ht
      exact ⟨by rw [numsOf_length]; exact hw s (List.mem_of_mem_take hs), numsOf_bytes s⟩
end Go.Proofs.Ytpphgmddancocaa
