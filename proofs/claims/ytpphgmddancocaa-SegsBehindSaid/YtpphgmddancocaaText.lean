/-
  Texts: a text is its bytes' numbers; what is cut out of one; bytes behind those of a slice of the call's own; a slice without its front. No program here.
-/
import Derived.Test.YtpphgmddancocaaArg
import Derived.Lib.AppendStr
namespace Go.Proofs.Ytpphgmddancocaa
open Go.RowKit

/-- A text's bytes as numbers. -/
def numsOf (s : ByteArray) : List Int := s.data.toList.map fun b => (b.toNat : Int)
theorem numsOf_length (s : ByteArray) : (numsOf s).length = s.size := by rw [numsOf, List.length_map, Array.length_toList]; rfl
theorem numsOf_bytes (s : ByteArray) : ∀ x ∈ numsOf s, 0 ≤ x ∧ x < 256 := by
  intro x hx
  obtain ⟨b, _, rfl⟩ := List.mem_map.1 hx
  have := b.toNat_lt
  omega
theorem str_numsOf (s : ByteArray) : strOfNums (numsOf s) = s := by
  apply ByteArray.ext
  apply Array.ext'
  rw [strOfNums_data]
  simp only [numsOf, List.map_map]
  conv => rhs; rw [← List.map_id s.data.toList]
  apply List.map_congr_left
  intro b _
  simp
theorem text_of (s : ByteArray) : ∃ xs : List Int, s = strOfNums xs ∧ xs.length = s.size ∧ ∀ x ∈ xs, 0 ≤ x ∧ x < 256 := ⟨numsOf s, (str_numsOf s).symm, numsOf_length s, numsOf_bytes s⟩

theorem nums_str (xs : List Int) (hb : ∀ x ∈ xs, 0 ≤ x ∧ x < 256) : numsOf (strOfNums xs) = xs := by
  rw [numsOf, strOfNums_data, List.map_map]
  conv => rhs; rw [← List.map_id xs]
  apply List.map_congr_left
  intro x hx
  have := hb x hx
  simp only [Function.comp, id]
  rw [UInt8.toNat_ofNat']
  omega
theorem str_inj {xs ys : List Int} (hx : ∀ x ∈ xs, 0 ≤ x ∧ x < 256) (hy : ∀ y ∈ ys, 0 ≤ y ∧ y < 256) (h : strOfNums xs = strOfNums ys) : xs = ys := by
  rw [← nums_str xs hx, ← nums_str ys hy, h]
theorem strCells_nums (xs : List Int) (hb : ∀ x ∈ xs, 0 ≤ x ∧ x < 256) : Lib.strCells (strOfNums xs) = xs.map (.int .u8) := by
  have h : Lib.strCells (strOfNums xs) = (numsOf (strOfNums xs)).map (.int .u8) := by simp [Lib.strCells, numsOf]
  rw [h, nums_str xs hb]
theorem str_cut (xs : List Int) (i j : Nat) : (strOfNums xs).extract i j = strOfNums ((xs.take j).drop i) := by
  apply ByteArray.ext
  apply Array.ext'
  rw [strOfNums_data, ByteArray.data_extract, Array.toList_extract, strOfNums_data]
  simp [List.map_take, List.map_drop, List.extract_eq_take_drop, List.drop_take]

/-- A slice without its front. -/
theorem Row.drop {w : World} {B : Nat} {A : Option Addr} {n c : Nat} {xs : List Int} (h : Row w B (.slice A n c) xs) {k : Nat} (hk : k ≤ xs.length) :
    Row w B (.slice (if c = k then A else A.map (·.add k)) (xs.drop k).length (c - k)) (xs.drop k) := by
  obtain ⟨A', c', hv, h1, h2, h3, h4⟩ := h
  injection hv with e1 e2 e3
  subst e1 e3
  have hl : (xs.drop k).length = xs.length - k := by simp
  refine ⟨_, _, rfl, by omega, by omega, fun h => ?_, fun hn => ?_⟩
  · by_cases e : c = k
    · omega
    · rw [if_neg e] at h
      cases A with
      | none => have := h3 rfl; omega
      | some a => simp at h
  · obtain ⟨b, o, rfl, hb, hc⟩ := h4 (by omega)
    rw [if_neg (by omega)]
    refine ⟨b, o + k, ?_, hb, fun i hi => ?_⟩
    · rw [Option.map_some, Go.WideShapes.add_plain]
    · rw [Nat.add_assoc, hc (k + i) (by omega)]
      simp [List.getD, List.getElem?_drop]
end Go.Proofs.Ytpphgmddancocaa
