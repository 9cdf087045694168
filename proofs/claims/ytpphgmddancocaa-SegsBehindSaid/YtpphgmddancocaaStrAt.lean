/-
  The byte at a place of a text that is given by its bytes' numbers. No program here.
-/
import Derived.Laws.BytesArg
import Derived.OpenShut
namespace Go.Proofs.Ytpphgmddancocaa
open Go.RowKit

/-- The byte at a place of such a text. -/
theorem str_at (xs : List Int) (hb : ∀ x ∈ xs, 0 ≤ x ∧ x < 256) (k : Nat) (hk : k < xs.length) (h : k < (strOfNums xs).size) : ((strOfNums xs)[k].toNat : Int) = xs.getD k 0 := by
  have e : (strOfNums xs)[k] = UInt8.ofNat (xs.getD k 0).toNat := by
    show (strOfNums xs).data[k] = _
    simp [strOfNums, List.getD, List.getElem?_eq_getElem hk]
  have hx : xs.getD k 0 ∈ xs := by rw [List.getD, List.getElem?_eq_getElem hk]; simp
  have := hb _ hx
  rw [e, UInt8.toNat_ofNat']
  omega

end Go.Proofs.Ytpphgmddancocaa
