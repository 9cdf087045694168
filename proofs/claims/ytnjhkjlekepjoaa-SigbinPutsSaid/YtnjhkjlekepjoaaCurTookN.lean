/-
  Number of a cursor: what it answers, and what has become of the cursor.
-/
import Derived.Test.YtnjhkjlekepjoaaCurTook
import Derived.Test.YtnjhkjlekepjoaaCurTakeN
namespace Go.Proofs.Ytnjhkjlekepjoaa
open Go.RowKit

section
variable {K g : Nat} {xs : List Int} {p : Nat} {e : Int} {w : World}

theorem number_any (most : Int) (h : Cur 92 w K g xs p e) (hp : p ≤ xs.length) (hK : K ≤ g) (hb : ∀ x ∈ xs, 0 ≤ x ∧ x < 256) :
    Calls Try.prog 51 #[.pointer (some ⟨g, 0, none⟩), .int .u64 most] w (Took u64V w K g xs (tk 0 p e (getN most (xs.drop p)))) := by
  have h1 := h.below ((Below.refl _ _).alloc (Nat.le_refl _) (.cells #[.int .u64 most] 48)) hK
  have HT := Lib.hid (take_n_any most w.heap.size h1 hp hK hb (by simp [World.cell?_alloc_new])); clear h h1 hb
  go_enter Try.func51, Try.ntmps51
  go_wp2_with fail
  refine HT.out.mono ?_
  rintro r w1 ⟨rfl, hc1, hg1⟩
  go_wp2_with fail
  go_ret
  exact ⟨rfl, hc1, grown_trans (grown_alloc _ _ _) hg1⟩

end
#print axioms number_any
end Go.Proofs.Ytnjhkjlekepjoaa
