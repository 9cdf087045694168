/-
  Byte and Text of a cursor: what each call answers, and what has become of the cursor.
-/
import Derived.Test.YtnjhkjlekepjoaaCurTakeB
import Derived.Test.YtnjhkjlekepjoaaCurTakeT
namespace Go.Proofs.Ytnjhkjlekepjoaa
open Go.RowKit

section
variable {K g : Nat} {xs : List Int} {p : Nat} {e : Int} {w : World}

theorem byte_any (h : Cur 92 w K g xs p e) (hp : p ≤ xs.length) (hK : K ≤ g) (hb : ∀ x ∈ xs, 0 ≤ x ∧ x < 256) :
    Calls Try.prog 56 #[.pointer (some ⟨g, 0, none⟩)] w (Took u8V w K g xs (tk 0 p e (getB (xs.drop p)))) := by
  have HT := Lib.hid (take_b_any h hp hK hb); clear h hb
  go_enter Try.func56, Try.ntmps56
  go_wp2_with fail
  refine HT.out.mono ?_
  rintro r w1 ⟨rfl, hc1, hg1⟩
  go_wp2_with fail
  go_ret
  exact ⟨rfl, hc1, hg1⟩

theorem grown_alloc (w : World) (o : Obj) (row : Option Nat) : w.grownBy (w.alloc o) row := grown_below ((Below.refl _ _).alloc (Nat.le_refl _) o) row

theorem text_any (most : Int) (hm0 : -9223372036854775808 ≤ most) (hm1 : most ≤ 9223372036854775807) (h : Cur 92 w K g xs p e) (hp : p ≤ xs.length) (hK : K ≤ g) (hb : ∀ x ∈ xs, 0 ≤ x ∧ x < 256) :
    Calls Try.prog 52 #[.pointer (some ⟨g, 0, none⟩), .int .i64 most] w (Took txtV w K g xs (tk [] p e (getT most (xs.drop p)))) := by
  have h1 := h.below ((Below.refl _ _).alloc (Nat.le_refl _) (.cells #[.int .i64 most] 3)) hK
  have HT := Lib.hid (take_t_any most hm0 hm1 w.heap.size h1 hp hK hb (by simp [World.cell?_alloc_new])); clear h h1 hb
  go_enter Try.func52, Try.ntmps52
  go_wp2_with fail
  refine HT.out.mono ?_
  rintro r w1 ⟨rfl, hc1, hg1⟩
  go_wp2_with fail
  go_ret
  exact ⟨rfl, hc1, grown_trans (grown_alloc _ _ _) hg1⟩
end
#print axioms byte_any
#print axioms text_any
end Go.Proofs.Ytnjhkjlekepjoaa
