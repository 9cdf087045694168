/-
  unblock.Base: the first time of a payload.
-/
import Derived.Test.YtfknibjejnmghaaGreatGet
import Derived.WalkKit
namespace Go.Proofs.YtfknibjejnmghaaGreat
open Go.RowKit
set_option linter.unusedVariables false

set_option maxRecDepth 100000 in
set_option maxHeartbeats 1000000 in
theorem ubase_any (A : Option Addr) (c : Nat) (xs : List Int) (w : World) (hrow : Row w w.heap.size (.slice A xs.length c) xs) (hb : ∀ x ∈ xs, 0 ≤ x ∧ x < 256) :
    Calls Tryz.prog 8 #[.slice A xs.length c] w fun e W' => e = .returned (.tuple #[.int .u64 (getI xs).1, .int .i64 (getI xs).2.2]) ∧ Below w.heap.size w W' := by
  have HG := Lib.hid (get_any A c xs w hrow hb)
  generalize getI xs = t at HG ⊢
  clear hrow hb
  go_enter Tryz.func8, Tryz.ntmps8
  go_wp2_with fail
  refine HG.out.mono ?_
  rintro r w1 ⟨rfl, hb1⟩
  have HB := Lib.hid hb1
  clear hb1
  go_wp2_with fail
  exact bodyPost_ret (v := .tuple #[.int .u64 t.1, .int .i64 t.2.2]) (by simp [results, Tryz.results8, go_sem]) rfl ⟨rfl, HB.out⟩
#print axioms ubase_any
end Go.Proofs.YtfknibjejnmghaaGreat
