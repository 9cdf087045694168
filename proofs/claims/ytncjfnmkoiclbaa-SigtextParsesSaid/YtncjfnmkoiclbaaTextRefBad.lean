/-
  The document's error at a place.
-/
import Derived.Test.YtncjfnmkoiclbaaTextRefPred
namespace Go.Proofs.Ytncjfnmkoiclbaa
open Go.RowKit

set_option maxRecDepth 100000 in
set_option maxHeartbeats 1000000 in
theorem rbad_any (k l c : Int) (w : World) : Calls Try.prog 35 #[.int .i64 k, .int .i64 l, .int .i64 c] w fun e w' => e = .returned (.agg #[.slice none 0 0, .int .i64 k, .int .i64 l, .int .i64 c]) ∧ Below w.heap.size w w' := by
  go_enter Try.func35, Try.ntmps35
  go_wp2_with fail
  exact bodyPost_ret (v := .agg #[.slice none 0 0, .int .i64 k, .int .i64 l, .int .i64 c]) (by simp [results, Try.results35, go_sem]) rfl ⟨rfl, (Below.refl _ _).alloc (Nat.le_refl _) _⟩
#print axioms rbad_any
end Go.Proofs.Ytncjfnmkoiclbaa
