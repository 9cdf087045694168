/-
  Two arrays of three numbers that are the same.
-/
import Derived.Test.YtcegnkbafbepbaaTraceRefCnt
import Derived.ChangeKeysEq
import Derived.Stop.BytesEq
import Derived.WalkKit
namespace Go.Proofs.Ytcegnkbafbepbaa
open Go.RowKit

theorem run_equal_three (w : World) (a b c : Int) : (Op.equalIn 10000 34 (.agg #[.int .i64 a, .int .i64 b, .int .i64 c]) (.agg #[.int .i64 a, .int .i64 b, .int .i64 c])).run Try.prog w = .ok true w := by
  have he : ∀ (W : World) (x y : Int), (Op.equalIn 9999 3 (.int .i64 x) (.int .i64 y)).run Try.prog W = .ok (x == y) W := fun W x y => by
    rw [run_equalIn_int W 9998 3 .i64 .i64 x y Try.underlying3]
  have hp : ∀ (W : World) (cs : Array Value) (i : Nat) (v : Value), cs[i]? = some v → (part 3 cs i).run Try.prog W = .ok v W := fun W cs i v hv => by
    simp [part, isAgg, run_underlying Try.underlying3, hv]
  have hc : Try.prog.cellsOf 3 = 1 := by kernel_rfl
  obtain ⟨i0, hi, hz0, hz1, hz2⟩ := info_parts Try.infoIntB
  rw [run_equalIn_array w 9999 _ _ Try.underlying34 hi, hc]
  simp only [List.range, List.range.loop, Op.eqItems, Sem.run_bind]
  rw [hp w _ _ _ (by rfl : (#[Value.int .i64 a, .int .i64 b, .int .i64 c])[0 * 1]? = some (.int .i64 a))]
  simp [hp, he]
theorem exec_neq_three (w : World) (a : Act) (o : Oper) (i j : Nat) (X Y Z : Int) (ho : o.op = .binOp .neq 34 (.tmp i) (.tmp j) 34) (h1 : a.tmps[i]? = some (.agg #[.int .i64 X, .int .i64 Y, .int .i64 Z])) (h2 : a.tmps[j]? = some (.agg #[.int .i64 X, .int .i64 Y, .int .i64 Z])) :
    (execOp a.eval o).run Try.prog w = .ok (.value (.bool false)) w := by
  obtain ⟨d, op, ty, pos, af, gd⟩ := o
  dsimp only at ho
  subst ho
  have h3 := run_equal_three w X Y Z
  have e1 : a.tmps.getD i undef = .agg #[.int .i64 X, .int .i64 Y, .int .i64 Z] := by simp [Array.getD_eq_getD_getElem?, h1]
  have e2 : a.tmps.getD j undef = .agg #[.int .i64 X, .int .i64 Y, .int .i64 Z] := by simp [Array.getD_eq_getD_getElem?, h2]
  clear h1 h2
  go_simp
end Go.Proofs.Ytcegnkbafbepbaa
