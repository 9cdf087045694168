/-
  Two arrays of four bytes, held against each other.
-/
import Derived.Test.YtnjhkjlekepjoaaCrcRef
import Derived.Test.YtnjhkjlekepjoaaPutCode
import Derived.ChangeKeysEq
import Derived.Stop.BytesEq
namespace Go.Proofs.Ytnjhkjlekepjoaa
open Go.RowKit

theorem run_neq_four (w : World) (a0 a1 a2 a3 b0 b1 b2 b3 : Int) :
    (binOp .neq 99 (.agg #[.int .u8 a0, .int .u8 a1, .int .u8 a2, .int .u8 a3]) (.agg #[.int .u8 b0, .int .u8 b1, .int .u8 b2, .int .u8 b3])).run Try.prog w = .ok (.bool (!(a0 == b0 && (a1 == b1 && (a2 == b2 && a3 == b3))))) w := by
  have he : ∀ (W : World) (x y : Int), (Op.equalIn 9999 5 (.int .u8 x) (.int .u8 y)).run Try.prog W = .ok (x == y) W := fun W x y => by
    rw [run_equalIn_int W 9998 5 .u8 .u8 x y Try.underlying5]
  have hp : ∀ (W : World) (cs : Array Value) (i : Nat) (v : Value), cs[i]? = some v → (part 5 cs i).run Try.prog W = .ok v W := fun W cs i v hv => by
    simp [part, isAgg, run_underlying Try.underlying5, hv]
  have hc : Try.prog.cellsOf 5 = 1 := by kernel_rfl
  obtain ⟨i0, hi, hz0, hz1, hz2⟩ := info_parts Try.infoU8
  rw [run_neq_struct, run_equalIn_array w 9999 _ _ Try.underlying99 hi, hc]
  simp only [List.range, List.range.loop, Op.eqItems, Sem.run_bind]
  rw [hp w _ _ _ (by rfl : (#[Value.int .u8 a0, .int .u8 a1, .int .u8 a2, .int .u8 a3])[0 * 1]? = some (.int .u8 a0))]
  simp [hp, he]
  cases h0 : (a0 == b0) <;> cases h1 : (a1 == b1) <;> cases h2 : (a2 == b2) <;> cases h3 : (a3 == b3) <;> simp_all
end Go.Proofs.Ytnjhkjlekepjoaa
