/-
  wire.Put and wire.Size, outside any fence.
-/
import Derived.Test.YtnjhkjlekepjoaaPut
namespace Go.Proofs.Ytnjhkjlekepjoaa
open Go.RowKit Go.Shelf

theorem put_any (A : Option Addr) (c : Nat) (xs : List Int) (n : Nat) (hn : n < 18446744073709551616) (hsm : xs.length ≤ 100000000000) (w : World) (hrow : Row w w.heap.size (.slice A xs.length c) xs) :
    Calls Try.prog 17 #[.slice A xs.length c, .int .u64 n] w fun e W' => ∃ v, e = .returned v ∧ W'.ownsRow w.heap.size 5 1 v (xs.length + (encI n).length) ((xs ++ encI n).map (.int .u8)) ∧ Below w.heap.size w W' :=
  callsIn_wide.1 (put_in Fence.wide 5 trivial trivial trivial trivial rfl (by omega) A c xs n hn hsm w hrow)
theorem size_any (n : Nat) (hn : n < 18446744073709551616) (w : World) :
    Calls Try.prog 41 #[.int .u64 n] w fun e W' => e = .returned (.int .i64 (encI n).length) ∧ Below w.heap.size w W' :=
  callsIn_wide.1 (size_in Fence.wide 5 trivial trivial trivial rfl (by omega) n hn w)

/-- Put(nil, n). -/
theorem put_nil (n : Nat) (hn : n < 18446744073709551616) (w : World) :
    Calls Try.prog 17 #[.slice none 0 0, .int .u64 n] w fun e W' => ∃ v, e = .returned v ∧ W'.ownsRow w.heap.size 5 1 v (encI n).length ((encI n).map (.int .u8)) ∧ Below w.heap.size w W' := by
  have h := put_any none 0 [] n hn (by simp) w (Row.nil _ _)
  simpa using h

end Go.Proofs.Ytnjhkjlekepjoaa
