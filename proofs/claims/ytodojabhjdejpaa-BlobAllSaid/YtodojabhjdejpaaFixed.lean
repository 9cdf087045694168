/-
  The chapter's two examples, which each statement of this layer asks again: they are met, whatever the world.
-/
import Derived.Test.YtodojabhjdejpaaPut
import Derived.Test.YtodojabhjdejpaaFolds
namespace Go.Proofs.Ytodojabhjdejpaa
open Go.RowKit Go.Shelf

theorem put_any (A : Option Addr) (c : Nat) (xs : List Int) (n : Nat) (hn : n < 18446744073709551616) (hsm : xs.length ≤ 100000000000) (w : World) (hrow : Row w w.heap.size (.slice A xs.length c) xs) :
    Calls Try.prog 11 #[.slice A xs.length c, .int .u64 n] w fun e W' => ∃ v, e = .returned v ∧ W'.ownsRow w.heap.size 5 1 v (xs.length + (encI n).length) ((xs ++ encI n).map (.int .u8)) ∧ Below w.heap.size w W' :=
  callsIn_wide.1 (put_in Fence.wide 5 trivial trivial trivial trivial rfl (by omega) A c xs n hn hsm w hrow)
theorem size_any (n : Nat) (hn : n < 18446744073709551616) (w : World) :
    Calls Try.prog 14 #[.int .u64 n] w fun e W' => e = .returned (.int .i64 (encI n).length) ∧ Below w.heap.size w W' :=
  callsIn_wide.1 (size_in Fence.wide 5 trivial trivial trivial rfl (by omega) n hn w)

/-- Put(nil, n). -/
theorem put_nil (n : Nat) (hn : n < 18446744073709551616) (w : World) :
    Calls Try.prog 11 #[.slice none 0 0, .int .u64 n] w fun e W' => ∃ v, e = .returned v ∧ W'.ownsRow w.heap.size 5 1 v (encI n).length ((encI n).map (.int .u8)) ∧ Below w.heap.size w W' := by
  have h := put_any none 0 [] n hn (by simp) w (Row.nil _ _)
  simpa using h

theorem encI_300 : encI 300 = [172, 2] := by
  rw [encI_great (by omega), encI_small (by omega)]; rfl
theorem str_300 : strOfNums [172, 2] = ⟨#[172, 2]⟩ := by decide +kernel
theorem fold_m3 : foldI (-3) = 5 := by decide

theorem put_300 (w : World) :
    Calls Try.prog 11 #[.slice none 0 0, .int .u64 300] w fun e W' => ∃ v, e = .returned v ∧ (convert 22 9 v).run Try.prog W' = .ok (.string ⟨#[172, 2]⟩) W' ∧ Below w.heap.size w W' := by
  refine (put_nil 300 (by omega) w).mono ?_
  rintro e W' ⟨v, rfl, hown, hb⟩
  rw [encI_300] at hown
  refine ⟨v, rfl, ?_, hb⟩
  have := (Row.of_own (xs := [172, 2]) hown).convert (P := Try.prog) 22 5 9 Try.underlying22 Try.underlying5 Try.underlying9
  rwa [str_300] at this

theorem fold_3 (w : World) : Calls Try.prog 16 #[.int .i64 (-3)] w fun e w' => e = .returned (.int .u64 5) ∧ w = w' := by
  have h := fold_any (-3) (by omega) (by omega) w
  rwa [fold_m3] at h

set_option maxHeartbeats 400000 in
theorem fixed_any (w : World) : Calls Try.prog 10 #[] w fun e w' => e = .returned (.bool true) ∧ Below w.heap.size w w' := by
  go_enter Try.func10, Try.ntmps10
  go_wp2_with (first
    | (go_at_call 11; refine (put_300 _).mono ?_; rintro e w1 ⟨v, rfl, hconv, hb1⟩)
    | (go_at_call 16; refine (fold_3 _).mono ?_; rintro e w2 ⟨rfl, rfl⟩))
  go_ret
  exact ⟨rfl, hb1⟩
#print axioms fixed_any
end Go.Proofs.Ytodojabhjdejpaa
