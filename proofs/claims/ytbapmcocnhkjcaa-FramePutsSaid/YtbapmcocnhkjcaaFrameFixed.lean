/-
  The chapter's example of a frame, which each statement of this layer asks again: it is met, whatever the world.
-/
import Derived.Test.YtbapmcocnhkjcaaFramePut
namespace Go.Proofs.Ytbapmcocnhkjcaa
open Go.RowKit

theorem enc_none : (encFr 1 []).length = 10 ∧ (encFr 1 []).take 6 = [199, 84, 71, 1, 1, 0] := by
  have e : encI 0 = [0] := encI_small (by omega)
  constructor
  · rw [encFr_length]
    simp [e]
  · simp [encFr, markL, bodyL, encT, e]
theorem str_none : strOfNums [199, 84, 71, 1, 1, 0] = ⟨#[199, 84, 71, 1, 1, 0]⟩ := by decide +kernel

set_option maxRecDepth 100000 in
set_option maxHeartbeats 1000000 in
theorem ffix_any (w : World) : Calls Try.prog 15 #[] w fun e w' => e = .returned (.bool true) ∧ Below w.heap.size w w' := by
  have hp := fun W => fput_any 1 (.inl rfl) none 0 [] (by simp) (by simp) W (Row.nil _ _)
  obtain ⟨e1, e2⟩ := enc_none
  rw [e1] at hp
  have HP := Lib.hid hp
  have E2 := Lib.hid e2
  have E1 := Lib.hid e1
  clear hp e1 e2
  go_enter Try.func15, Try.ntmps15
  go_wp2_with fail
  refine (HP.out _).mono ?_
  rintro e w1 ⟨cap, g, rfl, hown, hb1⟩
  obtain ⟨hc1, hc2⟩ := own_cap hown
  have hr := (Row.of_own hown).take (k := 6) (by rw [E1.out]; omega)
  have hcv := hr.convert (P := Try.prog) 22 5 9 Try.underlying22 Try.underlying5 Try.underlying9
  rw [E2.out, str_none] at hcv
  simp only [List.length_cons, List.length_nil, Nat.zero_add, Nat.reduceAdd] at hcv
  have i1 : (10 : Int) ≤ (cap : Int) := by omega
  have i2 : (6 : Int) ≤ (cap : Int) := by omega
  have i3 : 6 ≤ cap := by omega
  have HB := Lib.hid hb1
  clear hown hr hb1
  go_wp2_with fail
  go_ret
  exact ⟨rfl, HB.out⟩
#print axioms ffix_any
end Go.Proofs.Ytbapmcocnhkjcaa
