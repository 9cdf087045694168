/-
  find.Next, find.Open, find.Count.
-/
import Derived.Test.YtpphgmddancocaaFindFirst
namespace Go.Proofs.Ytpphgmddancocaa
open Go.RowKit

theorem firstW_next (xs : List Int) (frm : Int) : firstW [0] xs frm = nextI false xs frm := by
  unfold firstW nextI
  rw [show oneOf [0] xs = begI false xs from funext fun a => by simp only [oneOf, begI, Bool.false_and, Bool.or_false, List.mem_singleton]; rfl]
theorem firstW_open (xs : List Int) (frm : Int) : firstW [0, 2] xs frm = nextI true xs frm := by
  unfold firstW nextI
  rw [show oneOf [0, 2] xs = begI true xs from funext fun a => by
    simp only [oneOf, begI, Bool.true_and, List.mem_cons, List.not_mem_nil, or_false]
    rw [Bool.eq_iff_iff]
    simp]
/-- A slice that was just laid. -/
theorem vrow_new (w : World) (t : TypeId) (us : List Value) (hu : us.length ≤ 1000) : VRow (w.alloc (.cells us.toArray t)) (w.alloc (.cells us.toArray t)).heap.size (.slice (some ⟨w.heap.size, 0, none⟩) us.length us.length) us := by
  refine ⟨_, _, rfl, Nat.le_refl _, by unfold maxLen; omega, fun h => by simp at h, fun _ => ⟨w.heap.size, 0, rfl, by simp, fun i u hi => ?_⟩⟩
  have h : Held (w.alloc (.cells us.toArray t)) w.heap.size t us.toArray := heap_alloc_new w _
  rw [Nat.zero_add, h.cell i]
  simpa using hi

section
variable (A : Option Addr) (c : Nat) (xs : List Int) (hsm : xs.length ≤ 9223372036854775807) (w : World) (hrow : Row w w.heap.size (.slice A xs.length c) xs) (hb : ∀ x ∈ xs, 0 ≤ x ∧ x < 256) (frm : Int) (h1 : -9223372036854775808 ≤ frm) (h2 : frm ≤ 9223372036854775807)
include hsm hrow hb h1 h2
set_option maxRecDepth 100000 in
theorem next_any : Calls Try.prog 24 #[.slice A xs.length c, .int .i64 frm] w (Placed w (nextI false xs frm)) := by
  have hbx : Below w.heap.size w (w.alloc (.cells #[.int .i64 0] 34)) := (Below.refl _ _).alloc (Nat.le_refl _) _
  have hf := first_any A c xs hsm _ ((hrow.below hbx).more (by simp)) hb frm h1 h2 _ 1 1 [0] (vrow_new w 34 [.int .i64 0] (by simp)) (by omega)
  rw [firstW_next] at hf
  have HF := Lib.hid hf
  have HB := Lib.hid hbx
  clear hf hrow hb hsm hbx
  go_enter Try.func24, Try.ntmps24
  go_wp2_with fail
  refine HF.out.mono ?_
  rintro e w1 ⟨rfl, hb1⟩
  have HB1 := Lib.hid (HB.out.trans (hb1.mono (by simp)))
  clear hb1
  go_wp2_with fail
  go_ret2
  exact ⟨rfl, HB1.out⟩
set_option maxRecDepth 100000 in
theorem open_any : Calls Try.prog 25 #[.slice A xs.length c, .int .i64 frm] w (Placed w (nextI true xs frm)) := by
  have hbx : Below w.heap.size w (w.alloc (.cells #[.int .i64 0, .int .i64 2] 34)) := (Below.refl _ _).alloc (Nat.le_refl _) _
  have hf := first_any A c xs hsm _ ((hrow.below hbx).more (by simp)) hb frm h1 h2 _ 2 2 [0, 2] (vrow_new w 34 [.int .i64 0, .int .i64 2] (by simp)) (by omega)
  rw [firstW_open] at hf
  have HF := Lib.hid hf
  have HB := Lib.hid hbx
  clear hf hrow hb hsm hbx
  go_enter Try.func25, Try.ntmps25
  go_wp2_with fail
  refine HF.out.mono ?_
  rintro e w1 ⟨rfl, hb1⟩
  have HB1 := Lib.hid (HB.out.trans (hb1.mono (by simp)))
  clear hb1
  go_wp2_with fail
  go_ret2
  exact ⟨rfl, HB1.out⟩
end
#print axioms next_any
#print axioms open_any
end Go.Proofs.Ytpphgmddancocaa
