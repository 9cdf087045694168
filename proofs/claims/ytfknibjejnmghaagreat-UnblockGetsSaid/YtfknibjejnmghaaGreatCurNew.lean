/-
  cursor.New, on slices.Clone; Stop, At, Left, Err and Done: what each call answers, and what has become of the cursor.
-/
import Derived.Test.YtfknibjejnmghaaGreatCur
import Derived.Test.YtfknibjejnmghaaGreatAppRow
import Derived.Test.YtfknibjejnmghaaGreatPutCode
import Derived.Test.YtfknibjejnmghaaGreatGet
import Derived.Test.YtfknibjejnmghaaGreatBlobGet
import Derived.Deep.QuietTactic
import Derived.BigQuiet
import Derived.Lib.SliceRun
namespace Go.Proofs.YtfknibjejnmghaaGreat
open Go.RowKit

/-- A copy in memory of its own. -/
def Copied (w : World) (xs : List Int) (e : Ending) (W' : World) : Prop :=
  ∃ A c, e = .returned (.slice A xs.length c) ∧ Row W' W'.heap.size (.slice A xs.length c) xs ∧ (∀ a, A = some a → w.heap.size ≤ a.block) ∧ Below w.heap.size w W'

set_option maxRecDepth 100000 in
set_option maxHeartbeats 1000000 in
theorem clone_any (A : Option Addr) (c : Nat) (xs : List Int) (hsm : xs.length ≤ 100000000000) (w : World) (hrow : Row w w.heap.size (.slice A xs.length c) xs) :
    Calls Tryz.prog 39 #[.slice A xs.length c] w (Copied w xs) := by
  obtain ⟨i0, hi, hz0, hz1, hz2⟩ := info_parts Tryz.infoU8
  cases A with
  | none =>
    obtain rfl : xs = [] := by
      obtain ⟨_, _, hv, _, _, _, h4⟩ := hrow
      injection hv with e1
      rcases Nat.eq_zero_or_pos xs.length with h | h
      · exact List.eq_nil_of_length_eq_zero h
      · obtain ⟨b, o, e2, _⟩ := h4 h
        rw [e2] at e1
        cases e1
    obtain rfl : c = 0 := by
      obtain ⟨_, _, hv, _, _, h3, _⟩ := hrow
      injection hv with e1 _ e3
      rw [e3]; exact h3 e1.symm
    have heq : ∀ W : World, (binOp .eql 23 (.slice none 0 0) (.slice none 0 0)).run Tryz.prog W = .ok (.bool true) W := fun W => Lib.run_eql_slice_nil W 23 5 none 0 0 0 0 Tryz.underlying23
    go_enter Tryz.func39, Tryz.ntmps39
    go_wp2_with fail
    go_ret
    exact ⟨none, 0, rfl, Row.nil _ _, by simp, Below.refl _ _⟩
  | some ad =>
    have HR := Lib.hid hrow; clear hrow
    have heq : ∀ W : World, (binOp .eql 23 (.slice (some ad) xs.length c) (.slice none 0 0)).run Tryz.prog W = .ok (.bool false) W := fun W => Lib.run_eql_slice_nil W 23 5 (some ad) xs.length c 0 0 Tryz.underlying23
    go_enter Tryz.func39, Tryz.ntmps39
    go_wp2_with (at_builtin; refine wpList_append_row _ rfl _ _ 23 rfl w.heap.size 5 i0 (.int .u8 0) Tryz.underlying23 hi hz0 hz1 hz2 rfl (.slice (some ⟨w.heap.size, 0, none⟩) 0 0) 0 [] (by rfl) (own_none1 _ _ _ (Nat.le_refl _)) w.heap.size _ xs rfl (HR.out.below ((Below.refl _ _).alloc (Nat.le_refl _) _)) (by omega) (by simp) ?_; intro v2 w2 hown2 hg2 hn2)
    go_ret
    have hne : v2 ≠ .slice none 0 0 := fun h => by have := (hn2.1 h).1; simp at this
    rw [Nat.zero_add, List.nil_append] at hown2
    obtain ⟨g, cap, rfl⟩ := ownsRow_some hown2 hne
    have hr := Row.of_own hown2
    refine ⟨_, _, rfl, hr, fun a ha => ?_, ((Below.refl _ _).alloc (Nat.le_refl _) _).grown hg2 (by simp) (fun k hk => ?_)⟩
    · injection ha with ha
      subst ha
      exact (hown2.lt g rfl).1
    · simp [Value.ownBlock] at hk
      omega

/-- A new cursor. -/
def Fresh (w : World) (xs : List Int) (e : Ending) (W' : World) : Prop :=
  ∃ g, e = .returned (.pointer (some ⟨g, 0, none⟩)) ∧ w.heap.size ≤ g ∧ Cur 95 W' w.heap.size g xs 0 0 ∧ Below w.heap.size w W'

set_option maxHeartbeats 1000000 in
theorem new_any (A : Option Addr) (c : Nat) (xs : List Int) (hsm : xs.length ≤ 100000000000) (w : World) (hrow : Row w w.heap.size (.slice A xs.length c) xs) :
    Calls Tryz.prog 14 #[.slice A xs.length c] w (Fresh w xs) := by
  have HC := Lib.hid (clone_any A c xs hsm w hrow); clear hrow
  go_enter Tryz.func14, Tryz.ntmps14
  go_wp2_with fail
  refine HC.out.mono ?_
  rintro e w1 ⟨A1, c1, rfl, hr1, hK1, hb1⟩
  go_wp2_with fail
  go_ret
  refine ⟨w1.heap.size, rfl, hb1.size, ⟨A1, c1, heap_alloc_new w1 _, hr1.below ((Below.refl _ _).alloc (Nat.le_refl _) _), hK1⟩, hb1.alloc hb1.size _⟩
#print axioms new_any

/-- The error behind Stop. -/
def stopI (e q : Int) : Int := if e = 0 then q else e
theorem stopI_zero (q : Int) : stopI 0 q = q := rfl
theorem stopI_kept {e : Int} (h : e ≠ 0) (q : Int) : stopI e q = e := if_neg h

section
variable {K g : Nat} {xs : List Int} {p : Nat} {e : Int} {w : World}

/-- Err. -/
theorem err_any (h : Cur 95 w K g xs p e) :
    Calls Tryz.prog 19 #[.pointer (some ⟨g, 0, none⟩)] w fun r w' => r = .returned (.int .i64 e) ∧ w = w' := by
  obtain ⟨A, c, c0, c1, c2, f1, f2, hr, _, _⟩ := h.cells
  clear h hr
  go_enter Tryz.func19, Tryz.ntmps19
  go_wp2_with fail
  go_ret
  exact ⟨rfl, rfl⟩

/-- Stop. -/
theorem stop_any (q : Int) (h : Cur 95 w K g xs p e) :
    Calls Tryz.prog 17 #[.pointer (some ⟨g, 0, none⟩), .int .i64 q] w fun r w' => r = .returned (.tuple #[]) ∧ Cur 95 w' K g xs p (stopI e q) ∧ w.grownBy w' (some g) := by
  obtain ⟨A, c, c0, c1, c2, f1, f2, hr, _, _⟩ := h.cells
  have HC := Lib.hid h; clear h hr
  by_cases he : e = 0
  · subst he
    go_enter Tryz.func17, Tryz.ntmps17
    go_wp2_with fail
    go_end0
    exact ⟨rfl, HC.out.err q, grown_put _ _ _ _⟩
  · have hb : (e == 0) = false := beq_eq_false_iff_ne.2 he
    go_enter Tryz.func17, Tryz.ntmps17
    go_wp2_with fail
    go_end0
    exact ⟨rfl, by rw [stopI_kept he]; exact HC.out, World.grownBy.refl _ _⟩
end

end Go.Proofs.YtfknibjejnmghaaGreat
