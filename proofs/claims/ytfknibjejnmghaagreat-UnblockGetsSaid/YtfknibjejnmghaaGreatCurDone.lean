/-
  Left and Done of a cursor.
-/
import Derived.Test.YtfknibjejnmghaaGreatCurNew
namespace Go.Proofs.YtfknibjejnmghaaGreat
open Go.RowKit

section
variable {K g : Nat} {xs : List Int} {p : Nat} {e : Int} {w : World}

/-- Left. -/
theorem left_any (h : Cur 95 w K g xs p e) (hp : p ≤ xs.length) :
    Calls Tryz.prog 46 #[.pointer (some ⟨g, 0, none⟩)] w fun r w' => r = .returned (.int .i64 ((xs.length - p : Nat) : Int)) ∧ ∃ n, w' = w.drewN n := by
  obtain ⟨A, c, c0, c1, c2, f1, f2, hr, hl, hc⟩ := h.cells
  clear h hr
  have hv : (((xs.length - p : Nat) : Nat) : Int) = (xs.length : Int) - (p : Int) := by omega
  rw [hv]
  clear hv
  generalize xs.length = L at *
  have hw : IntKind.i64.wrap ((L : Int) - (p : Int)) = (L : Int) - (p : Int) := IntWalk.i64_in _ (by omega)
  go_enter Tryz.func46, Tryz.ntmps46
  go_wp2_with fail
  go_quiet (fail)
  go_wp2_with fail
  go_ret
  exact ⟨rfl, _, rfl⟩

end

/-- What Done answers, and the error behind it. -/
def doneI (n p : Nat) (e : Int) : Bool × Int := if e = 0 then if p < n then (false, 4) else (true, 0) else (false, e)

set_option maxHeartbeats 1000000 in
/-- Done. -/
theorem done_any {K g : Nat} {xs : List Int} {p : Nat} {e : Int} {w : World} (h : Cur 95 w K g xs p e) (hp : p ≤ xs.length) (hK : K ≤ g) :
    Calls Tryz.prog 16 #[.pointer (some ⟨g, 0, none⟩)] w fun r w' => r = .returned (.bool (doneI xs.length p e).1) ∧ Cur 95 w' K g xs p (doneI xs.length p e).2 ∧ w.grownBy w' (some g) := by
  have HC := Lib.hid h; clear h
  by_cases hlt : p < xs.length
  · have hl0 : (0 : Int) < ((xs.length - p : Nat) : Int) := by omega
    have hl1 : 0 < xs.length - p := by omega
    have hd : doneI xs.length p e = (false, stopI e 4) := by
      unfold doneI stopI
      by_cases he : e = 0
      · rw [if_pos he, if_pos he, if_pos hlt]
      · rw [if_neg he, if_neg he]
    have hne : (stopI e 4 == 0) = false := by
      unfold stopI
      split
      · rfl
      · exact beq_eq_false_iff_ne.2 ‹_›
    obtain ⟨e2, he2⟩ : ∃ e2, stopI e 4 = e2 := ⟨_, rfl⟩
    rw [hd, he2]
    rw [he2] at hne
    have HE := Lib.hid he2; clear he2 hd
    go_enter Tryz.func16, Tryz.ntmps16
    go_wp2_with fail
    refine (left_any HC.out hp).mono ?_
    rintro r w1 ⟨rfl, n1, rfl⟩
    have HC1 : Hid (Cur 95 (w.drewN n1) K g xs p e) := HC.out.keep (fun _ _ _ => rfl) hK
    go_wp2_with fail
    refine (stop_any 4 HC1.out).mono ?_
    rintro r w2 ⟨rfl, hc2, hg2⟩
    rw [HE.out] at hc2
    obtain ⟨A, c, c0, c1, c2, f1, f2, hr, _, _⟩ := hc2.cells
    have HC2 := Lib.hid hc2; clear hc2 hr
    go_wp2_with fail
    go_ret
    exact ⟨rfl, HC2.out, ⟨hg2.os, hg2.tape, hg2.output, hg2.size, hg2.block⟩⟩
  · have hz : xs.length - p = 0 := by omega
    have hd : doneI xs.length p e = (e == 0, e) := by
      unfold doneI
      by_cases he : e = 0
      · rw [if_pos he, if_neg hlt, he]; rfl
      · rw [if_neg he, beq_eq_false_iff_ne.2 he]
    rw [hd]
    clear hd
    obtain ⟨A, c, c0, c1, c2, f1, f2, hr, _, _⟩ := HC.out.cells
    clear hr
    have hl := left_any HC.out hp
    rw [hz] at hl
    have HL := Lib.hid hl; clear hl hz
    go_enter Tryz.func16, Tryz.ntmps16
    go_wp2_with fail
    refine HL.out.mono ?_
    rintro r w1 ⟨rfl, n1, rfl⟩
    go_wp2_with fail
    go_ret
    exact ⟨rfl, HC.out.keep (fun _ _ _ => rfl) hK, grown_drewN (World.grownBy.refl _ _) n1⟩
#print axioms done_any
end Go.Proofs.YtfknibjejnmghaaGreat
