/-
  The closure of Number.
-/
import Derived.Test.YtnjhkjlekepjoaaCurClo
namespace Go.Proofs.Ytnjhkjlekepjoaa
open Go.RowKit

set_option maxRecDepth 100000 in
set_option maxHeartbeats 1000000 in
theorem number1_any (A : Option Addr) (c : Nat) (ys : List Int) (most : Int) (q : Nat) (w : World) (hrow : Row w w.heap.size (.slice A ys.length c) ys) (hb : ∀ x ∈ ys, 0 ≤ x ∧ x < 256) (hq : w.cell? ⟨q, 0, none⟩ = some (.int .u64 most)) :
    Calls Try.prog 67 #[.slice A ys.length c, .pointer (some ⟨q, 0, none⟩)] w (Found u64V w (getN most ys)) := by
  have hql : q < w.heap.size := World.block_lt_of_cell? w ⟨q, 0, none⟩ hq
  have hg := get_any A c ys w hrow hb
  clear hrow hb
  unfold getN
  generalize getI ys = t at hg
  obtain ⟨n, s, er⟩ := t
  simp only at hg
  have HG := Lib.hid hg; clear hg
  by_cases he : er = 0
  · subst he
    by_cases hlt : most < n
    · rw [if_pos ⟨rfl, hlt⟩]
      go_enter Try.func67, Try.ntmps67
      go_wp2_with fail
      refine HG.out.mono ?_
      rintro e w1 ⟨rfl, hb1⟩
      have hq1 : w1.cell? ⟨q, 0, none⟩ = some (.int .u64 most) := (hb1.cell (p := ⟨q, 0, none⟩) hql).trans hq
      go_wp2_with fail
      go_ret3
      exact ⟨rfl, hb1⟩
    · rw [if_neg (fun h => hlt h.2)]
      go_enter Try.func67, Try.ntmps67
      go_wp2_with fail
      refine HG.out.mono ?_
      rintro e w1 ⟨rfl, hb1⟩
      have hq1 : w1.cell? ⟨q, 0, none⟩ = some (.int .u64 most) := (hb1.cell (p := ⟨q, 0, none⟩) hql).trans hq
      go_wp2_with fail
      go_ret3
      exact ⟨rfl, hb1⟩
  · have hne : (er == 0) = false := beq_eq_false_iff_ne.2 he
    rw [if_neg (fun h => he h.1)]
    go_enter Try.func67, Try.ntmps67
    go_wp2_with fail
    refine HG.out.mono ?_
    rintro e w1 ⟨rfl, hb1⟩
    go_wp2_with fail
    go_ret3
    exact ⟨rfl, hb1⟩

end Go.Proofs.Ytnjhkjlekepjoaa
