/-
  blob.Get and the document's own: the text that bytes begin with, how many bytes it has, or why there is none.
-/
import Derived.Test.YtfknibjejnmghaaGreatGet
import Derived.WalkKit
import Derived.WalkSpells
import Derived.WalkLawsBesides
import Derived.LoopTactic
import Derived.Lib.Hide
import Derived.Outline
import Derived.Deep.RegionWith
import Derived.Deep.RegionHeld3
import Derived.Test.YtfknibjejnmghaaGreatSlices
import Derived.Test.YtfknibjejnmghaaGreatPlains
import Derived.Deep.QuietTactic
import Derived.BigQuiet
namespace Go.Proofs.YtfknibjejnmghaaGreat
open Go.RowKit

theorem below_drewN {B : Nat} {w w' : World} (h : Below B w w') (n : Nat) : Below B w (w'.drewN n) := ⟨h.os, h.tape, h.output, h.size, h.block⟩

set_option maxRecDepth 100000 in
set_option maxHeartbeats 1000000 in
/-- blob.Get. -/
theorem bget_any (A : Option Addr) (c : Nat) (xs : List Int) (most : Int) (hm0 : -9223372036854775808 ≤ most) (hm1 : most ≤ 9223372036854775807) (w : World) (hrow : Row w w.heap.size (.slice A xs.length c) xs) (hb : ∀ x ∈ xs, 0 ≤ x ∧ x < 256) :
    Calls Tryz.prog 91 #[.slice A xs.length c, .int .i64 most] w fun e W' => e = .returned (.tuple #[.string (strOfNums (getT most xs).1), .int .i64 (getT most xs).2.1, .int .i64 (getT most xs).2.2]) ∧ Below w.heap.size w W' := by
  have hg := get_any A c xs w hrow hb
  by_cases he : (getI xs).2.2 = 0
  · obtain ⟨n, s, hgi, h1, h2, h3, h4, h5⟩ := getI_ok xs hb he
    rw [hgi] at hg
    obtain ⟨M, hM, hMb⟩ : ∃ M : Nat, max most 0 = M ∧ M ≤ 9223372036854775807 := ⟨(max most 0).toNat, by omega, by omega⟩
    have hsm : xs.length ≤ 9223372036854775807 ∧ xs.length ≤ c ∧ c ≤ 9223372036854775807 := by
      obtain ⟨_, _, hv, q1, q2, _, _⟩ := hrow
      injection hv with e1 e2 e3
      subst e3
      unfold maxLen at q2
      omega
    obtain ⟨s1, s2, s3⟩ := hsm
    by_cases hl : M < n
    · have ht : getT most xs = ([], 0, 6) := getT_limit hgi (by omega)
      rw [ht]
      have HG := Lib.hid hg; clear hg hgi ht he hrow hb h4
      go_enter Tryz.func91, Tryz.ntmps91
      go_wp2_with (go_at_call 26; refine HG.out.mono ?_; rintro e w1 ⟨rfl, hb1⟩)
      go_ret3
      exact ⟨rfl, hb1⟩
    · by_cases hs : xs.length - s < n
      · have ht : getT most xs = ([], 0, 2) := getT_short hgi (by omega) hs
        rw [ht]
        have HG := Lib.hid hg; clear hg hgi ht he hrow hb h4
        go_enter Tryz.func91, Tryz.ntmps91
        go_wp2_with (go_at_call 26; refine HG.out.mono ?_; rintro e w1 ⟨rfl, hb1⟩)
        go_quiet (fail)
        go_wp2_with fail
        all_goals go_ret3
        all_goals exact ⟨rfl, below_drewN hb1 _⟩
      · have ht : getT most xs = ((xs.drop s).take n, s + n, 0) := getT_ok hgi (by omega) hs
        rw [ht]
        have hr2 := (hrow.drop h2).take (k := n) (by simp; omega)
        have hl2 : ((xs.drop s).take n).length = n := by simp; omega
        rw [hl2] at hr2
        generalize (xs.drop s).take n = ys at hr2 hl2
        have HG := Lib.hid hg; clear hg hgi ht he hrow hb h4
        have HL2 := Lib.hid hl2; clear hl2
        by_cases hcs : c = s
        · subst hcs
          rw [if_pos rfl, Nat.sub_self] at hr2
          obtain rfl : n = 0 := by omega
          have HR2 := Lib.hid hr2; clear hr2
          go_enter Tryz.func91, Tryz.ntmps91
          go_wp2_with (go_at_call 26; refine HG.out.mono ?_; rintro e w1 ⟨rfl, hb1⟩)
          go_quiet (fail)
          have hcv := (HR2.out.below (below_drewN hb1 nq)).convert (P := Tryz.prog) 23 5 9 Tryz.underlying23 Tryz.underlying5 Tryz.underlying9
          go_wp2_with fail
          go_ret3
          exact ⟨rfl, below_drewN hb1 _⟩
        · rw [if_neg hcs] at hr2
          have HR2 := Lib.hid hr2; clear hr2
          go_enter Tryz.func91, Tryz.ntmps91
          go_wp2_with (go_at_call 26; refine HG.out.mono ?_; rintro e w1 ⟨rfl, hb1⟩)
          go_quiet (fail)
          generalize Option.map (fun x : Addr => x.add s) A = A2 at HR2 ⊢
          have hcv := (HR2.out.below (below_drewN hb1 nq)).convert (P := Tryz.prog) 23 5 9 Tryz.underlying23 Tryz.underlying5 Tryz.underlying9
          have i1 : (0 : Int) ≤ (n : Int) := by omega
          have i2 : (n : Int) ≤ ((c - s : Nat) : Int) := by omega
          go_wp2_with fail
          go_ret3
          exact ⟨rfl, below_drewN hb1 _⟩
  · have ht : getT most xs = ([], 0, (getI xs).2.2) := getT_err rfl he
    rw [ht]
    clear ht hrow hb
    generalize (getI xs).2.2 = er at hg he
    have HG := Lib.hid hg; clear hg
    have hne : (er != 0) = true := by simpa using he
    clear he
    go_enter Tryz.func91, Tryz.ntmps91
    go_wp2_with (go_at_call 26; refine HG.out.mono ?_; rintro e w1 ⟨rfl, hb1⟩)
    go_ret3
    exact ⟨rfl, hb1⟩
#print axioms bget_any
end Go.Proofs.YtfknibjejnmghaaGreat
