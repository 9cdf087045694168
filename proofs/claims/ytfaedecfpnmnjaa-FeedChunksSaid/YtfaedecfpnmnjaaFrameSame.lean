/-
  The document's mark; whether two frames are the same.
-/
import Derived.Test.YtfaedecfpnmnjaaRows
import Derived.Test.YtfaedecfpnmnjaaPlains
import Derived.Test.YtfaedecfpnmnjaaSlices
import Derived.WalkKit
import Derived.WalkSpells
import Derived.WalkLawsBesides
import Derived.LoopTactic
import Derived.Lib.Hide
import Derived.Outline
import Derived.Deep.RegionWith
import Derived.Deep.RegionHeld3
import Derived.Test.YtfaedecfpnmnjaaPlainFrames
import Derived.Test.YtfaedecfpnmnjaaCrcRef
import Derived.Deep.QuietTactic
import Derived.BigQuiet
namespace Go.Proofs.Ytfaedecfpnmnjaa
open Go.RowKit

/-- string([]byte{..}), of a slice of four cells: the mark. -/
theorem rmark_any (w : World) : Calls Try.prog 30 #[] w fun e w' => e = .returned (.string (strOfNums markL)) ∧ Below w.heap.size w w' := by
  have hcv := fun W b => conv_four W b 199 84 71 1
  go_enter Try.func30, Try.ntmps30
  go_wp2
  go_ret
  exact ⟨rfl, (Below.refl _ _).alloc (Nat.le_refl _) _⟩

/-- Two frames whose payloads read as bytes: the same? -/
def sameB (a b : Int) (p q : List Int) : Bool := decide (a = b ∧ p = q)
set_option maxRecDepth 100000 in
set_option maxHeartbeats 1000000 in
theorem fsame_yes (a : Int) (A A2 : Option Addr) (c c2 : Nat) (p : List Int) (w : World) (hr : Row w w.heap.size (.slice A p.length c) p) (hr2 : Row w w.heap.size (.slice A2 p.length c2) p) :
    Calls Try.prog 14 #[.agg #[.int .i64 a, .slice A p.length c], .agg #[.int .i64 a, .slice A2 p.length c2]] w fun e w' => e = .returned (.bool true) ∧ Below w.heap.size w w' := by
  have b2 : Below w.heap.size w ((w.alloc (.cells #[.int .i64 a, .slice A p.length c] 30)).alloc (.cells #[.int .i64 a, .slice A2 p.length c2] 30)) := ((Below.refl _ _).alloc (Nat.le_refl _) _).alloc (by simp) _
  have hcv := (hr.below b2).convert (P := Try.prog) 22 5 9 Try.underlying22 Try.underlying5 Try.underlying9
  have hcv2 := (hr2.below b2).convert (P := Try.prog) 22 5 9 Try.underlying22 Try.underlying5 Try.underlying9
  clear hr hr2
  go_enter Try.func14, Try.ntmps14
  go_wp2_with fail
  go_ret
  exact ⟨rfl, b2⟩
#print axioms fsame_yes
end Go.Proofs.Ytfaedecfpnmnjaa
