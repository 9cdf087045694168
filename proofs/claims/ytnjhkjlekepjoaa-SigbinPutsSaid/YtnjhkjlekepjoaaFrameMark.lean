/-
  The document's mark.
-/
import Derived.Test.YtnjhkjlekepjoaaRows
import Derived.Test.YtnjhkjlekepjoaaPlains
import Derived.Test.YtnjhkjlekepjoaaSlices
import Derived.WalkKit
import Derived.WalkSpells
import Derived.WalkLawsBesides
import Derived.LoopTactic
import Derived.Lib.Hide
import Derived.Outline
import Derived.Deep.RegionWith
import Derived.Deep.RegionHeld3
import Derived.Test.YtnjhkjlekepjoaaPlainFrames
import Derived.Test.YtnjhkjlekepjoaaCrcRef
import Derived.Deep.QuietTactic
import Derived.BigQuiet
namespace Go.Proofs.Ytnjhkjlekepjoaa
open Go.RowKit

/-- string([]byte{..}), of a slice of four cells: the mark. -/
theorem rmark_any (w : World) : Calls Try.prog 47 #[] w fun e w' => e = .returned (.string (strOfNums markL)) ∧ Below w.heap.size w w' := by
  have hcv := fun W b => conv_four W b 199 84 71 1
  go_enter Try.func47, Try.ntmps47
  go_wp2
  go_ret
  exact ⟨rfl, (Below.refl _ _).alloc (Nat.le_refl _) _⟩

end Go.Proofs.Ytnjhkjlekepjoaa
