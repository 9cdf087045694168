/-
  No cell of these rows narrows 'for every input' (looked for: loops, veiled, ifaces, maps, wideKeys, modest, calm, conditions, laid).
  DERIVED. THE GIVEN ROWS OF THIS SEAT. 6 by the template 'for every input the law returns true; each argument reads behind the call as it read before'; 0 by the template 'total and deterministic' (their statements: YtimihhcidbeonaaGreatTotals.lean).
  GIVEN WITH THE SEED: the statements are not yours to turn. If you find one false, say at which input.
  Laid BY PROGRAM, IN A SANDBOX (cutbox-rows.mjs): the forced cells as the released guide's own fill.sh prints them over the translation 4e4fda2f7468f72b… (all of the seat's roots in one cut). By AI agents, Wed Nov 11 2026. No macro, syntax, notation, axiom, sorry.
-/
import Derived.Test.YtimihhcidbeonaaGreatChecked
import GoSem.Claim
import GoSem.ClaimJoined
import GoSem.ClaimMapViews
import Derived.JoinedTies
import Derived.KernelRfl
namespace Go.Proofs.YtimihhcidbeonaaGreat
/- THE CELL 'sum', in the pinned program and in every row, IS THE sha256 OF THE DUMP (.gsa) THAT YtimihhcidbeonaaGreatProg.lean LOADS. Nothing in Lean hashes anything: it is a label: what it is worth is what the hold of that sum in a sandbox is worth. -/
noncomputable def Tryz.pinned : Pinned := { name := "ytimihhcidbeonaagreat", sum := "4e4fda2f7468f72b2dbdcd1947d7418f354084b7c9100d88b3c30850d2394a0c", checked := Tryz.checked }
namespace Rows
def none {H : Type} : Left H := { results := [], args := [] }

/-- 'tachographlaw15.UnblockGets': WHATEVER THE INPUT: true; the input reads as it did. -/
def unblockGetsSpec : ChangeSpec := { name := "unblockGets", fn := fun _ => fun
  | [d1, d2] => { results := [.lit (.bool true)], args := [d1, d2] }
  | _ => none }
def unblockGetsRow : OpenClaim := { program := "ytimihhcidbeonaagreat", sum := "4e4fda2f7468f72b2dbdcd1947d7418f354084b7c9100d88b3c30850d2394a0c", func := "tachograph/tachographlaw15.UnblockGets", spec := "unblockGets", unfollowed := true, recurses := true, plainKeys := false, apart := false }
def UnblockGetsSaid : Prop := unblockGetsRow.holds Tryz.pinned (OpenSpec.ofChange unblockGetsSpec)

/-- ITS FALSE NEIGHBOUR: 'it returns false'. Refute it at one input. -/
def unblockGetsWrong : ChangeSpec := { name := "unblockGets", fn := fun _ => fun
  | [d1, d2] => { results := [.lit (.bool false)], args := [d1, d2] }
  | _ => none }
def UnblockGetsWrongFalsely : Prop := unblockGetsRow.holds Tryz.pinned (OpenSpec.ofChange unblockGetsWrong)

/-- 'tachographlaw17.WriteTakes': WHATEVER THE INPUT: true; the input reads as it did. -/
def writeTakesSpec : ChangeSpec := { name := "writeTakes", fn := fun _ => fun
  | [d1, d2, d3] => { results := [.lit (.bool true)], args := [d1, d2, d3] }
  | _ => none }
def writeTakesRow : OpenClaim := { program := "ytimihhcidbeonaagreat", sum := "4e4fda2f7468f72b2dbdcd1947d7418f354084b7c9100d88b3c30850d2394a0c", func := "tachograph/tachographlaw17.WriteTakes", spec := "writeTakes", unfollowed := true, recurses := true, plainKeys := false, apart := false }
def WriteTakesSaid : Prop := writeTakesRow.holds Tryz.pinned (OpenSpec.ofChange writeTakesSpec)

/-- ITS FALSE NEIGHBOUR: 'it returns false'. Refute it at one input. -/
def writeTakesWrong : ChangeSpec := { name := "writeTakes", fn := fun _ => fun
  | [d1, d2, d3] => { results := [.lit (.bool false)], args := [d1, d2, d3] }
  | _ => none }
def WriteTakesWrongFalsely : Prop := writeTakesRow.holds Tryz.pinned (OpenSpec.ofChange writeTakesWrong)

/-- 'tachographlaw18.ReadOf': WHATEVER THE INPUT: true; the input reads as it did. -/
def readOfSpec : ChangeSpec := { name := "readOf", fn := fun _ => fun
  | [d] => { results := [.lit (.bool true)], args := [d] }
  | _ => none }
def readOfRow : OpenClaim := { program := "ytimihhcidbeonaagreat", sum := "4e4fda2f7468f72b2dbdcd1947d7418f354084b7c9100d88b3c30850d2394a0c", func := "tachograph/tachographlaw18.ReadOf", spec := "readOf", unfollowed := true, recurses := true, plainKeys := false, apart := false }
def ReadOfSaid : Prop := readOfRow.holds Tryz.pinned (OpenSpec.ofChange readOfSpec)

/-- ITS FALSE NEIGHBOUR: 'it returns false'. Refute it at one input. -/
def readOfWrong : ChangeSpec := { name := "readOf", fn := fun _ => fun
  | [d] => { results := [.lit (.bool false)], args := [d] }
  | _ => none }
def ReadOfWrongFalsely : Prop := readOfRow.holds Tryz.pinned (OpenSpec.ofChange readOfWrong)

/-- 'tachographlaw18.ReadTakes': WHATEVER THE INPUT: true; the input reads as it did. -/
def readTakesSpec : ChangeSpec := { name := "readTakes", fn := fun _ => fun
  | [d1, d2] => { results := [.lit (.bool true)], args := [d1, d2] }
  | _ => none }
def readTakesRow : OpenClaim := { program := "ytimihhcidbeonaagreat", sum := "4e4fda2f7468f72b2dbdcd1947d7418f354084b7c9100d88b3c30850d2394a0c", func := "tachograph/tachographlaw18.ReadTakes", spec := "readTakes", unfollowed := true, recurses := true, plainKeys := false, apart := false }
def ReadTakesSaid : Prop := readTakesRow.holds Tryz.pinned (OpenSpec.ofChange readTakesSpec)

/-- ITS FALSE NEIGHBOUR: 'it returns false'. Refute it at one input. -/
def readTakesWrong : ChangeSpec := { name := "readTakes", fn := fun _ => fun
  | [d1, d2] => { results := [.lit (.bool false)], args := [d1, d2] }
  | _ => none }
def ReadTakesWrongFalsely : Prop := readTakesRow.holds Tryz.pinned (OpenSpec.ofChange readTakesWrong)

/-- 'tachographlaw18.ReadRight': WHATEVER THE INPUT: true; the input reads as it did. -/
def readRightSpec : ChangeSpec := { name := "readRight", fn := fun _ => fun
  | [d] => { results := [.lit (.bool true)], args := [d] }
  | _ => none }
def readRightRow : OpenClaim := { program := "ytimihhcidbeonaagreat", sum := "4e4fda2f7468f72b2dbdcd1947d7418f354084b7c9100d88b3c30850d2394a0c", func := "tachograph/tachographlaw18.ReadRight", spec := "readRight", unfollowed := true, recurses := true, plainKeys := false, apart := false }
def ReadRightSaid : Prop := readRightRow.holds Tryz.pinned (OpenSpec.ofChange readRightSpec)

/-- ITS FALSE NEIGHBOUR: 'it returns false'. Refute it at one input. -/
def readRightWrong : ChangeSpec := { name := "readRight", fn := fun _ => fun
  | [d] => { results := [.lit (.bool false)], args := [d] }
  | _ => none }
def ReadRightWrongFalsely : Prop := readRightRow.holds Tryz.pinned (OpenSpec.ofChange readRightWrong)

/-- 'tachographlaw18.ReadBack': WHATEVER THE INPUT: true; the input reads as it did. -/
def readBackSpec : ChangeSpec := { name := "readBack", fn := fun _ => fun
  | [d1, d2, d3] => { results := [.lit (.bool true)], args := [d1, d2, d3] }
  | _ => none }
def readBackRow : OpenClaim := { program := "ytimihhcidbeonaagreat", sum := "4e4fda2f7468f72b2dbdcd1947d7418f354084b7c9100d88b3c30850d2394a0c", func := "tachograph/tachographlaw18.ReadBack", spec := "readBack", unfollowed := true, recurses := true, plainKeys := false, apart := false }
def ReadBackSaid : Prop := readBackRow.holds Tryz.pinned (OpenSpec.ofChange readBackSpec)

/-- ITS FALSE NEIGHBOUR: 'it returns false'. Refute it at one input. -/
def readBackWrong : ChangeSpec := { name := "readBack", fn := fun _ => fun
  | [d1, d2, d3] => { results := [.lit (.bool false)], args := [d1, d2, d3] }
  | _ => none }
def ReadBackWrongFalsely : Prop := readBackRow.holds Tryz.pinned (OpenSpec.ofChange readBackWrong)

/- THE SECOND FORM. 'bulk': how many values and letters a reading holds, each counted each time it is reached (what is shared counts as often as it is met; a slice's spare places count too). A statement '..UptoSaid' is the law's where the arguments, and the package variables that the reading takes, are together of bulk at most 1048576: NARROWER than '..Said'. Prove '..Said' where nothing that the law and all that it calls make is longer than what came in: it says more and counts as full. Else prove '..UptoSaid'. A law counts once. -/
mutual
def uptoBulk {H : Type} : DataW H → Nat
  | .lit (.string bytes) => bytes.length + 1
  | .lit _ => 1
  | .nil => 1
  | .ptr d => uptoBulk d + 1
  | .slice elems spare => uptoBulkAll elems + uptoBulkAll spare + 1
  | .agg parts => uptoBulkAll parts + 1
  | .iface _ d => uptoBulk d + 1
  | .map entries => uptoBulkEntries entries + 1
  | .held _ => 1
def uptoBulkAll {H : Type} : List (DataW H) → Nat
  | [] => 0
  | d :: r => uptoBulk d + uptoBulkAll r
def uptoBulkEntries {H : Type} : List (Lit × DataW H) → Nat
  | [] => 0
  | x :: r => uptoBulkEntry x + uptoBulkEntries r
def uptoBulkEntry {H : Type} : Lit × DataW H → Nat
  | (.string bytes, d) => bytes.length + uptoBulk d + 1
  | (_, d) => uptoBulk d + 1
 end
def uptoSmall : (H : Type) → List (DataW H) → Bool := fun _ ds => decide (uptoBulkAll ds ≤ 1048576)
def OpenSpec.upto (s : _root_.Go.ChangeSpec) : _root_.Go.OpenSpec := { _root_.Go.OpenSpec.ofChange s with cond := some uptoSmall }

/-- 'tachographlaw15.UnblockGets', WHERE WHAT IT READS IS OF BULK AT MOST 1048576: true; the input reads as it did. -/
def unblockGetsUptoRow : OpenClaim := { program := "ytimihhcidbeonaagreat", sum := "4e4fda2f7468f72b2dbdcd1947d7418f354084b7c9100d88b3c30850d2394a0c", func := "tachograph/tachographlaw15.UnblockGets", spec := "unblockGets", unfollowed := true, recurses := true, plainKeys := false, apart := false, narrowed := true }
def UnblockGetsUptoSaid : Prop := unblockGetsUptoRow.holds Tryz.pinned (OpenSpec.upto unblockGetsSpec)

/-- 'tachographlaw17.WriteTakes', WHERE WHAT IT READS IS OF BULK AT MOST 1048576: true; the input reads as it did. -/
def writeTakesUptoRow : OpenClaim := { program := "ytimihhcidbeonaagreat", sum := "4e4fda2f7468f72b2dbdcd1947d7418f354084b7c9100d88b3c30850d2394a0c", func := "tachograph/tachographlaw17.WriteTakes", spec := "writeTakes", unfollowed := true, recurses := true, plainKeys := false, apart := false, narrowed := true }
def WriteTakesUptoSaid : Prop := writeTakesUptoRow.holds Tryz.pinned (OpenSpec.upto writeTakesSpec)

/-- 'tachographlaw18.ReadOf', WHERE WHAT IT READS IS OF BULK AT MOST 1048576: true; the input reads as it did. -/
def readOfUptoRow : OpenClaim := { program := "ytimihhcidbeonaagreat", sum := "4e4fda2f7468f72b2dbdcd1947d7418f354084b7c9100d88b3c30850d2394a0c", func := "tachograph/tachographlaw18.ReadOf", spec := "readOf", unfollowed := true, recurses := true, plainKeys := false, apart := false, narrowed := true }
def ReadOfUptoSaid : Prop := readOfUptoRow.holds Tryz.pinned (OpenSpec.upto readOfSpec)

/-- 'tachographlaw18.ReadTakes', WHERE WHAT IT READS IS OF BULK AT MOST 1048576: true; the input reads as it did. -/
def readTakesUptoRow : OpenClaim := { program := "ytimihhcidbeonaagreat", sum := "4e4fda2f7468f72b2dbdcd1947d7418f354084b7c9100d88b3c30850d2394a0c", func := "tachograph/tachographlaw18.ReadTakes", spec := "readTakes", unfollowed := true, recurses := true, plainKeys := false, apart := false, narrowed := true }
def ReadTakesUptoSaid : Prop := readTakesUptoRow.holds Tryz.pinned (OpenSpec.upto readTakesSpec)

/-- 'tachographlaw18.ReadRight', WHERE WHAT IT READS IS OF BULK AT MOST 1048576: true; the input reads as it did. -/
def readRightUptoRow : OpenClaim := { program := "ytimihhcidbeonaagreat", sum := "4e4fda2f7468f72b2dbdcd1947d7418f354084b7c9100d88b3c30850d2394a0c", func := "tachograph/tachographlaw18.ReadRight", spec := "readRight", unfollowed := true, recurses := true, plainKeys := false, apart := false, narrowed := true }
def ReadRightUptoSaid : Prop := readRightUptoRow.holds Tryz.pinned (OpenSpec.upto readRightSpec)

/-- 'tachographlaw18.ReadBack', WHERE WHAT IT READS IS OF BULK AT MOST 1048576: true; the input reads as it did. -/
def readBackUptoRow : OpenClaim := { program := "ytimihhcidbeonaagreat", sum := "4e4fda2f7468f72b2dbdcd1947d7418f354084b7c9100d88b3c30850d2394a0c", func := "tachograph/tachographlaw18.ReadBack", spec := "readBack", unfollowed := true, recurses := true, plainKeys := false, apart := false, narrowed := true }
def ReadBackUptoSaid : Prop := readBackUptoRow.holds Tryz.pinned (OpenSpec.upto readBackSpec)

end Rows
end Go.Proofs.YtimihhcidbeonaaGreat
