/-
  No cell of these rows narrows 'for every input' (looked for: loops, veiled, ifaces, maps, wideKeys, modest, calm, conditions, laid).
  DERIVED. THE GIVEN ROWS OF THIS SEAT. 5 by the template 'for every input the law returns true; each argument reads behind the call as it read before'; 0 by the template 'total and deterministic' (their statements: YtnlfcmbpocdpjaaGreatTotals.lean).
  GIVEN WITH THE SEED: the statements are not yours to turn. If you find one false, say at which input.
  Laid BY PROGRAM, IN A SANDBOX (cutbox-rows.mjs): the forced cells as the released guide's own fill.sh prints them over the translation af02f213fdbd53d9… (all of the seat's roots in one cut). By AI agents, Wed Nov 11 2026. No macro, syntax, notation, axiom, sorry.
-/
import Derived.Test.YtnlfcmbpocdpjaaGreatChecked
import GoSem.Claim
import GoSem.ClaimJoined
import GoSem.ClaimMapViews
import Derived.JoinedTies
import Derived.KernelRfl
namespace Go.Proofs.YtnlfcmbpocdpjaaGreat
/- THE CELL 'sum', in the pinned program and in every row, IS THE sha256 OF THE DUMP (.gsa) THAT YtnlfcmbpocdpjaaGreatProg.lean LOADS. Nothing in Lean hashes anything: it is a label: what it is worth is what the hold of that sum in a sandbox is worth. -/
noncomputable def Tryz.pinned : Pinned := { name := "ytnlfcmbpocdpjaagreat", sum := "af02f213fdbd53d9880d4253d8a8fc86013df118189fb6a30500711b1a56c001", checked := Tryz.checked }
namespace Rows
def none {H : Type} : Left H := { results := [], args := [] }

/-- 'tachographlaw18.ReadOf': WHATEVER THE INPUT: true; the input reads as it did. -/
def readOfSpec : ChangeSpec := { name := "readOf", fn := fun _ => fun
  | [d] => { results := [.lit (.bool true)], args := [d] }
  | _ => none }
def readOfRow : OpenClaim := { program := "ytnlfcmbpocdpjaagreat", sum := "af02f213fdbd53d9880d4253d8a8fc86013df118189fb6a30500711b1a56c001", func := "tachograph/tachographlaw18.ReadOf", spec := "readOf", unfollowed := true, recurses := true, plainKeys := false, apart := false }
def ReadOfSaid : Prop := readOfRow.holds Tryz.pinned (OpenSpec.ofChange readOfSpec)

/-- ITS FALSE NEIGHBOUR: 'it returns false'. Refute it at one input. -/
def readOfWrong : ChangeSpec := { name := "readOf", fn := fun _ => fun
  | [d] => { results := [.lit (.bool false)], args := [d] }
  | _ => none }
def ReadOfWrongFalsely : Prop := readOfRow.holds Tryz.pinned (OpenSpec.ofChange readOfWrong)

/-- 'tachographlaw18.ReadTakes': WHATEVER THE INPUT: true; the input reads as it did. -/
def readTakesSpec : ChangeSpec := { name := "readTakes", fn := fun _ => fun
  | [d1, d2] => { results := [.lit (.bool true)], args := [d1, d2] }
  | _ => none }
def readTakesRow : OpenClaim := { program := "ytnlfcmbpocdpjaagreat", sum := "af02f213fdbd53d9880d4253d8a8fc86013df118189fb6a30500711b1a56c001", func := "tachograph/tachographlaw18.ReadTakes", spec := "readTakes", unfollowed := true, recurses := true, plainKeys := false, apart := false }
def ReadTakesSaid : Prop := readTakesRow.holds Tryz.pinned (OpenSpec.ofChange readTakesSpec)

/-- ITS FALSE NEIGHBOUR: 'it returns false'. Refute it at one input. -/
def readTakesWrong : ChangeSpec := { name := "readTakes", fn := fun _ => fun
  | [d1, d2] => { results := [.lit (.bool false)], args := [d1, d2] }
  | _ => none }
def ReadTakesWrongFalsely : Prop := readTakesRow.holds Tryz.pinned (OpenSpec.ofChange readTakesWrong)

/-- 'tachographlaw19.StreamChunks': WHATEVER THE INPUT: true; the input reads as it did. -/
def streamChunksSpec : ChangeSpec := { name := "streamChunks", fn := fun _ => fun
  | [d1, d2] => { results := [.lit (.bool true)], args := [d1, d2] }
  | _ => none }
def streamChunksRow : OpenClaim := { program := "ytnlfcmbpocdpjaagreat", sum := "af02f213fdbd53d9880d4253d8a8fc86013df118189fb6a30500711b1a56c001", func := "tachograph/tachographlaw19.StreamChunks", spec := "streamChunks", unfollowed := true, recurses := true, plainKeys := false, apart := false }
def StreamChunksSaid : Prop := streamChunksRow.holds Tryz.pinned (OpenSpec.ofChange streamChunksSpec)

/-- ITS FALSE NEIGHBOUR: 'it returns false'. Refute it at one input. -/
def streamChunksWrong : ChangeSpec := { name := "streamChunks", fn := fun _ => fun
  | [d1, d2] => { results := [.lit (.bool false)], args := [d1, d2] }
  | _ => none }
def StreamChunksWrongFalsely : Prop := streamChunksRow.holds Tryz.pinned (OpenSpec.ofChange streamChunksWrong)

/-- 'tachographtop.TopAny': WHATEVER THE INPUT: true; the input reads as it did. -/
def topAnySpec : ChangeSpec := { name := "topAny", fn := fun _ => fun
  | [d1, d2] => { results := [.lit (.bool true)], args := [d1, d2] }
  | _ => none }
def topAnyRow : OpenClaim := { program := "ytnlfcmbpocdpjaagreat", sum := "af02f213fdbd53d9880d4253d8a8fc86013df118189fb6a30500711b1a56c001", func := "tachograph/tachographtop.TopAny", spec := "topAny", unfollowed := true, recurses := true, plainKeys := false, apart := false }
def TopAnySaid : Prop := topAnyRow.holds Tryz.pinned (OpenSpec.ofChange topAnySpec)

/-- ITS FALSE NEIGHBOUR: 'it returns false'. Refute it at one input. -/
def topAnyWrong : ChangeSpec := { name := "topAny", fn := fun _ => fun
  | [d1, d2] => { results := [.lit (.bool false)], args := [d1, d2] }
  | _ => none }
def TopAnyWrongFalsely : Prop := topAnyRow.holds Tryz.pinned (OpenSpec.ofChange topAnyWrong)

/-- 'tachographtop.TopNames': WHATEVER THE INPUT: true; the input reads as it did. -/
def topNamesSpec : ChangeSpec := { name := "topNames", fn := fun _ => fun
  | [] => { results := [.lit (.bool true)], args := [] }
  | _ => none }
def topNamesRow : OpenClaim := { program := "ytnlfcmbpocdpjaagreat", sum := "af02f213fdbd53d9880d4253d8a8fc86013df118189fb6a30500711b1a56c001", func := "tachograph/tachographtop.TopNames", spec := "topNames", unfollowed := true, recurses := true, plainKeys := false, apart := false }
def TopNamesSaid : Prop := topNamesRow.holds Tryz.pinned (OpenSpec.ofChange topNamesSpec)

/-- ITS FALSE NEIGHBOUR: 'it returns false'. Refute it at one input. -/
def topNamesWrong : ChangeSpec := { name := "topNames", fn := fun _ => fun
  | [] => { results := [.lit (.bool false)], args := [] }
  | _ => none }
def TopNamesWrongFalsely : Prop := topNamesRow.holds Tryz.pinned (OpenSpec.ofChange topNamesWrong)

/- THE SECOND FORM. 'bulk': how many values and letters a reading holds, each counted each time it is reached (what is shared counts as often as it is met; a slice's spare places count too). A statement '..UptoSaid' is the law's where the arguments, and the package variables that the reading takes, are together of bulk at most 1048576: NARROWER than '..Said'. Prove '..Said' where nothing that the law and all that it calls make is longer than what came in: it says more and counts as full. Else prove '..UptoSaid'. A law counts once. -/
mutual
def uptoBulk {H : Type} : DataW H → Nat
  | .lit (.string bytes) => bytes.length + 1
  | .lit _ => 1
  | .nil => 1
  | .ptr d => uptoBulk d + 1
  | .slice elems spare => uptoBulkAll elems + uptoBulkAll spare + 1
  | .agg parts => uptoBulkAll parts + 1
  | .iface _ d => uptoBulk d + 1
  | .map entries => uptoBulkEntries entries + 1
  | .held _ => 1
def uptoBulkAll {H : Type} : List (DataW H) → Nat
  | [] => 0
  | d :: r => uptoBulk d + uptoBulkAll r
def uptoBulkEntries {H : Type} : List (Lit × DataW H) → Nat
  | [] => 0
  | x :: r => uptoBulkEntry x + uptoBulkEntries r
def uptoBulkEntry {H : Type} : Lit × DataW H → Nat
  | (.string bytes, d) => bytes.length + uptoBulk d + 1
  | (_, d) => uptoBulk d + 1
 end
def uptoSmall : (H : Type) → List (DataW H) → Bool := fun _ ds => decide (uptoBulkAll ds ≤ 1048576)
def OpenSpec.upto (s : _root_.Go.ChangeSpec) : _root_.Go.OpenSpec := { _root_.Go.OpenSpec.ofChange s with cond := some uptoSmall }

/-- 'tachographlaw18.ReadOf', WHERE WHAT IT READS IS OF BULK AT MOST 1048576: true; the input reads as it did. -/
def readOfUptoRow : OpenClaim := { program := "ytnlfcmbpocdpjaagreat", sum := "af02f213fdbd53d9880d4253d8a8fc86013df118189fb6a30500711b1a56c001", func := "tachograph/tachographlaw18.ReadOf", spec := "readOf", unfollowed := true, recurses := true, plainKeys := false, apart := false, narrowed := true }
def ReadOfUptoSaid : Prop := readOfUptoRow.holds Tryz.pinned (OpenSpec.upto readOfSpec)

/-- 'tachographlaw18.ReadTakes', WHERE WHAT IT READS IS OF BULK AT MOST 1048576: true; the input reads as it did. -/
def readTakesUptoRow : OpenClaim := { program := "ytnlfcmbpocdpjaagreat", sum := "af02f213fdbd53d9880d4253d8a8fc86013df118189fb6a30500711b1a56c001", func := "tachograph/tachographlaw18.ReadTakes", spec := "readTakes", unfollowed := true, recurses := true, plainKeys := false, apart := false, narrowed := true }
def ReadTakesUptoSaid : Prop := readTakesUptoRow.holds Tryz.pinned (OpenSpec.upto readTakesSpec)

/-- 'tachographlaw19.StreamChunks', WHERE WHAT IT READS IS OF BULK AT MOST 1048576: true; the input reads as it did. -/
def streamChunksUptoRow : OpenClaim := { program := "ytnlfcmbpocdpjaagreat", sum := "af02f213fdbd53d9880d4253d8a8fc86013df118189fb6a30500711b1a56c001", func := "tachograph/tachographlaw19.StreamChunks", spec := "streamChunks", unfollowed := true, recurses := true, plainKeys := false, apart := false, narrowed := true }
def StreamChunksUptoSaid : Prop := streamChunksUptoRow.holds Tryz.pinned (OpenSpec.upto streamChunksSpec)

/-- 'tachographtop.TopAny', WHERE WHAT IT READS IS OF BULK AT MOST 1048576: true; the input reads as it did. -/
def topAnyUptoRow : OpenClaim := { program := "ytnlfcmbpocdpjaagreat", sum := "af02f213fdbd53d9880d4253d8a8fc86013df118189fb6a30500711b1a56c001", func := "tachograph/tachographtop.TopAny", spec := "topAny", unfollowed := true, recurses := true, plainKeys := false, apart := false, narrowed := true }
def TopAnyUptoSaid : Prop := topAnyUptoRow.holds Tryz.pinned (OpenSpec.upto topAnySpec)

/-- 'tachographtop.TopNames', WHERE WHAT IT READS IS OF BULK AT MOST 1048576: true; the input reads as it did. -/
def topNamesUptoRow : OpenClaim := { program := "ytnlfcmbpocdpjaagreat", sum := "af02f213fdbd53d9880d4253d8a8fc86013df118189fb6a30500711b1a56c001", func := "tachograph/tachographtop.TopNames", spec := "topNames", unfollowed := true, recurses := true, plainKeys := false, apart := false, narrowed := true }
def TopNamesUptoSaid : Prop := topNamesUptoRow.holds Tryz.pinned (OpenSpec.upto topNamesSpec)

end Rows
end Go.Proofs.YtnlfcmbpocdpjaaGreat
