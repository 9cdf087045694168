/-
  No cell of these rows narrows 'for every input' (looked for: loops, veiled, ifaces, maps, wideKeys, modest, calm, conditions, laid).
  DERIVED. THE GIVEN ROWS OF THIS SEAT. 3 by the template 'for every input the law returns true; each argument reads behind the call as it read before'; 0 by the template 'total and deterministic' (their statements: YtnjhkjlekepjoaaTotals.lean).
  GIVEN WITH THE SEED: the statements are not yours to turn. If you find one false, say at which input.
  Laid BY PROGRAM, IN A SANDBOX (cutbox-rows.mjs): the forced cells as the released guide's own fill.sh prints them over the translation ca74e34e82494864… (all of the seat's roots in one cut). By AI agents, Wed Nov 11 2026. No macro, syntax, notation, axiom, sorry.
-/
import Derived.Test.YtnjhkjlekepjoaaChecked
import GoSem.Claim
import GoSem.ClaimJoined
import GoSem.ClaimMapViews
import Derived.JoinedTies
import Derived.KernelRfl
namespace Go.Proofs.Ytnjhkjlekepjoaa
/- THE CELL 'sum', in the pinned program and in every row, IS THE sha256 OF THE DUMP (.gsa) THAT YtnjhkjlekepjoaaProg.lean LOADS. Nothing in Lean hashes anything: it is a label: what it is worth is what the hold of that sum in a sandbox is worth. -/
noncomputable def Try.pinned : Pinned := { name := "ytnjhkjlekepjoaa", sum := "ca74e34e824948640a4b783357ed02fafadce60d3428b67fda5205c29f31cdd2", checked := Try.checked }
namespace Rows
def none {H : Type} : Left H := { results := [], args := [] }

/-- 'tachographlaw11.SigbinPuts': WHATEVER THE INPUT: true; the input reads as it did. -/
def sigbinPutsSpec : ChangeSpec := { name := "sigbinPuts", fn := fun _ => fun
  | [d] => { results := [.lit (.bool true)], args := [d] }
  | _ => none }
def sigbinPutsRow : OpenClaim := { program := "ytnjhkjlekepjoaa", sum := "ca74e34e824948640a4b783357ed02fafadce60d3428b67fda5205c29f31cdd2", func := "tachograph/tachographlaw11.SigbinPuts", spec := "sigbinPuts", unfollowed := true, recurses := true, plainKeys := false, apart := false }
def SigbinPutsSaid : Prop := sigbinPutsRow.holds Try.pinned (OpenSpec.ofChange sigbinPutsSpec)

/-- ITS FALSE NEIGHBOUR: 'it returns false'. Refute it at one input. -/
def sigbinPutsWrong : ChangeSpec := { name := "sigbinPuts", fn := fun _ => fun
  | [d] => { results := [.lit (.bool false)], args := [d] }
  | _ => none }
def SigbinPutsWrongFalsely : Prop := sigbinPutsRow.holds Try.pinned (OpenSpec.ofChange sigbinPutsWrong)

/-- 'tachographlaw11.SigbinGets': WHATEVER THE INPUT: true; the input reads as it did. -/
def sigbinGetsSpec : ChangeSpec := { name := "sigbinGets", fn := fun _ => fun
  | [d] => { results := [.lit (.bool true)], args := [d] }
  | _ => none }
def sigbinGetsRow : OpenClaim := { program := "ytnjhkjlekepjoaa", sum := "ca74e34e824948640a4b783357ed02fafadce60d3428b67fda5205c29f31cdd2", func := "tachograph/tachographlaw11.SigbinGets", spec := "sigbinGets", unfollowed := true, recurses := true, plainKeys := false, apart := false }
def SigbinGetsSaid : Prop := sigbinGetsRow.holds Try.pinned (OpenSpec.ofChange sigbinGetsSpec)

/-- ITS FALSE NEIGHBOUR: 'it returns false'. Refute it at one input. -/
def sigbinGetsWrong : ChangeSpec := { name := "sigbinGets", fn := fun _ => fun
  | [d] => { results := [.lit (.bool false)], args := [d] }
  | _ => none }
def SigbinGetsWrongFalsely : Prop := sigbinGetsRow.holds Try.pinned (OpenSpec.ofChange sigbinGetsWrong)

/-- 'tachographlaw11.SigbinCuts': WHATEVER THE INPUT: true; the input reads as it did. -/
def sigbinCutsSpec : ChangeSpec := { name := "sigbinCuts", fn := fun _ => fun
  | [d1, d2, d3] => { results := [.lit (.bool true)], args := [d1, d2, d3] }
  | _ => none }
def sigbinCutsRow : OpenClaim := { program := "ytnjhkjlekepjoaa", sum := "ca74e34e824948640a4b783357ed02fafadce60d3428b67fda5205c29f31cdd2", func := "tachograph/tachographlaw11.SigbinCuts", spec := "sigbinCuts", unfollowed := true, recurses := true, plainKeys := false, apart := false }
def SigbinCutsSaid : Prop := sigbinCutsRow.holds Try.pinned (OpenSpec.ofChange sigbinCutsSpec)

/-- ITS FALSE NEIGHBOUR: 'it returns false'. Refute it at one input. -/
def sigbinCutsWrong : ChangeSpec := { name := "sigbinCuts", fn := fun _ => fun
  | [d1, d2, d3] => { results := [.lit (.bool false)], args := [d1, d2, d3] }
  | _ => none }
def SigbinCutsWrongFalsely : Prop := sigbinCutsRow.holds Try.pinned (OpenSpec.ofChange sigbinCutsWrong)

/- THE SECOND FORM. 'bulk': how many values and letters a reading holds, each counted each time it is reached (what is shared counts as often as it is met; a slice's spare places count too). A statement '..UptoSaid' is the law's where the arguments, and the package variables that the reading takes, are together of bulk at most 1048576: NARROWER than '..Said'. Prove '..Said' where nothing that the law and all that it calls make is longer than what came in: it says more and counts as full. Else prove '..UptoSaid'. A law counts once. -/
mutual
def uptoBulk {H : Type} : DataW H → Nat
  | .lit (.string bytes) => bytes.length + 1
  | .lit _ => 1
  | .nil => 1
  | .ptr d => uptoBulk d + 1
  | .slice elems spare => uptoBulkAll elems + uptoBulkAll spare + 1
  | .agg parts => uptoBulkAll parts + 1
  | .iface _ d => uptoBulk d + 1
  | .map entries => uptoBulkEntries entries + 1
  | .held _ => 1
def uptoBulkAll {H : Type} : List (DataW H) → Nat
  | [] => 0
  | d :: r => uptoBulk d + uptoBulkAll r
def uptoBulkEntries {H : Type} : List (Lit × DataW H) → Nat
  | [] => 0
  | x :: r => uptoBulkEntry x + uptoBulkEntries r
def uptoBulkEntry {H : Type} : Lit × DataW H → Nat
  | (.string bytes, d) => bytes.length + uptoBulk d + 1
  | (_, d) => uptoBulk d + 1
 end
def uptoSmall : (H : Type) → List (DataW H) → Bool := fun _ ds => decide (uptoBulkAll ds ≤ 1048576)
def OpenSpec.upto (s : _root_.Go.ChangeSpec) : _root_.Go.OpenSpec := { _root_.Go.OpenSpec.ofChange s with cond := some uptoSmall }

/-- 'tachographlaw11.SigbinPuts', WHERE WHAT IT READS IS OF BULK AT MOST 1048576: true; the input reads as it did. -/
def sigbinPutsUptoRow : OpenClaim := { program := "ytnjhkjlekepjoaa", sum := "ca74e34e824948640a4b783357ed02fafadce60d3428b67fda5205c29f31cdd2", func := "tachograph/tachographlaw11.SigbinPuts", spec := "sigbinPuts", unfollowed := true, recurses := true, plainKeys := false, apart := false, narrowed := true }
def SigbinPutsUptoSaid : Prop := sigbinPutsUptoRow.holds Try.pinned (OpenSpec.upto sigbinPutsSpec)

/-- 'tachographlaw11.SigbinGets', WHERE WHAT IT READS IS OF BULK AT MOST 1048576: true; the input reads as it did. -/
def sigbinGetsUptoRow : OpenClaim := { program := "ytnjhkjlekepjoaa", sum := "ca74e34e824948640a4b783357ed02fafadce60d3428b67fda5205c29f31cdd2", func := "tachograph/tachographlaw11.SigbinGets", spec := "sigbinGets", unfollowed := true, recurses := true, plainKeys := false, apart := false, narrowed := true }
def SigbinGetsUptoSaid : Prop := sigbinGetsUptoRow.holds Try.pinned (OpenSpec.upto sigbinGetsSpec)

/-- 'tachographlaw11.SigbinCuts', WHERE WHAT IT READS IS OF BULK AT MOST 1048576: true; the input reads as it did. -/
def sigbinCutsUptoRow : OpenClaim := { program := "ytnjhkjlekepjoaa", sum := "ca74e34e824948640a4b783357ed02fafadce60d3428b67fda5205c29f31cdd2", func := "tachograph/tachographlaw11.SigbinCuts", spec := "sigbinCuts", unfollowed := true, recurses := true, plainKeys := false, apart := false, narrowed := true }
def SigbinCutsUptoSaid : Prop := sigbinCutsUptoRow.holds Try.pinned (OpenSpec.upto sigbinCutsSpec)

end Rows
end Go.Proofs.Ytnjhkjlekepjoaa
