/-
  No cell of these rows narrows 'for every input' (looked for: loops, veiled, ifaces, maps, wideKeys, modest, calm, conditions, laid).
  DERIVED. THE GIVEN ROWS OF THIS SEAT. 4 by the template 'for every input the law returns true; each argument reads behind the call as it read before'; 0 by the template 'total and deterministic' (their statements: YtncjfnmkoiclbaaTotals.lean).
  GIVEN WITH THE SEED: the statements are not yours to turn. If you find one false, say at which input.
  Laid BY PROGRAM, IN A SANDBOX (cutbox-rows.mjs): the forced cells as the released guide's own fill.sh prints them over the translation 0ea9d0350fb89342… (all of the seat's roots in one cut). By AI agents, Wed Nov 11 2026. No macro, syntax, notation, axiom, sorry.
-/
import Derived.Test.YtncjfnmkoiclbaaChecked
import GoSem.Claim
import GoSem.ClaimJoined
import GoSem.ClaimMapViews
import Derived.JoinedTies
import Derived.KernelRfl
namespace Go.Proofs.Ytncjfnmkoiclbaa
/- THE CELL 'sum', in the pinned program and in every row, IS THE sha256 OF THE DUMP (.gsa) THAT YtncjfnmkoiclbaaProg.lean LOADS. Nothing in Lean hashes anything: it is a label: what it is worth is what the hold of that sum in a sandbox is worth. -/
noncomputable def Try.pinned : Pinned := { name := "ytncjfnmkoiclbaa", sum := "0ea9d0350fb89342bbb31e348682b9c06170a066bd229103383412fb9f2abf37", checked := Try.checked }
namespace Rows
def none {H : Type} : Left H := { results := [], args := [] }

/-- 'tachographlaw09.SigChecks': WHATEVER THE INPUT: true; the input reads as it did. -/
def sigChecksSpec : ChangeSpec := { name := "sigChecks", fn := fun _ => fun
  | [d1, d2] => { results := [.lit (.bool true)], args := [d1, d2] }
  | _ => none }
def sigChecksRow : OpenClaim := { program := "ytncjfnmkoiclbaa", sum := "0ea9d0350fb89342bbb31e348682b9c06170a066bd229103383412fb9f2abf37", func := "tachograph/tachographlaw09.SigChecks", spec := "sigChecks", plainKeys := false, apart := false }
def SigChecksSaid : Prop := sigChecksRow.holds Try.pinned (OpenSpec.ofChange sigChecksSpec)

/-- ITS FALSE NEIGHBOUR: 'it returns false'. Refute it at one input. -/
def sigChecksWrong : ChangeSpec := { name := "sigChecks", fn := fun _ => fun
  | [d1, d2] => { results := [.lit (.bool false)], args := [d1, d2] }
  | _ => none }
def SigChecksWrongFalsely : Prop := sigChecksRow.holds Try.pinned (OpenSpec.ofChange sigChecksWrong)

/-- 'tachographlaw10.SigtextPrints': WHATEVER THE INPUT: true; the input reads as it did. -/
def sigtextPrintsSpec : ChangeSpec := { name := "sigtextPrints", fn := fun _ => fun
  | [d] => { results := [.lit (.bool true)], args := [d] }
  | _ => none }
def sigtextPrintsRow : OpenClaim := { program := "ytncjfnmkoiclbaa", sum := "0ea9d0350fb89342bbb31e348682b9c06170a066bd229103383412fb9f2abf37", func := "tachograph/tachographlaw10.SigtextPrints", spec := "sigtextPrints", inPlace := ["internal/bytealg.IndexByteString", "internal/bytealg.IndexString", "internal/abi.NoEscape", "internal/bytealg.MakeNoZero"], named := ["internal/bytealg.MaxLen"], plainKeys := false, apart := false }
def SigtextPrintsSaid : Prop := sigtextPrintsRow.holds Try.pinned (OpenSpec.ofChange sigtextPrintsSpec)

/-- ITS FALSE NEIGHBOUR: 'it returns false'. Refute it at one input. -/
def sigtextPrintsWrong : ChangeSpec := { name := "sigtextPrints", fn := fun _ => fun
  | [d] => { results := [.lit (.bool false)], args := [d] }
  | _ => none }
def SigtextPrintsWrongFalsely : Prop := sigtextPrintsRow.holds Try.pinned (OpenSpec.ofChange sigtextPrintsWrong)

/-- 'tachographlaw10.SigtextParses': WHATEVER THE INPUT: true; the input reads as it did. -/
def sigtextParsesSpec : ChangeSpec := { name := "sigtextParses", fn := fun _ => fun
  | [d] => { results := [.lit (.bool true)], args := [d] }
  | _ => none }
def sigtextParsesRow : OpenClaim := { program := "ytncjfnmkoiclbaa", sum := "0ea9d0350fb89342bbb31e348682b9c06170a066bd229103383412fb9f2abf37", func := "tachograph/tachographlaw10.SigtextParses", spec := "sigtextParses", inPlace := ["internal/bytealg.IndexByteString", "internal/bytealg.IndexString", "internal/abi.NoEscape", "internal/bytealg.MakeNoZero"], named := ["internal/bytealg.MaxLen"], plainKeys := false, apart := false }
def SigtextParsesSaid : Prop := sigtextParsesRow.holds Try.pinned (OpenSpec.ofChange sigtextParsesSpec)

/-- ITS FALSE NEIGHBOUR: 'it returns false'. Refute it at one input. -/
def sigtextParsesWrong : ChangeSpec := { name := "sigtextParses", fn := fun _ => fun
  | [d] => { results := [.lit (.bool false)], args := [d] }
  | _ => none }
def SigtextParsesWrongFalsely : Prop := sigtextParsesRow.holds Try.pinned (OpenSpec.ofChange sigtextParsesWrong)

/-- 'tachographlaw10.SigtextPlaces': WHATEVER THE INPUT: true; the input reads as it did. -/
def sigtextPlacesSpec : ChangeSpec := { name := "sigtextPlaces", fn := fun _ => fun
  | [d] => { results := [.lit (.bool true)], args := [d] }
  | _ => none }
def sigtextPlacesRow : OpenClaim := { program := "ytncjfnmkoiclbaa", sum := "0ea9d0350fb89342bbb31e348682b9c06170a066bd229103383412fb9f2abf37", func := "tachograph/tachographlaw10.SigtextPlaces", spec := "sigtextPlaces", inPlace := ["internal/bytealg.IndexByteString", "internal/bytealg.IndexString"], named := ["internal/bytealg.MaxLen"], plainKeys := false, apart := false }
def SigtextPlacesSaid : Prop := sigtextPlacesRow.holds Try.pinned (OpenSpec.ofChange sigtextPlacesSpec)

/-- ITS FALSE NEIGHBOUR: 'it returns false'. Refute it at one input. -/
def sigtextPlacesWrong : ChangeSpec := { name := "sigtextPlaces", fn := fun _ => fun
  | [d] => { results := [.lit (.bool false)], args := [d] }
  | _ => none }
def SigtextPlacesWrongFalsely : Prop := sigtextPlacesRow.holds Try.pinned (OpenSpec.ofChange sigtextPlacesWrong)

/- THE SECOND FORM. 'bulk': how many values and letters a reading holds, each counted each time it is reached (what is shared counts as often as it is met; a slice's spare places count too). A statement '..UptoSaid' is the law's where the arguments, and the package variables that the reading takes, are together of bulk at most 1048576: NARROWER than '..Said'. Prove '..Said' where nothing that the law and all that it calls make is longer than what came in: it says more and counts as full. Else prove '..UptoSaid'. A law counts once. -/
mutual
def uptoBulk {H : Type} : DataW H → Nat
  | .lit (.string bytes) => bytes.length + 1
  | .lit _ => 1
  | .nil => 1
  | .ptr d => uptoBulk d + 1
  | .slice elems spare => uptoBulkAll elems + uptoBulkAll spare + 1
  | .agg parts => uptoBulkAll parts + 1
  | .iface _ d => uptoBulk d + 1
  | .map entries => uptoBulkEntries entries + 1
  | .held _ => 1
def uptoBulkAll {H : Type} : List (DataW H) → Nat
  | [] => 0
  | d :: r => uptoBulk d + uptoBulkAll r
def uptoBulkEntries {H : Type} : List (Lit × DataW H) → Nat
  | [] => 0
  | x :: r => uptoBulkEntry x + uptoBulkEntries r
def uptoBulkEntry {H : Type} : Lit × DataW H → Nat
  | (.string bytes, d) => bytes.length + uptoBulk d + 1
  | (_, d) => uptoBulk d + 1
 end
def uptoSmall : (H : Type) → List (DataW H) → Bool := fun _ ds => decide (uptoBulkAll ds ≤ 1048576)
def OpenSpec.upto (s : _root_.Go.ChangeSpec) : _root_.Go.OpenSpec := { _root_.Go.OpenSpec.ofChange s with cond := some uptoSmall }

/-- 'tachographlaw09.SigChecks', WHERE WHAT IT READS IS OF BULK AT MOST 1048576: true; the input reads as it did. -/
def sigChecksUptoRow : OpenClaim := { program := "ytncjfnmkoiclbaa", sum := "0ea9d0350fb89342bbb31e348682b9c06170a066bd229103383412fb9f2abf37", func := "tachograph/tachographlaw09.SigChecks", spec := "sigChecks", plainKeys := false, apart := false, narrowed := true }
def SigChecksUptoSaid : Prop := sigChecksUptoRow.holds Try.pinned (OpenSpec.upto sigChecksSpec)

/-- 'tachographlaw10.SigtextPrints', WHERE WHAT IT READS IS OF BULK AT MOST 1048576: true; the input reads as it did. -/
def sigtextPrintsUptoRow : OpenClaim := { program := "ytncjfnmkoiclbaa", sum := "0ea9d0350fb89342bbb31e348682b9c06170a066bd229103383412fb9f2abf37", func := "tachograph/tachographlaw10.SigtextPrints", spec := "sigtextPrints", inPlace := ["internal/bytealg.IndexByteString", "internal/bytealg.IndexString", "internal/abi.NoEscape", "internal/bytealg.MakeNoZero"], named := ["internal/bytealg.MaxLen"], plainKeys := false, apart := false, narrowed := true }
def SigtextPrintsUptoSaid : Prop := sigtextPrintsUptoRow.holds Try.pinned (OpenSpec.upto sigtextPrintsSpec)

/-- 'tachographlaw10.SigtextParses', WHERE WHAT IT READS IS OF BULK AT MOST 1048576: true; the input reads as it did. -/
def sigtextParsesUptoRow : OpenClaim := { program := "ytncjfnmkoiclbaa", sum := "0ea9d0350fb89342bbb31e348682b9c06170a066bd229103383412fb9f2abf37", func := "tachograph/tachographlaw10.SigtextParses", spec := "sigtextParses", inPlace := ["internal/bytealg.IndexByteString", "internal/bytealg.IndexString", "internal/abi.NoEscape", "internal/bytealg.MakeNoZero"], named := ["internal/bytealg.MaxLen"], plainKeys := false, apart := false, narrowed := true }
def SigtextParsesUptoSaid : Prop := sigtextParsesUptoRow.holds Try.pinned (OpenSpec.upto sigtextParsesSpec)

/-- 'tachographlaw10.SigtextPlaces', WHERE WHAT IT READS IS OF BULK AT MOST 1048576: true; the input reads as it did. -/
def sigtextPlacesUptoRow : OpenClaim := { program := "ytncjfnmkoiclbaa", sum := "0ea9d0350fb89342bbb31e348682b9c06170a066bd229103383412fb9f2abf37", func := "tachograph/tachographlaw10.SigtextPlaces", spec := "sigtextPlaces", inPlace := ["internal/bytealg.IndexByteString", "internal/bytealg.IndexString"], named := ["internal/bytealg.MaxLen"], plainKeys := false, apart := false, narrowed := true }
def SigtextPlacesUptoSaid : Prop := sigtextPlacesUptoRow.holds Try.pinned (OpenSpec.upto sigtextPlacesSpec)

end Rows
end Go.Proofs.Ytncjfnmkoiclbaa
