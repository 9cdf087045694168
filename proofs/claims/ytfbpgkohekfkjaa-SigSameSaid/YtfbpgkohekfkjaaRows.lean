/-
  No cell of these rows narrows 'for every input' (looked for: loops, veiled, ifaces, maps, wideKeys, modest, calm, conditions, laid).
  DERIVED. THE GIVEN ROWS OF THIS SEAT. 3 by the template 'for every input the law returns true; each argument reads behind the call as it read before'; 0 by the template 'total and deterministic' (their statements: YtfbpgkohekfkjaaTotals.lean).
  GIVEN WITH THE SEED: the statements are not yours to turn. If you find one false, say at which input.
  Laid BY PROGRAM, IN A SANDBOX (cutbox-rows.mjs): the forced cells as the released guide's own fill.sh prints them over the translation 74a8101527b6d74d… (all of the seat's roots in one cut). By AI agents, Wed Nov 11 2026. No macro, syntax, notation, axiom, sorry.
-/
import Derived.Test.YtfbpgkohekfkjaaChecked
import GoSem.Claim
import GoSem.ClaimJoined
import GoSem.ClaimMapViews
import Derived.JoinedTies
import Derived.KernelRfl
namespace Go.Proofs.Ytfbpgkohekfkjaa
/- THE CELL 'sum', in the pinned program and in every row, IS THE sha256 OF THE DUMP (.gsa) THAT YtfbpgkohekfkjaaProg.lean LOADS. Nothing in Lean hashes anything: it is a label: what it is worth is what the hold of that sum in a sandbox is worth. -/
noncomputable def Try.pinned : Pinned := { name := "ytfbpgkohekfkjaa", sum := "74a8101527b6d74d973069f4d9232adf503826175e414b63d0ff12de22e7ec54", checked := Try.checked }
namespace Rows
def none {H : Type} : Left H := { results := [], args := [] }

/-- 'tachographlaw09.SigChecks': WHATEVER THE INPUT: true; the input reads as it did. -/
def sigChecksSpec : ChangeSpec := { name := "sigChecks", fn := fun _ => fun
  | [d1, d2] => { results := [.lit (.bool true)], args := [d1, d2] }
  | _ => none }
def sigChecksRow : OpenClaim := { program := "ytfbpgkohekfkjaa", sum := "74a8101527b6d74d973069f4d9232adf503826175e414b63d0ff12de22e7ec54", func := "tachograph/tachographlaw09.SigChecks", spec := "sigChecks", plainKeys := false, apart := false }
def SigChecksSaid : Prop := sigChecksRow.holds Try.pinned (OpenSpec.ofChange sigChecksSpec)

/-- ITS FALSE NEIGHBOUR: 'it returns false'. Refute it at one input. -/
def sigChecksWrong : ChangeSpec := { name := "sigChecks", fn := fun _ => fun
  | [d1, d2] => { results := [.lit (.bool false)], args := [d1, d2] }
  | _ => none }
def SigChecksWrongFalsely : Prop := sigChecksRow.holds Try.pinned (OpenSpec.ofChange sigChecksWrong)

/-- 'tachographlaw09.SigSame': WHATEVER THE INPUT: true; the input reads as it did. -/
def sigSameSpec : ChangeSpec := { name := "sigSame", fn := fun _ => fun
  | [d1, d2] => { results := [.lit (.bool true)], args := [d1, d2] }
  | _ => none }
def sigSameRow : OpenClaim := { program := "ytfbpgkohekfkjaa", sum := "74a8101527b6d74d973069f4d9232adf503826175e414b63d0ff12de22e7ec54", func := "tachograph/tachographlaw09.SigSame", spec := "sigSame", unfollowed := true, recurses := true, plainKeys := false, apart := false }
def SigSameSaid : Prop := sigSameRow.holds Try.pinned (OpenSpec.ofChange sigSameSpec)

/-- ITS FALSE NEIGHBOUR: 'it returns false'. Refute it at one input. -/
def sigSameWrong : ChangeSpec := { name := "sigSame", fn := fun _ => fun
  | [d1, d2] => { results := [.lit (.bool false)], args := [d1, d2] }
  | _ => none }
def SigSameWrongFalsely : Prop := sigSameRow.holds Try.pinned (OpenSpec.ofChange sigSameWrong)

/-- 'tachographlaw09.SigFirst': WHATEVER THE INPUT: true; the input reads as it did. -/
def sigFirstSpec : ChangeSpec := { name := "sigFirst", fn := fun _ => fun
  | [d1, d2] => { results := [.lit (.bool true)], args := [d1, d2] }
  | _ => none }
def sigFirstRow : OpenClaim := { program := "ytfbpgkohekfkjaa", sum := "74a8101527b6d74d973069f4d9232adf503826175e414b63d0ff12de22e7ec54", func := "tachograph/tachographlaw09.SigFirst", spec := "sigFirst", plainKeys := false, apart := false }
def SigFirstSaid : Prop := sigFirstRow.holds Try.pinned (OpenSpec.ofChange sigFirstSpec)

/-- ITS FALSE NEIGHBOUR: 'it returns false'. Refute it at one input. -/
def sigFirstWrong : ChangeSpec := { name := "sigFirst", fn := fun _ => fun
  | [d1, d2] => { results := [.lit (.bool false)], args := [d1, d2] }
  | _ => none }
def SigFirstWrongFalsely : Prop := sigFirstRow.holds Try.pinned (OpenSpec.ofChange sigFirstWrong)

/- THE SECOND FORM. 'bulk': how many values and letters a reading holds, each counted each time it is reached (what is shared counts as often as it is met; a slice's spare places count too). A statement '..UptoSaid' is the law's where the arguments, and the package variables that the reading takes, are together of bulk at most 1048576: NARROWER than '..Said'. Prove '..Said' where nothing that the law and all that it calls make is longer than what came in: it says more and counts as full. Else prove '..UptoSaid'. A law counts once. -/
mutual
def uptoBulk {H : Type} : DataW H → Nat
  | .lit (.string bytes) => bytes.length + 1
  | .lit _ => 1
  | .nil => 1
  | .ptr d => uptoBulk d + 1
  | .slice elems spare => uptoBulkAll elems + uptoBulkAll spare + 1
  | .agg parts => uptoBulkAll parts + 1
  | .iface _ d => uptoBulk d + 1
  | .map entries => uptoBulkEntries entries + 1
  | .held _ => 1
def uptoBulkAll {H : Type} : List (DataW H) → Nat
  | [] => 0
  | d :: r => uptoBulk d + uptoBulkAll r
def uptoBulkEntries {H : Type} : List (Lit × DataW H) → Nat
  | [] => 0
  | x :: r => uptoBulkEntry x + uptoBulkEntries r
def uptoBulkEntry {H : Type} : Lit × DataW H → Nat
  | (.string bytes, d) => bytes.length + uptoBulk d + 1
  | (_, d) => uptoBulk d + 1
 end
def uptoSmall : (H : Type) → List (DataW H) → Bool := fun _ ds => decide (uptoBulkAll ds ≤ 1048576)
def OpenSpec.upto (s : _root_.Go.ChangeSpec) : _root_.Go.OpenSpec := { _root_.Go.OpenSpec.ofChange s with cond := some uptoSmall }

/-- 'tachographlaw09.SigChecks', WHERE WHAT IT READS IS OF BULK AT MOST 1048576: true; the input reads as it did. -/
def sigChecksUptoRow : OpenClaim := { program := "ytfbpgkohekfkjaa", sum := "74a8101527b6d74d973069f4d9232adf503826175e414b63d0ff12de22e7ec54", func := "tachograph/tachographlaw09.SigChecks", spec := "sigChecks", plainKeys := false, apart := false, narrowed := true }
def SigChecksUptoSaid : Prop := sigChecksUptoRow.holds Try.pinned (OpenSpec.upto sigChecksSpec)

/-- 'tachographlaw09.SigSame', WHERE WHAT IT READS IS OF BULK AT MOST 1048576: true; the input reads as it did. -/
def sigSameUptoRow : OpenClaim := { program := "ytfbpgkohekfkjaa", sum := "74a8101527b6d74d973069f4d9232adf503826175e414b63d0ff12de22e7ec54", func := "tachograph/tachographlaw09.SigSame", spec := "sigSame", unfollowed := true, recurses := true, plainKeys := false, apart := false, narrowed := true }
def SigSameUptoSaid : Prop := sigSameUptoRow.holds Try.pinned (OpenSpec.upto sigSameSpec)

/-- 'tachographlaw09.SigFirst', WHERE WHAT IT READS IS OF BULK AT MOST 1048576: true; the input reads as it did. -/
def sigFirstUptoRow : OpenClaim := { program := "ytfbpgkohekfkjaa", sum := "74a8101527b6d74d973069f4d9232adf503826175e414b63d0ff12de22e7ec54", func := "tachograph/tachographlaw09.SigFirst", spec := "sigFirst", plainKeys := false, apart := false, narrowed := true }
def SigFirstUptoSaid : Prop := sigFirstUptoRow.holds Try.pinned (OpenSpec.upto sigFirstSpec)

end Rows
end Go.Proofs.Ytfbpgkohekfkjaa
