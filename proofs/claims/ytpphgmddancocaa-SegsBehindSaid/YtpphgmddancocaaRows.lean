/-
  No cell of these rows narrows 'for every input' (looked for: loops, veiled, ifaces, maps, wideKeys, modest, calm, conditions, laid).
  DERIVED. THE GIVEN ROWS OF THIS SEAT. 7 by the template 'for every input the law returns true; each argument reads behind the call as it read before'; 0 by the template 'total and deterministic' (their statements: YtpphgmddancocaaTotals.lean).
  GIVEN WITH THE SEED: the statements are not yours to turn. If you find one false, say at which input.
  Laid BY PROGRAM, IN A SANDBOX (cutbox-rows.mjs): the forced cells as the released guide's own fill.sh prints them over the translation 6a81cdab80c6c053… (all of the seat's roots in one cut). By AI agents, Wed Nov 11 2026. No macro, syntax, notation, axiom, sorry.
-/
import Derived.Test.YtpphgmddancocaaChecked
import GoSem.Claim
import GoSem.ClaimJoined
import GoSem.ClaimMapViews
import Derived.JoinedTies
import Derived.KernelRfl
namespace Go.Proofs.Ytpphgmddancocaa
/- THE CELL 'sum', in the pinned program and in every row, IS THE sha256 OF THE DUMP (.gsa) THAT YtpphgmddancocaaProg.lean LOADS. Nothing in Lean hashes anything: it is a label: what it is worth is what the hold of that sum in a sandbox is worth. -/
noncomputable def Try.pinned : Pinned := { name := "ytpphgmddancocaa", sum := "6a81cdab80c6c053cc21959bf39ec01bc18a19fec56d12d26aef279bb2de03b4", checked := Try.checked }
namespace Rows
def none {H : Type} : Left H := { results := [], args := [] }

/-- 'tachographlaw04.CrcSums': WHATEVER THE INPUT: true; the input reads as it did. -/
def crcSumsSpec : ChangeSpec := { name := "crcSums", fn := fun _ => fun
  | [d1, d2, d3] => { results := [.lit (.bool true)], args := [d1, d2, d3] }
  | _ => none }
def crcSumsRow : OpenClaim := { program := "ytpphgmddancocaa", sum := "6a81cdab80c6c053cc21959bf39ec01bc18a19fec56d12d26aef279bb2de03b4", func := "tachograph/tachographlaw04.CrcSums", spec := "crcSums", apart := false }
def CrcSumsSaid : Prop := crcSumsRow.holds Try.pinned (OpenSpec.ofChange crcSumsSpec)

/-- ITS FALSE NEIGHBOUR: 'it returns false'. Refute it at one input. -/
def crcSumsWrong : ChangeSpec := { name := "crcSums", fn := fun _ => fun
  | [d1, d2, d3] => { results := [.lit (.bool false)], args := [d1, d2, d3] }
  | _ => none }
def CrcSumsWrongFalsely : Prop := crcSumsRow.holds Try.pinned (OpenSpec.ofChange crcSumsWrong)

/-- 'tachographlaw05.FramePuts': WHATEVER THE INPUT: true; the input reads as it did. -/
def framePutsSpec : ChangeSpec := { name := "framePuts", fn := fun _ => fun
  | [d1, d2] => { results := [.lit (.bool true)], args := [d1, d2] }
  | _ => none }
def framePutsRow : OpenClaim := { program := "ytpphgmddancocaa", sum := "6a81cdab80c6c053cc21959bf39ec01bc18a19fec56d12d26aef279bb2de03b4", func := "tachograph/tachographlaw05.FramePuts", spec := "framePuts", unfollowed := true, recurses := true, apart := false }
def FramePutsSaid : Prop := framePutsRow.holds Try.pinned (OpenSpec.ofChange framePutsSpec)

/-- ITS FALSE NEIGHBOUR: 'it returns false'. Refute it at one input. -/
def framePutsWrong : ChangeSpec := { name := "framePuts", fn := fun _ => fun
  | [d1, d2] => { results := [.lit (.bool false)], args := [d1, d2] }
  | _ => none }
def FramePutsWrongFalsely : Prop := framePutsRow.holds Try.pinned (OpenSpec.ofChange framePutsWrong)

/-- 'tachographlaw05.FrameGets': WHATEVER THE INPUT: true; the input reads as it did. -/
def frameGetsSpec : ChangeSpec := { name := "frameGets", fn := fun _ => fun
  | [d] => { results := [.lit (.bool true)], args := [d] }
  | _ => none }
def frameGetsRow : OpenClaim := { program := "ytpphgmddancocaa", sum := "6a81cdab80c6c053cc21959bf39ec01bc18a19fec56d12d26aef279bb2de03b4", func := "tachograph/tachographlaw05.FrameGets", spec := "frameGets", unfollowed := true, recurses := true, apart := false }
def FrameGetsSaid : Prop := frameGetsRow.holds Try.pinned (OpenSpec.ofChange frameGetsSpec)

/-- ITS FALSE NEIGHBOUR: 'it returns false'. Refute it at one input. -/
def frameGetsWrong : ChangeSpec := { name := "frameGets", fn := fun _ => fun
  | [d] => { results := [.lit (.bool false)], args := [d] }
  | _ => none }
def FrameGetsWrongFalsely : Prop := frameGetsRow.holds Try.pinned (OpenSpec.ofChange frameGetsWrong)

/-- 'tachographlaw06.FindPlaces': WHATEVER THE INPUT: true; the input reads as it did. -/
def findPlacesSpec : ChangeSpec := { name := "findPlaces", fn := fun _ => fun
  | [d1, d2, d3] => { results := [.lit (.bool true)], args := [d1, d2, d3] }
  | _ => none }
def findPlacesRow : OpenClaim := { program := "ytpphgmddancocaa", sum := "6a81cdab80c6c053cc21959bf39ec01bc18a19fec56d12d26aef279bb2de03b4", func := "tachograph/tachographlaw06.FindPlaces", spec := "findPlaces", unfollowed := true, recurses := true, apart := false }
def FindPlacesSaid : Prop := findPlacesRow.holds Try.pinned (OpenSpec.ofChange findPlacesSpec)

/-- ITS FALSE NEIGHBOUR: 'it returns false'. Refute it at one input. -/
def findPlacesWrong : ChangeSpec := { name := "findPlaces", fn := fun _ => fun
  | [d1, d2, d3] => { results := [.lit (.bool false)], args := [d1, d2, d3] }
  | _ => none }
def FindPlacesWrongFalsely : Prop := findPlacesRow.holds Try.pinned (OpenSpec.ofChange findPlacesWrong)

/-- 'tachographlaw07.SegsOf': WHATEVER THE INPUT: true; the input reads as it did. -/
def segsOfSpec : ChangeSpec := { name := "segsOf", fn := fun _ => fun
  | [d] => { results := [.lit (.bool true)], args := [d] }
  | _ => none }
def segsOfRow : OpenClaim := { program := "ytpphgmddancocaa", sum := "6a81cdab80c6c053cc21959bf39ec01bc18a19fec56d12d26aef279bb2de03b4", func := "tachograph/tachographlaw07.SegsOf", spec := "segsOf", unfollowed := true, recurses := true, apart := false }
def SegsOfSaid : Prop := segsOfRow.holds Try.pinned (OpenSpec.ofChange segsOfSpec)

/-- ITS FALSE NEIGHBOUR: 'it returns false'. Refute it at one input. -/
def segsOfWrong : ChangeSpec := { name := "segsOf", fn := fun _ => fun
  | [d] => { results := [.lit (.bool false)], args := [d] }
  | _ => none }
def SegsOfWrongFalsely : Prop := segsOfRow.holds Try.pinned (OpenSpec.ofChange segsOfWrong)

/-- 'tachographlaw07.SegsAll': WHATEVER THE INPUT: true; the input reads as it did. -/
def segsAllSpec : ChangeSpec := { name := "segsAll", fn := fun _ => fun
  | [d] => { results := [.lit (.bool true)], args := [d] }
  | _ => none }
def segsAllRow : OpenClaim := { program := "ytpphgmddancocaa", sum := "6a81cdab80c6c053cc21959bf39ec01bc18a19fec56d12d26aef279bb2de03b4", func := "tachograph/tachographlaw07.SegsAll", spec := "segsAll", unfollowed := true, recurses := true, apart := false }
def SegsAllSaid : Prop := segsAllRow.holds Try.pinned (OpenSpec.ofChange segsAllSpec)

/-- ITS FALSE NEIGHBOUR: 'it returns false'. Refute it at one input. -/
def segsAllWrong : ChangeSpec := { name := "segsAll", fn := fun _ => fun
  | [d] => { results := [.lit (.bool false)], args := [d] }
  | _ => none }
def SegsAllWrongFalsely : Prop := segsAllRow.holds Try.pinned (OpenSpec.ofChange segsAllWrong)

/-- 'tachographlaw07.SegsBehind': WHATEVER THE INPUT: true; the input reads as it did. -/
def segsBehindSpec : ChangeSpec := { name := "segsBehind", fn := fun _ => fun
  | [d] => { results := [.lit (.bool true)], args := [d] }
  | _ => none }
def segsBehindRow : OpenClaim := { program := "ytpphgmddancocaa", sum := "6a81cdab80c6c053cc21959bf39ec01bc18a19fec56d12d26aef279bb2de03b4", func := "tachograph/tachographlaw07.SegsBehind", spec := "segsBehind", unfollowed := true, recurses := true, apart := false }
def SegsBehindSaid : Prop := segsBehindRow.holds Try.pinned (OpenSpec.ofChange segsBehindSpec)

/-- ITS FALSE NEIGHBOUR: 'it returns false'. Refute it at one input. -/
def segsBehindWrong : ChangeSpec := { name := "segsBehind", fn := fun _ => fun
  | [d] => { results := [.lit (.bool false)], args := [d] }
  | _ => none }
def SegsBehindWrongFalsely : Prop := segsBehindRow.holds Try.pinned (OpenSpec.ofChange segsBehindWrong)

/- THE SECOND FORM. 'bulk': how many values and letters a reading holds, each counted each time it is reached (what is shared counts as often as it is met; a slice's spare places count too). A statement '..UptoSaid' is the law's where the arguments, and the package variables that the reading takes, are together of bulk at most 1048576: NARROWER than '..Said'. Prove '..Said' where nothing that the law and all that it calls make is longer than what came in: it says more and counts as full. Else prove '..UptoSaid'. A law counts once. -/
mutual
def uptoBulk {H : Type} : DataW H → Nat
  | .lit (.string bytes) => bytes.length + 1
  | .lit _ => 1
  | .nil => 1
  | .ptr d => uptoBulk d + 1
  | .slice elems spare => uptoBulkAll elems + uptoBulkAll spare + 1
  | .agg parts => uptoBulkAll parts + 1
  | .iface _ d => uptoBulk d + 1
  | .map entries => uptoBulkEntries entries + 1
  | .held _ => 1
def uptoBulkAll {H : Type} : List (DataW H) → Nat
  | [] => 0
  | d :: r => uptoBulk d + uptoBulkAll r
def uptoBulkEntries {H : Type} : List (Lit × DataW H) → Nat
  | [] => 0
  | x :: r => uptoBulkEntry x + uptoBulkEntries r
def uptoBulkEntry {H : Type} : Lit × DataW H → Nat
  | (.string bytes, d) => bytes.length + uptoBulk d + 1
  | (_, d) => uptoBulk d + 1
 end
def uptoSmall : (H : Type) → List (DataW H) → Bool := fun _ ds => decide (uptoBulkAll ds ≤ 1048576)
def OpenSpec.upto (s : _root_.Go.ChangeSpec) : _root_.Go.OpenSpec := { _root_.Go.OpenSpec.ofChange s with cond := some uptoSmall }

/-- 'tachographlaw04.CrcSums', WHERE WHAT IT READS IS OF BULK AT MOST 1048576: true; the input reads as it did. -/
def crcSumsUptoRow : OpenClaim := { program := "ytpphgmddancocaa", sum := "6a81cdab80c6c053cc21959bf39ec01bc18a19fec56d12d26aef279bb2de03b4", func := "tachograph/tachographlaw04.CrcSums", spec := "crcSums", apart := false, narrowed := true }
def CrcSumsUptoSaid : Prop := crcSumsUptoRow.holds Try.pinned (OpenSpec.upto crcSumsSpec)

/-- 'tachographlaw05.FramePuts', WHERE WHAT IT READS IS OF BULK AT MOST 1048576: true; the input reads as it did. -/
def framePutsUptoRow : OpenClaim := { program := "ytpphgmddancocaa", sum := "6a81cdab80c6c053cc21959bf39ec01bc18a19fec56d12d26aef279bb2de03b4", func := "tachograph/tachographlaw05.FramePuts", spec := "framePuts", unfollowed := true, recurses := true, apart := false, narrowed := true }
def FramePutsUptoSaid : Prop := framePutsUptoRow.holds Try.pinned (OpenSpec.upto framePutsSpec)

/-- 'tachographlaw05.FrameGets', WHERE WHAT IT READS IS OF BULK AT MOST 1048576: true; the input reads as it did. -/
def frameGetsUptoRow : OpenClaim := { program := "ytpphgmddancocaa", sum := "6a81cdab80c6c053cc21959bf39ec01bc18a19fec56d12d26aef279bb2de03b4", func := "tachograph/tachographlaw05.FrameGets", spec := "frameGets", unfollowed := true, recurses := true, apart := false, narrowed := true }
def FrameGetsUptoSaid : Prop := frameGetsUptoRow.holds Try.pinned (OpenSpec.upto frameGetsSpec)

/-- 'tachographlaw06.FindPlaces', WHERE WHAT IT READS IS OF BULK AT MOST 1048576: true; the input reads as it did. -/
def findPlacesUptoRow : OpenClaim := { program := "ytpphgmddancocaa", sum := "6a81cdab80c6c053cc21959bf39ec01bc18a19fec56d12d26aef279bb2de03b4", func := "tachograph/tachographlaw06.FindPlaces", spec := "findPlaces", unfollowed := true, recurses := true, apart := false, narrowed := true }
def FindPlacesUptoSaid : Prop := findPlacesUptoRow.holds Try.pinned (OpenSpec.upto findPlacesSpec)

/-- 'tachographlaw07.SegsOf', WHERE WHAT IT READS IS OF BULK AT MOST 1048576: true; the input reads as it did. -/
def segsOfUptoRow : OpenClaim := { program := "ytpphgmddancocaa", sum := "6a81cdab80c6c053cc21959bf39ec01bc18a19fec56d12d26aef279bb2de03b4", func := "tachograph/tachographlaw07.SegsOf", spec := "segsOf", unfollowed := true, recurses := true, apart := false, narrowed := true }
def SegsOfUptoSaid : Prop := segsOfUptoRow.holds Try.pinned (OpenSpec.upto segsOfSpec)

/-- 'tachographlaw07.SegsAll', WHERE WHAT IT READS IS OF BULK AT MOST 1048576: true; the input reads as it did. -/
def segsAllUptoRow : OpenClaim := { program := "ytpphgmddancocaa", sum := "6a81cdab80c6c053cc21959bf39ec01bc18a19fec56d12d26aef279bb2de03b4", func := "tachograph/tachographlaw07.SegsAll", spec := "segsAll", unfollowed := true, recurses := true, apart := false, narrowed := true }
def SegsAllUptoSaid : Prop := segsAllUptoRow.holds Try.pinned (OpenSpec.upto segsAllSpec)

/-- 'tachographlaw07.SegsBehind', WHERE WHAT IT READS IS OF BULK AT MOST 1048576: true; the input reads as it did. -/
def segsBehindUptoRow : OpenClaim := { program := "ytpphgmddancocaa", sum := "6a81cdab80c6c053cc21959bf39ec01bc18a19fec56d12d26aef279bb2de03b4", func := "tachograph/tachographlaw07.SegsBehind", spec := "segsBehind", unfollowed := true, recurses := true, apart := false, narrowed := true }
def SegsBehindUptoSaid : Prop := segsBehindUptoRow.holds Try.pinned (OpenSpec.upto segsBehindSpec)

end Rows
end Go.Proofs.Ytpphgmddancocaa
