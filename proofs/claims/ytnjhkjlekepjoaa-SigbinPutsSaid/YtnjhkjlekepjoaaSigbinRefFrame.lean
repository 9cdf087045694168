/-
  The document's own Frame for signatures.
-/
import Derived.Test.YtnjhkjlekepjoaaSigbinRef
import Derived.Test.YtnjhkjlekepjoaaSigbinFrame
import Derived.Test.YtnjhkjlekepjoaaFrameRef
namespace Go.Proofs.Ytnjhkjlekepjoaa
open Go.RowKit

set_option maxRecDepth 100000 in
set_option maxHeartbeats 1000000 in
theorem rsbframe_any (A : Option Addr) (c : Nat) (ds : List Pd) (w : World) (hrow : PredRow w w.heap.size (.slice A ds.length c) ds) :
    Calls Try.prog 11 #[.slice A ds.length c] w fun e w' => e = .returned (.tuple #[.string (strOfNums (frameS (ds.map (·.p))).1), .int .i64 (frameS (ds.map (·.p))).2]) ∧ Below w.heap.size w w' := by
  have hput := rsbput_any A c ds w hrow
  clear hrow
  unfold frameS
  unfold putS at hput
  by_cases h0 : checkP (ds.map (·.p)) = 0
  · rw [if_pos h0] at hput ⊢
    obtain ⟨_, hl⟩ := encS_le h0
    have hby := encS_bytes h0
    generalize encS (ds.map (·.p)) = p at hput hl hby ⊢
    have HP := Lib.hid hput
    have HBY := Lib.hid hby
    have hss : (strOfNums p).size = p.length := strOfNums_size p
    clear hput hby h0
    go_enter Try.func11, Try.ntmps11
    go_wp2_with fail
    refine HP.out.mono ?_
    rintro e w1 ⟨rfl, hb1⟩
    have hpi : ((strOfNums p).size : Int) ≤ 4096 := by rw [hss]; omega
    obtain ⟨A2, c2, w2, hcv, hr2, hb2⟩ := conv_bytes (P := Try.prog) w1 9 25 5 Try.underlying9 Try.underlying25 Try.underlying5 p HBY.out (by omega)
    have HB2 := Lib.hid (hb1.trans (hb2.mono hb1.size))
    have HF := Lib.hid (rfput_any 1 (.inl rfl) A2 c2 p (by omega) HBY.out w2 hr2)
    clear hb1 hb2 hr2
    go_wp2_with fail
    refine HF.out.mono ?_
    rintro e w3 ⟨rfl, hb3⟩
    have HB3 := Lib.hid (HB2.out.trans (hb3.mono HB2.out.size))
    clear hb3
    go_wp2_with fail
    go_ret2
    exact ⟨rfl, HB3.out⟩
  · rw [if_neg h0] at hput ⊢
    have hne : (checkP (ds.map (·.p)) != 0) = true := bne_iff_ne.2 h0
    generalize checkP (ds.map (·.p)) = C at hput hne ⊢
    have HP := Lib.hid hput
    clear hput h0
    go_enter Try.func11, Try.ntmps11
    go_wp2_with fail
    refine HP.out.mono ?_
    rintro e w1 ⟨rfl, hb1⟩
    have HB1 := Lib.hid hb1
    clear hb1
    go_wp2_with fail
    go_ret2
    exact ⟨rfl, HB1.out⟩
#print axioms rsbframe_any
end Go.Proofs.Ytnjhkjlekepjoaa
