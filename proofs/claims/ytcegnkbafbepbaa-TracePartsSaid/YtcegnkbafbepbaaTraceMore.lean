/-
  A trace of a signature with a point more whose time is less: what trace.Check answers.
-/
import Derived.Test.YtcegnkbafbepbaaTraceChk
import Derived.Test.YtcegnkbafbepbaaTraceApp
namespace Go.Proofs.Ytcegnkbafbepbaa
open Go.RowKit

theorem tcheck_more (a0 : Option Addr) (cap0 : Nat) (l0 : List Pd) (a1 : Option Addr) (cap1 : Nat) (l1 : List Pm) (q : Pm) (w W : World) (hrow : PredRow w w.heap.size (.slice a0 l0.length cap0) l0) (htr : TrRow w w.heap.size (.slice a1 l1.length cap1) l1)
    (hb : Below w.heap.size w W) (hok : (checkT (l0.map (·.p)) (l1.map (·.p))).1 = 0) (hq : 0 < l1.length ∧ q.tm < ((l1.map (·.p)).getD (l1.length - 1) default).tm) (hf : q.evs = [] ∧ q.A = none ∧ q.c = 0 ∧ q.Fits) (A4 : Option Addr) (c4 : Nat)
    (hown : W.ownsRow w.heap.size 39 2 (.slice A4 (l1.length + 1) c4) (l1.length + 1) (flatN l1 ++ flatN [q])) :
    Calls Try.prog 9 #[.slice a0 l0.length cap0, .slice A4 (l1.length + 1) c4] W fun e w' => e = .returned (.tuple #[.int .i64 8, .int .i64 l1.length]) ∧ Below W.heap.size W w' := by
  obtain ⟨tm, evs, qA, qc⟩ := q
  obtain ⟨rfl, rfl, rfl, hft⟩ := hf
  have hr : TrRow W W.heap.size (.slice A4 (l1 ++ [(⟨tm, [], none, 0⟩ : Pm)]).length c4) (l1 ++ [⟨tm, [], none, 0⟩]) := by
    refine ⟨?_, fun d hd => ?_⟩
    · have h := ERow.of_own hown
      rw [← flatN_append] at h
      simpa using h
    · rcases List.mem_append.1 hd with h | h
      · exact ((htr.2 d h).below hb).more hb.size
      · obtain rfl := List.mem_singleton.1 h
        exact ⟨⟨ERow.nil _ _, by simp⟩, hft⟩
  have h := tcheck_any a0 cap0 l0 A4 c4 _ W ((hrow.below hb).more hb.size) hr
  rw [List.map_append, show ([(⟨tm, [], none, 0⟩ : Pm)].map (·.p)) = [⟨tm, []⟩] from rfl, checkT_less hok (q := ⟨tm, []⟩) (by rw [List.length_map]; exact hq.1) (by rw [List.length_map]; exact hq.2), List.length_map] at h
  simpa using h
#print axioms tcheck_more
end Go.Proofs.Ytcegnkbafbepbaa
