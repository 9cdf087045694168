/-
  What (*Feed).tell answers.
-/
import Derived.Test.YtfaedecfpnmnjaaFeedSkip
import Derived.Test.YtfaedecfpnmnjaaPlainFeed
namespace Go.Proofs.Ytfaedecfpnmnjaa
open Go.RowKit

/-- A slice's address, cut off in front. -/
theorem cut_addr {A : Option Addr} {c k : Nat} {x : Addr} (h : (if c = k then A else A.map (·.add k)) = some x) : ∃ y, A = some y ∧ x.block = y.block := by
  split at h
  · exact ⟨x, h, rfl⟩
  · cases A with
    | none => cases h
    | some y =>
      simp only [Option.map_some, Option.some.injEq] at h
      exact ⟨y, rfl, by rw [← h]; unfold Addr.add; split <;> rfl⟩

/-- What tell answers. -/
def Tells (w : World) (g : Nat) (vh : Value) (cl : Bool) (xs : List Int) (A : Option Addr) (op : Bool) (I : List Sg → Nat → Nat → Prop) (e : Ending) (w' : World) : Prop :=
  ∃ v Ar nr cr ps a o q, e = .returned (.tuple #[v, .slice Ar nr cr]) ∧ Segs w' w.heap.size v ps ∧ NewP w.heap.size ps ∧ I (ps.map (·.s)) a o ∧ a ≤ o ∧ o ≤ q ∧ q ≤ xs.length ∧ FeedAt w' g vh a xs.length cl ∧ w.grownBy w' (some g) ∧
    Row w' w'.heap.size (.slice Ar nr cr) (xs.drop q) ∧ (∀ x, Ar = some x → ∃ y, A = some y ∧ x.block = y.block) ∧ ps.length ≤ xs.length ∧
    (nextI op (xs.drop o) 0 = -1 ∧ q = xs.length ∨ nextI op (xs.drop o) 0 = ((q - o : Nat) : Int) ∧ ¬ Begins xs q)

/-- A frame's part, alone in a block. -/
theorem fr_row (W : World) (N : Nat) (hN : W.heap.size = N) (s : Sg) (A : Option Addr) (c : Nat) (hp : Row W W.heap.size (.slice A s.pay.length c) s.pay) :
    SegRow (W.alloc (.cells #[.int .i64 s.frm, .int .i64 s.n, .bool s.isf, .int .i64 s.kind, .slice A s.pay.length c] 41)) (W.alloc (.cells #[.int .i64 s.frm, .int .i64 s.n, .bool s.isf, .int .i64 s.kind, .slice A s.pay.length c] 41)).heap.size (.slice (some ⟨N, 0, none⟩) 1 1) [⟨s, A, c⟩] := by
  subst hN
  have ba : Below W.heap.size W (W.alloc (.cells #[.int .i64 s.frm, .int .i64 s.n, .bool s.isf, .int .i64 s.kind, .slice A s.pay.length c] 41)) := (Below.refl _ _).alloc (Nat.le_refl _) _
  have h : Held (W.alloc (.cells #[.int .i64 s.frm, .int .i64 s.n, .bool s.isf, .int .i64 s.kind, .slice A s.pay.length c] 41)) W.heap.size 41 #[.int .i64 s.frm, .int .i64 s.n, .bool s.isf, .int .i64 s.kind, .slice A s.pay.length c] := heap_alloc_new W _
  refine one_row _ _ (Nat.le_refl _) (by unfold maxLen; omega) _ h.lt (fun j u hj => ?_) ((hp.below ba).more ba.size)
  rw [h.cell j]
  simpa [Pt.cells] using hj
/-- What turns block g alone, and then g and a row of the call's own. -/
theorem But.join {w w3 w4 : World} {g : Nat} {row : Option Nat} (h : w.grownBy w3 (some g)) (k : But w3 w4 row g) (hr : ∀ j, row = some j → w.heap.size ≤ j) : w.grownBy w4 (some g) :=
  ⟨k.os.trans h.os, k.tape.trans h.tape, k.output.trans h.output, Nat.le_trans h.size k.size, fun i hi hn =>
    (k.block i (Nat.lt_of_lt_of_le hi h.size) (fun e => hn (by rw [e])) (fun e => by have := hr i e.symm; omega)).trans (h.block i hi hn)⟩
/-- A frame's struct in memory is no feed. -/
theorem frame_feed {w : World} {F g : Nat} {t : TypeId} {x y : Value} {vh : Value} {a tot : Nat} {cl : Bool} (h : Held w F t #[x, y]) (hf : FeedAt w g vh a tot cl) : F ≠ g := by
  rintro rfl
  have e := (show w.heap[F]? = _ from h).symm.trans hf
  injection e with e
  injection e with e _ _
  have := congrArg Array.size e
  simp at this
theorem gapP_map (a r : Nat) : (gapP a r).map (·.s) = gapS a r := by
  unfold gapP gapS
  split <;> rfl
theorem gapP_len (a r : Nat) : (gapP a r).length ≤ 1 := by
  unfold gapP
  split <;> simp
end Go.Proofs.Ytfaedecfpnmnjaa
