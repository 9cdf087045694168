/-
  What the calls of sig are to answer, as the laws of this layer lean on it; the chapter's example, out of that. (Laid ahead of the code: what is said here is proved of the code elsewhere.)
-/
import Derived.Test.YtnjhkjlekepjoaaSigRef
import Derived.Test.YtnjhkjlekepjoaaCur
namespace Go.Proofs.Ytnjhkjlekepjoaa
open Go.RowKit

def NameC : Prop := ∀ (xs : List Int) (w : World), (∀ x ∈ xs, 0 ≤ x ∧ x < 256) → xs.length ≤ maxLen → Calls Try.prog 38 #[.string (strOfNums xs)] w fun e w' => e = .returned (.bool (okName xs)) ∧ Below w.heap.size w w'
def CheckC : Prop := ∀ (A : Option Addr) (c : Nat) (ds : List Pd) (w : World), PredRow w w.heap.size (.slice A ds.length c) ds → Calls Try.prog 16 #[.slice A ds.length c] w fun e w' => e = .returned (.int .i64 (checkP (ds.map (·.p)))) ∧ Below w.heap.size w w'

/-! The chapter's example. -/
theorem pd_cells (w : World) (cs : Array Value) (t : TypeId) (i : Nat) : (w.alloc (.cells cs t)).cell? ⟨w.heap.size, i, none⟩ = cs[i]? := by
  have h : Held (w.alloc (.cells cs t)) w.heap.size t cs := heap_alloc_new w _
  exact h.cell i
theorem one_int {w : World} {g B : Nat} {t : TypeId} {x : Int} (h : Held w g t #[.int .i64 x]) (hB : g < B) : IRow w B (.slice (some ⟨g, 0, none⟩) [x].length 1) [x] :=
  ⟨_, _, rfl, by simp, by unfold maxLen; omega, by simp, fun _ => ⟨g, 0, rfl, hB, fun i u hi => by
    match i with
    | 0 => rw [Nat.zero_add, h.cell 0]; simpa using hi
    | i + 1 => simp at hi⟩⟩
theorem two_preds {w : World} {g B : Nat} {t : TypeId} {p q : Pd} (h : Held w g t #[.string (strOfNums p.p.name), .slice p.A p.p.args.length p.c, .string (strOfNums q.p.name), .slice q.A q.p.args.length q.c]) (hB : g < B)
    (hp : IRow w B (.slice p.A p.p.args.length p.c) p.p.args) (hq : IRow w B (.slice q.A q.p.args.length q.c) q.p.args) (fp : p.Fits) (fq : q.Fits) : PredRow w B (.slice (some ⟨g, 0, none⟩) 2 2) [p, q] := by
  refine ⟨_, _, rfl, Nat.le_refl _, by unfold maxLen; omega, by simp, fun _ => ⟨g, 0, rfl, hB, fun i d hd => ?_⟩, fun d hd => ?_⟩
  · match i with
    | 0 =>
      simp only [List.getElem?_cons_zero, Option.some.injEq] at hd
      subst hd
      exact ⟨h.cell 0, h.cell 1⟩
    | 1 =>
      simp only [List.getElem?_cons_succ, List.getElem?_cons_zero, Option.some.injEq] at hd
      subst hd
      exact ⟨h.cell 2, h.cell 3⟩
    | i + 2 => simp at hd
  · simp only [List.mem_cons, List.not_mem_nil, or_false] at hd
    rcases hd with rfl | rfl
    · exact ⟨hp, fp⟩
    · exact ⟨hq, fq⟩
theorem fits_one (x y : Int) (hx : 0 ≤ x ∧ x < 256) (A : Option Addr) (c : Nat) (l : List Int) (hl : l = [] ∨ l = [y] ∧ 0 ≤ y ∧ y < 256) : (⟨⟨[x], l⟩, A, c⟩ : Pd).Fits := by
  refine ⟨by unfold maxLen; simp, fun z hz => ?_, fun z hz => ?_⟩
  · obtain rfl : z = x := by simpa using hz
    exact hx
  · rcases hl with rfl | ⟨rfl, h1, h2⟩
    · simp at hz
    · obtain rfl : z = y := by simpa using hz
      omega
end Go.Proofs.Ytnjhkjlekepjoaa
