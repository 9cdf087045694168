/-
  What the calls of sig are to answer, as the laws of this layer lean on it; the chapter's example, out of that. (Laid ahead of the code: what is said here is proved of the code elsewhere.)
-/
import Derived.Test.YtfbpgkohekfkjaaSigRef
import Derived.Test.YtfbpgkohekfkjaaCur
namespace Go.Proofs.Ytfbpgkohekfkjaa
open Go.RowKit

def NameC : Prop := ∀ (xs : List Int) (w : World), (∀ x ∈ xs, 0 ≤ x ∧ x < 256) → xs.length ≤ maxLen → Calls Try.prog 12 #[.string (strOfNums xs)] w fun e w' => e = .returned (.bool (okName xs)) ∧ Below w.heap.size w w'
def CheckC : Prop := ∀ (A : Option Addr) (c : Nat) (ds : List Pd) (w : World), PredRow w w.heap.size (.slice A ds.length c) ds → Calls Try.prog 10 #[.slice A ds.length c] w fun e w' => e = .returned (.int .i64 (checkP (ds.map (·.p)))) ∧ Below w.heap.size w w'
def FindC : Prop := ∀ (A : Option Addr) (c : Nat) (ds : List Pd) (nm : List Int) (w : World), PredRow w w.heap.size (.slice A ds.length c) ds → (∀ x ∈ nm, 0 ≤ x ∧ x < 256) → nm.length ≤ maxLen →
  Calls Try.prog 8 #[.slice A ds.length c, .string (strOfNums nm)] w fun e w' => e = .returned (.tuple #[.int .i64 (max (findP (ds.map (·.p)) nm) 0), .bool (decide (0 ≤ findP (ds.map (·.p)) nm))]) ∧ Below w.heap.size w w'

/-! The chapter's example. -/
theorem pd_cells (w : World) (cs : Array Value) (t : TypeId) (i : Nat) : (w.alloc (.cells cs t)).cell? ⟨w.heap.size, i, none⟩ = cs[i]? := by
  have h : Held (w.alloc (.cells cs t)) w.heap.size t cs := heap_alloc_new w _
  exact h.cell i
theorem one_int {w : World} {g B : Nat} {t : TypeId} {x : Int} (h : Held w g t #[.int .i64 x]) (hB : g < B) : IRow w B (.slice (some ⟨g, 0, none⟩) [x].length 1) [x] :=
  ⟨_, _, rfl, by simp, by unfold maxLen; omega, by simp, fun _ => ⟨g, 0, rfl, hB, fun i u hi => by
    match i with
    | 0 => rw [Nat.zero_add, h.cell 0]; simpa using hi
    | i + 1 => simp at hi⟩⟩
theorem two_preds {w : World} {g B : Nat} {t : TypeId} {p q : Pd} (h : Held w g t #[.string (strOfNums p.p.name), .slice p.A p.p.args.length p.c, .string (strOfNums q.p.name), .slice q.A q.p.args.length q.c]) (hB : g < B)
    (hp : IRow w B (.slice p.A p.p.args.length p.c) p.p.args) (hq : IRow w B (.slice q.A q.p.args.length q.c) q.p.args) (fp : p.Fits) (fq : q.Fits) : PredRow w B (.slice (some ⟨g, 0, none⟩) 2 2) [p, q] := by
  refine ⟨_, _, rfl, Nat.le_refl _, by unfold maxLen; omega, by simp, fun _ => ⟨g, 0, rfl, hB, fun i d hd => ?_⟩, fun d hd => ?_⟩
  · match i with
    | 0 =>
      simp only [List.getElem?_cons_zero, Option.some.injEq] at hd
      subst hd
      exact ⟨h.cell 0, h.cell 1⟩
    | 1 =>
      simp only [List.getElem?_cons_succ, List.getElem?_cons_zero, Option.some.injEq] at hd
      subst hd
      exact ⟨h.cell 2, h.cell 3⟩
    | i + 2 => simp at hd
  · simp only [List.mem_cons, List.not_mem_nil, or_false] at hd
    rcases hd with rfl | rfl
    · exact ⟨hp, fp⟩
    · exact ⟨hq, fq⟩
theorem fits_one (x y : Int) (hx : 0 ≤ x ∧ x < 256) (A : Option Addr) (c : Nat) (l : List Int) (hl : l = [] ∨ l = [y] ∧ 0 ≤ y ∧ y < 256) : (⟨⟨[x], l⟩, A, c⟩ : Pd).Fits := by
  refine ⟨by unfold maxLen; simp, fun z hz => ?_, fun z hz => ?_⟩
  · obtain rfl : z = x := by simpa using hz
    exact hx
  · rcases hl with rfl | ⟨rfl, h1, h2⟩
    · simp at hz
    · obtain rfl : z = y := by simpa using hz
      omega
theorem check_pq : checkP [⟨[112], [1]⟩, ⟨[113], [1]⟩] = 0 := by decide +kernel
theorem check_pp : checkP [⟨[112], []⟩, ⟨[112], []⟩] = 9 := by decide +kernel
theorem str_p : strOfNums [112] = { data := #[112] } := rfl
theorem str_q : strOfNums [113] = { data := #[113] } := rfl

set_option maxRecDepth 100000 in
set_option maxHeartbeats 1000000 in
theorem gfix_any (HC : CheckC) (w : World) : Calls Try.prog 7 #[] w fun e w' => e = .returned (.bool true) ∧ Below w.heap.size w w' := by
  have HC' := Lib.hid HC
  clear HC
  go_enter Try.func7, Try.ntmps7
  go_wp2_with fail
  obtain ⟨w1, hw1⟩ : ∃ w1, w.alloc (.cells #[.int .i64 1] 3) = w1 := ⟨_, rfl⟩
  obtain ⟨w2, hw2⟩ : ∃ w2, w1.alloc (.cells #[.int .i64 1] 3) = w2 := ⟨_, rfl⟩
  obtain ⟨w3, hw3⟩ : ∃ w3, w2.alloc (.cells #[.string { data := #[112] }, .slice (some ⟨w.heap.size, 0, none⟩) 1 1, .string { data := #[113] }, .slice (some ⟨w.heap.size + 1, 0, none⟩) 1 1] 37) = w3 := ⟨_, rfl⟩
  have s1 : w1.heap.size = w.heap.size + 1 := by rw [← hw1]; simp
  have s2 : w2.heap.size = w.heap.size + 1 + 1 := by rw [← hw2]; simp [s1]
  have s3 : w3.heap.size = w.heap.size + 1 + 1 + 1 := by rw [← hw3]; simp [s2]
  have b1 : Below w.heap.size w w1 := by rw [← hw1]; exact (Below.refl _ _).alloc (Nat.le_refl _) _
  have b2 : Below w1.heap.size w1 w2 := by rw [← hw2]; exact (Below.refl _ _).alloc (Nat.le_refl _) _
  have b3 : Below w2.heap.size w2 w3 := by rw [← hw3]; exact (Below.refl _ _).alloc (Nat.le_refl _) _
  have h1 : Held w1 w.heap.size 3 #[.int .i64 1] := by rw [← hw1]; exact heap_alloc_new w _
  have h2 : Held w2 (w.heap.size + 1) 3 #[.int .i64 1] := by rw [← hw2, ← s1]; exact heap_alloc_new w1 _
  have h3 : Held w3 (w.heap.size + 1 + 1) 37 #[.string { data := #[112] }, .slice (some ⟨w.heap.size, 0, none⟩) 1 1, .string { data := #[113] }, .slice (some ⟨w.heap.size + 1, 0, none⟩) 1 1] := by rw [← hw3, ← s2]; exact heap_alloc_new w2 _
  have h1' : Held w3 w.heap.size 3 #[.int .i64 1] := (h1.below b2 (by omega)).below b3 (by omega)
  have h2' : Held w3 (w.heap.size + 1) 3 #[.int .i64 1] := h2.below b3 (by omega)
  have hrow : PredRow w3 w3.heap.size (.slice (some ⟨w.heap.size + 1 + 1, 0, none⟩) 2 2) [⟨⟨[112], [1]⟩, some ⟨w.heap.size, 0, none⟩, 1⟩, ⟨⟨[113], [1]⟩, some ⟨w.heap.size + 1, 0, none⟩, 1⟩] :=
    two_preds h3 (by omega) (one_int h1' (by omega)) (one_int h2' (by omega)) (fits_one _ 1 (by omega) _ _ _ (.inr ⟨rfl, by omega, by omega⟩)) (fits_one _ 1 (by omega) _ _ _ (.inr ⟨rfl, by omega, by omega⟩))
  have hck := HC'.out (some ⟨w.heap.size + 1 + 1, 0, none⟩) 2 [⟨⟨[112], [1]⟩, some ⟨w.heap.size, 0, none⟩, 1⟩, ⟨⟨[113], [1]⟩, some ⟨w.heap.size + 1, 0, none⟩, 1⟩] w3 hrow
  rw [show (([⟨⟨[112], [1]⟩, some ⟨w.heap.size, 0, none⟩, 1⟩, ⟨⟨[113], [1]⟩, some ⟨w.heap.size + 1, 0, none⟩, 1⟩] : List Pd).map (·.p)) = [⟨[112], [1]⟩, ⟨[113], [1]⟩] from rfl, check_pq] at hck
  have bw3 : Below w.heap.size w w3 := (b1.trans (b2.mono (by omega))).trans (b3.mono (by omega))
  have HB3 := Lib.hid bw3
  have HCK := Lib.hid hck
  rw [hw1, hw2, hw3]
  clear h1 h2 h3 h1' h2' hrow hck b1 b2 b3 bw3 hw1 hw2 hw3
  refine HCK.out.mono ?_
  rintro e w4 ⟨rfl, hb4⟩
  have HB4 := Lib.hid (HB3.out.trans (hb4.mono (by omega)))
  have z4 : w.heap.size ≤ w4.heap.size := HB4.out.size
  clear hb4
  go_wp2_with fail
  obtain ⟨w5, hw5⟩ : ∃ w5, w4.alloc (.cells #[.string { data := #[112] }, .slice none 0 0, .string { data := #[112] }, .slice none 0 0] 37) = w5 := ⟨_, rfl⟩
  have h5 : Held w5 w4.heap.size 37 #[.string { data := #[112] }, .slice none 0 0, .string { data := #[112] }, .slice none 0 0] := by rw [← hw5]; exact heap_alloc_new w4 _
  have b5 : Below w4.heap.size w4 w5 := by rw [← hw5]; exact (Below.refl _ _).alloc (Nat.le_refl _) _
  have hrow5 : PredRow w5 w5.heap.size (.slice (some ⟨w4.heap.size, 0, none⟩) 2 2) [⟨⟨[112], []⟩, none, 0⟩, ⟨⟨[112], []⟩, none, 0⟩] :=
    two_preds h5 h5.lt (VRow.nil _ _) (VRow.nil _ _) (fits_one _ 1 (by omega) _ _ _ (.inl rfl)) (fits_one _ 1 (by omega) _ _ _ (.inl rfl))
  have hck5 := HC'.out (some ⟨w4.heap.size, 0, none⟩) 2 [⟨⟨[112], []⟩, none, 0⟩, ⟨⟨[112], []⟩, none, 0⟩] w5 hrow5
  rw [show (([⟨⟨[112], []⟩, none, 0⟩, ⟨⟨[112], []⟩, none, 0⟩] : List Pd).map (·.p)) = [⟨[112], []⟩, ⟨[112], []⟩] from rfl, check_pp] at hck5
  have HB5 := Lib.hid (HB4.out.trans (b5.mono z4))
  have HCK5 := Lib.hid hck5
  rw [hw5]
  clear h5 b5 hrow5 hck5 hw5
  refine HCK5.out.mono ?_
  rintro e w6 ⟨rfl, hb6⟩
  have HB6 := Lib.hid (HB5.out.trans (hb6.mono HB5.out.size))
  clear hb6
  go_wp2_with fail
  go_ret
  exact ⟨rfl, HB6.out⟩
#print axioms gfix_any
end Go.Proofs.Ytfbpgkohekfkjaa
