/-
  The document's own cursor: what each call answers.
-/
import Derived.Test.YtbbcbhecppnboaaCurClo
import Derived.Test.YtbbcbhecppnboaaBlobRefGet
import Derived.Deep.RegionHeld3
namespace Go.Proofs.Ytbbcbhecppnboaa
open Go.RowKit

/-- The document's cursor behind a call, and what the call answers. -/
def RTook {α : Type} (f : α → Value) (w : World) (ys : List Int) (p : Nat) (t : α × Nat × Int) (r : Ending) (w' : World) : Prop :=
  r = .returned (.tuple #[.agg #[.string (strOfNums (ys.drop (t.2.1 - p))), .int .i64 t.2.1, .int .i64 t.2.2], f t.1]) ∧ Below w.heap.size w w'

theorem str_drop (ys : List Int) {k L : Nat} (hL : ys.length = L) : (strOfNums ys).extract k L = strOfNums (ys.drop k) := by rw [str_cut, ← hL, List.take_length]

set_option maxRecDepth 100000 in
set_option maxHeartbeats 1000000 in
theorem on_err (S : ByteArray) (p : Nat) (e0 er : Int) (size : Int) (hne : er ≠ 0) (w : World) :
    Calls Try.prog 51 #[.agg #[.string S, .int .i64 p, .int .i64 e0], .int .i64 size, .int .i64 er] w fun r w' => r = .returned (.agg #[.string S, .int .i64 p, .int .i64 er]) ∧ Below w.heap.size w w' := by
  have hb : (er != 0) = true := by simpa using hne
  go_enter Try.func51, Try.ntmps51
  go_wp2_with fail
  refine bodyPost_ret (v := .agg #[.string S, .int .i64 p, .int .i64 er]) (by simp [results, Try.results51, go_sem]) rfl ⟨rfl, ?_⟩
  repeat' (first | exact Below.refl _ _ | refine Below.setCell ?_ (by simp) _ | refine Below.alloc ?_ (by simp) _)

set_option maxRecDepth 100000 in
set_option maxHeartbeats 1000000 in
theorem on_ok (S S' : ByteArray) (p : Nat) (e0 : Int) (size L : Nat) (hS : S.size = L) (hs : size ≤ L) (hcut : S.extract size L = S') (hp : p + size ≤ 1000000000) (w : World) :
    Calls Try.prog 51 #[.agg #[.string S, .int .i64 p, .int .i64 e0], .int .i64 size, .int .i64 0] w fun r w' => r = .returned (.agg #[.string S', .int .i64 ((p + size : Nat) : Int), .int .i64 e0]) ∧ Below w.heap.size w w' := by
  have i1 : (size : Int) ≤ (L : Int) := by omega
  have i0 : (0 : Int) ≤ (size : Int) := by omega
  rw [Int.natCast_add]
  go_enter Try.func51, Try.ntmps51
  go_wp2_with fail
  refine bodyPost_ret (v := .agg #[.string S', .int .i64 ((p : Int) + (size : Int)), .int .i64 e0]) (by simp [results, Try.results51, go_sem]) rfl ⟨rfl, ?_⟩
  repeat' (first | exact Below.refl _ _ | refine Below.setCell ?_ (by simp) _ | refine Below.alloc ?_ (by simp) _)
#print axioms on_ok

/-- A text that isn't empty, and one that is, as a walk asks. -/
theorem toList_of (ys : List Int) : (strOfNums ys).toList = [] ↔ ys = [] := by
  rw [ByteArray.toList_eq, strOfNums_data]
  simp
/-- What lay in memory, as a walk asks. -/
theorem old_cells {W w1 : World} (hb : Below W.heap.size W w1) : (∀ b o, b < W.heap.size → w1.cell? ⟨b, o, none⟩ = W.cell? ⟨b, o, none⟩) ∧ (∀ b o, b < W.heap.size → w1.frozen? ⟨b, o, none⟩ = W.frozen? ⟨b, o, none⟩) :=
  ⟨fun b o h => hb.cell (p := ⟨b, o, none⟩) h, fun b o h => hb.frozen (p := ⟨b, o, none⟩) h⟩
/-- The ending of a call, once it is written out. -/
def Ends {α : Type} (f : α → Value) (w : World) (ys : List Int) (p : Nat) (t : α × Nat × Int) (v : Value) : Prop := ∀ (W : World) (u : Value), u = v → Below w.heap.size w W → RTook f w ys p t (.returned u) W
theorem ends_of {α : Type} {f : α → Value} {w : World} {ys : List Int} {p : Nat} {t : α × Nat × Int} {v : Value} (h : v = .tuple #[.agg #[.string (strOfNums (ys.drop (t.2.1 - p))), .int .i64 t.2.1, .int .i64 t.2.2], f t.1]) : Ends f w ys p t v := fun W u hu hB => ⟨by rw [hu, h], hB⟩

set_option maxRecDepth 100000 in
set_option maxHeartbeats 1000000 in
theorem rbyte_any (ys : List Int) (p : Nat) (e : Int) (hp : p + ys.length ≤ 1000000000) (hb : ∀ x ∈ ys, 0 ≤ x ∧ x < 256) (w : World) :
    Calls Try.prog 32 #[.agg #[.string (strOfNums ys), .int .i64 p, .int .i64 e]] w (RTook u8V w ys p (tk 0 p e (getB ys))) := by
  by_cases he : e = 0
  · subst he
    cases ys with
    | nil =>
      rw [tk_err (by simp [getB])]
      have q2 : (strOfNums []).toList = [] := (toList_of []).2 rfl
      have q1 : ((strOfNums []).toList == []) = true := by rw [q2]; rfl
      have q3 : (strOfNums []).toList.isEmpty = true := by rw [q2]; rfl
      have HR : Ends u8V w [] p (0, p, (getB []).2.2) (.tuple #[.agg #[.string (strOfNums []), .int .i64 p, .int .i64 2], .int .u8 0]) := ends_of (by simp [getB, u8V])
      generalize strOfNums [] = S at q1 q2 q3 HR
      go_enter Try.func32, Try.ntmps32
      go_wp2_with fail
      refine (on_err S p 0 2 0 (by omega) _).mono ?_
      rintro r w1 ⟨rfl, hb1⟩
      have hB : Below w.heap.size w w1 := ((Below.refl _ _).alloc (Nat.le_refl _) _ |>.alloc (by simp) _).trans (hb1.mono (by simp; omega))
      obtain ⟨hc, hf⟩ := old_cells hb1
      have hz : w.heap.size + 1 < w1.heap.size := by have := hb1.size; simp at this; omega
      go_wp2_with fail
      refine bodyPost_ret (v := .tuple #[.agg #[.string S, .int .i64 p, .int .i64 2], .int .u8 0]) (by simp [results, Try.results32, go_sem, hc]) rfl (HR _ _ rfl ?_)
      repeat' (first | exact hB | exact Below.refl _ _ | refine Below.setCell ?_ (by simp) _ | refine Below.alloc ?_ (by simp) _)
    | cons y r =>
      rw [tk_ok (by simp [getB])]
      have hss : (strOfNums (y :: r)).size = r.length + 1 := strOfNums_size _
      have q2 : ¬ (strOfNums (y :: r)).toList = [] := fun h => by have := (toList_of (y :: r)).1 h; cases this
      have q1 : ((strOfNums (y :: r)).toList == []) = false := beq_eq_false_iff_ne.2 q2
      have q3 : (strOfNums (y :: r)).toList.isEmpty = false := by
        cases h : (strOfNums (y :: r)).toList with
        | nil => exact absurd h q2
        | cons => rfl
      have hcut : (strOfNums (y :: r)).extract 1 (r.length + 1) = strOfNums r := str_drop (y :: r) (k := 1) rfl
      have hat := str_at (y :: r) hb 0 (by simp) (by rw [hss]; omega)
      simp only [List.getD_cons_zero] at hat
      have HIX : Hid (∀ W : World, (Instr.index 9 (.string (strOfNums (y :: r))) (.int .i64 0)).run Try.prog W = .ok (.int .u8 y) W) := fun W => by
        rw [run_index_string W 9 _ .i64 0 Try.underlying9, dif_pos ⟨by omega, by rw [hss]; omega⟩]
        exact congrArg (fun z => Result.ok (Value.int .u8 z) W) hat
      have HR : Ends u8V w (y :: r) p ((getB (y :: r)).1, p + (getB (y :: r)).2.1, 0) (.tuple #[.agg #[.string (strOfNums r), .int .i64 ((p : Int) + 1), .int .i64 0], .int .u8 y]) := ends_of (by simp [getB, u8V])
      have hlen : p + (r.length + 1) ≤ 1000000000 := by simpa using hp
      clear hat hb hp
      generalize strOfNums (y :: r) = S at *
      generalize strOfNums r = S' at *
      generalize r.length = L at *
      have HON : Hid (∀ W : World, Calls Try.prog 51 #[.agg #[.string S, .int .i64 p, .int .i64 0], .int .i64 1, .int .i64 0] W fun r w' => r = .returned (.agg #[.string S', .int .i64 ((p : Int) + 1), .int .i64 0]) ∧ Below W.heap.size W w') := fun W => on_ok S S' p 0 1 (L + 1) hss (by omega) hcut (by omega) W
      clear hcut hss
      have hix := HIX.out
      go_enter Try.func32, Try.ntmps32
      go_wp2_with fail
      go_region_held3 (fun w' => w'.cell? ⟨w.heap.size, 0, none⟩ = some (.string S) ∧ w'.cell? ⟨w.heap.size, 1, none⟩ = some (.int .i64 p) ∧ w'.cell? ⟨w.heap.size, 2, none⟩ = some (.int .i64 0)) (first | go_keep | (exact ⟨(hb1.cell (p := ⟨w.heap.size, 0, none⟩) (by simp; omega)).trans (by simp [go_sem]), (hb1.cell (p := ⟨w.heap.size, 1, none⟩) (by simp; omega)).trans (by simp [go_sem]), (hb1.cell (p := ⟨w.heap.size, 2, none⟩) (by simp; omega)).trans (by simp [go_sem])⟩))
        (first | ((with_reducible refine (HON.out _).mono ?_); rintro r w1 ⟨rfl, hb1⟩; have hcf := old_cells hb1; obtain ⟨hc, hf⟩ := hcf; have hz : w.heap.size + 1 < w1.heap.size := by { have := hb1.size; simp at this; omega }))
      all_goals go_wp2_with fail
      all_goals
        refine bodyPost_ret (v := .tuple #[.agg #[.string S', .int .i64 ((p : Int) + 1), .int .i64 0], .int .u8 y]) (by simp [results, Try.results32, go_sem, hc]) rfl (HR _ _ rfl ?_)
        have hB : Below w.heap.size w w1 := by
          refine Below.trans ?_ (hb1.mono (by simp; omega))
          repeat' (first | exact Below.refl _ _ | refine Below.setCell ?_ (by simp) _ | refine Below.alloc ?_ (by simp) _ | refine Below.drew ?_)
        repeat' (first | exact hB | refine Below.setCell ?_ (by simp) _ | refine Below.alloc ?_ (by simp) _ | refine Below.drew ?_)
  · rw [tk_stopped he]
    have hne : (e != 0) = true := by simpa using he
    have HR : Ends u8V w ys p (0, p, e) (.tuple #[.agg #[.string (strOfNums ys), .int .i64 p, .int .i64 e], .int .u8 0]) := ends_of (by simp [u8V])
    clear he hb
    generalize strOfNums ys = S at HR
    go_enter Try.func32, Try.ntmps32
    go_wp2_with fail
    refine bodyPost_ret (v := .tuple #[.agg #[.string S, .int .i64 p, .int .i64 e], .int .u8 0]) (by simp [results, Try.results32, go_sem]) rfl (HR _ _ rfl ?_)
    repeat' (first | exact hB | exact Below.refl _ _ | refine Below.setCell ?_ (by simp) _ | refine Below.alloc ?_ (by simp) _)
end Go.Proofs.Ytbbcbhecppnboaa
