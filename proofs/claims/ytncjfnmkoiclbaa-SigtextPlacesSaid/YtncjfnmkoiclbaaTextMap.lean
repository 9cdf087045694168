/-
  The map of the types' words: how it is made, what a look-up in it comes to.
-/
import Derived.Test.YtncjfnmkoiclbaaPlainTextCode
import Derived.Test.YtncjfnmkoiclbaaMapKey
import Derived.Test.YtncjfnmkoiclbaaSigSameRef
import Derived.Carry
namespace Go.Proofs.Ytncjfnmkoiclbaa
open Go.RowKit

/-- What a look-up answers: a type, and whether the word is one. -/
def tyV (s : List Int) : Int := (typeOf s).headD 0
def tyOk (s : List Int) : Bool := !(typeOf s).isEmpty
/-- Block r holds the words and their types. -/
def TypesIn (w : World) (r : Nat) : Prop := ∃ b0 b1 cl, w.heap[r]? = some (.map #[{ key := .string ⟨#[105, 110, 116]⟩, val := .int .i64 1, born := b0 }, { key := .string ⟨#[115, 116, 114, 105, 110, 103]⟩, val := .int .i64 2, born := b1 }] cl)
theorem TypesIn.below {w w' : World} {r B : Nat} (h : TypesIn w r) (hb : Below B w w') (hr : r < B) : TypesIn w' r := by
  obtain ⟨b0, b1, cl, h⟩ := h
  exact ⟨b0, b1, cl, (hb.block r hr).trans h⟩
theorem TypesIn.lt {w : World} {r : Nat} (h : TypesIn w r) : r < w.heap.size := by
  obtain ⟨_, _, _, h⟩ := h
  exact (Array.getElem?_eq_some_iff.1 h).1
theorem bytes_beq {xs ys : List Int} (hx : ∀ x ∈ xs, 0 ≤ x ∧ x < 256) (hy : ∀ x ∈ ys, 0 ≤ x ∧ x < 256) : (strOfNums xs == strOfNums ys) = decide (xs = ys) := by
  have key : ∀ a b : ByteArray, (a == b) = (a.data == b.data) := fun a b => rfl
  rw [key]
  by_cases h : xs = ys
  · subst h
    simp
  · have : strOfNums xs ≠ strOfNums ys := fun e => h (str_inj hx hy e)
    rw [decide_eq_false h]
    exact beq_eq_false_iff_ne.2 (fun e => this (ByteArray.ext e))
theorem str_check (w : World) (a : ByteArray) (b : Bool) : (Instr.checkKey b 10000 9 (.string a)).run Try.prog w = .ok () w := by
  rw [show (10000 : Nat) = 9999 + 1 from rfl]
  unfold Instr.checkKey
  rw [Sem.run_bind, run_underlying Try.underlying9]
  simp [Result.andThen]
theorem types_look {w : World} {r : Nat} (h : TypesIn w r) (xs : List Int) (hb : ∀ x ∈ xs, 0 ≤ x ∧ x < 256) :
    (Instr.lookup 87 (.map (some r)) (.string (strOfNums xs)) true).run Try.prog w = .ok (.tuple #[.int .i64 (tyV xs), .bool (tyOk xs)]) w := by
  obtain ⟨b0, b1, cl, h⟩ := h
  have hg : (getObj r).run Try.prog w = .ok (.map #[{ key := .string ⟨#[105, 110, 116]⟩, val := .int .i64 1, born := b0 }, { key := .string ⟨#[115, 116, 114, 105, 110, 103]⟩, val := .int .i64 2, born := b1 }] cl) w := by simp [getObj, Sem.run, h]
  have e1 : (strOfNums xs == ⟨#[105, 110, 116]⟩) = decide (xs = [105, 110, 116]) := bytes_beq (ys := [105, 110, 116]) hb (by simp)
  have e2 : (strOfNums xs == ⟨#[115, 116, 114, 105, 110, 103]⟩) = decide (xs = [115, 116, 114, 105, 110, 103]) := bytes_beq (ys := [115, 116, 114, 105, 110, 103]) hb (by simp)
  unfold Instr.lookup Instr.findKey
  simp only [Sem.run_bind, run_underlying Try.underlying87, run_underlying Try.underlying9, Result.andThen_ok, hg, Sem.run_pure, str_check, Instr.findNow, Instr.sameNow, e1, e2]
  unfold tyV tyOk typeOf
  by_cases h1 : xs = [105, 110, 116]
  · simp [h1]
  · by_cases h2 : xs = [115, 116, 114, 105, 110, 103]
    · simp [h2]
    · simp [h1, h2, Result.andThen]
theorem put_first {w : World} {r : Nat} (h : w.heap[r]? = some (.map #[] 0)) :
    (Instr.mapUpdate 87 (.map (some r)) (.string ⟨#[105, 110, 116]⟩) (.int .i64 1)).run Try.prog w = .ok () (w.putObj r (.map #[{ key := .string ⟨#[105, 110, 116]⟩, val := .int .i64 1, born := 0 }] 1)) := by
  have hg : (getObj r).run Try.prog w = .ok (.map #[] 0) w := by simp [getObj, Sem.run, h]
  have hs : ∀ o, (setObj r o).run Try.prog w = .ok () (w.putObj r o) := fun o => by simp [setObj, Sem.run, h, World.putObj]
  unfold Instr.mapUpdate Instr.findKey
  simp [Sem.run_bind, run_underlying Try.underlying87, run_underlying Try.underlying9, Result.andThen_ok, hg, str_check, Instr.findNow, hs]
theorem put_second {w : World} {r : Nat} (h : w.heap[r]? = some (.map #[{ key := .string ⟨#[105, 110, 116]⟩, val := .int .i64 1, born := 0 }] 1)) :
    (Instr.mapUpdate 87 (.map (some r)) (.string ⟨#[115, 116, 114, 105, 110, 103]⟩) (.int .i64 2)).run Try.prog w = .ok () (w.putObj r (.map #[{ key := .string ⟨#[105, 110, 116]⟩, val := .int .i64 1, born := 0 }, { key := .string ⟨#[115, 116, 114, 105, 110, 103]⟩, val := .int .i64 2, born := 1 }] 2)) := by
  have hg : (getObj r).run Try.prog w = .ok (.map #[{ key := .string ⟨#[105, 110, 116]⟩, val := .int .i64 1, born := 0 }] 1) w := by simp [getObj, Sem.run, h]
  have hs : ∀ o, (setObj r o).run Try.prog w = .ok () (w.putObj r o) := fun o => by simp [setObj, Sem.run, h, World.putObj]
  have hne : ((⟨#[115, 116, 114, 105, 110, 103]⟩ : ByteArray) == ⟨#[105, 110, 116]⟩) = false := by decide
  unfold Instr.mapUpdate Instr.findKey
  simp [Sem.run_bind, run_underlying Try.underlying87, run_underlying Try.underlying9, Result.andThen_ok, hg, Sem.run_pure, str_check, Instr.findNow, Instr.sameNow, hne, hs]
theorem below_putO {B r : Nat} {w w' : World} (h : Below B w w') (hr : B ≤ r) (o : Obj) : Below B w (w'.putObj r o) :=
  ⟨h.os, h.tape, h.output, Nat.le_trans h.size (by simp [World.putObj]), fun k hk => by
    rw [← h.block k hk]
    show (w'.heap.setIfInBounds r o)[k]? = _
    rw [Array.getElem?_setIfInBounds_ne (by omega)]⟩
theorem putO_self {w : World} {r : Nat} (h : r < w.heap.size) (o : Obj) : (w.putObj r o).heap[r]? = some o := by
  show (w.heap.setIfInBounds r o)[r]? = _
  rw [Array.getElem?_setIfInBounds_self_of_lt h]

set_option maxRecDepth 100000 in
set_option maxHeartbeats 1000000 in
theorem types_any (w : World) : Calls Try.prog 50 #[] w fun e w' => e = .returned (.map (some w.heap.size)) ∧ TypesIn w' w.heap.size ∧ Below w.heap.size w w' := by
  have hmm := @run_makeMap Try.prog
  obtain ⟨r, hr⟩ : ∃ r, w.heap.size = r := ⟨_, rfl⟩
  obtain ⟨w1, hw1⟩ : ∃ w1, w.alloc (.map #[] 0) = w1 := ⟨_, rfl⟩
  have h1 : w1.heap[r]? = some (.map #[] 0) := by rw [← hw1, ← hr]; exact heap_alloc_new w _
  have b1 : Below r w w1 := by rw [← hw1, ← hr]; exact (Below.refl _ _).alloc (Nat.le_refl _) _
  have l1 := (Array.getElem?_eq_some_iff.1 h1).1
  have p1 := put_first h1
  obtain ⟨w2, hw2⟩ : ∃ w2, w1.putObj r (.map #[{ key := .string ⟨#[105, 110, 116]⟩, val := .int .i64 1, born := 0 }] 1) = w2 := ⟨_, rfl⟩
  have h2 : w2.heap[r]? = some (.map #[{ key := .string ⟨#[105, 110, 116]⟩, val := .int .i64 1, born := 0 }] 1) := by rw [← hw2]; exact putO_self l1 _
  have b2 : Below r w w2 := by rw [← hw2]; exact below_putO b1 (Nat.le_refl _) _
  have l2 := (Array.getElem?_eq_some_iff.1 h2).1
  have p2 := put_second h2
  obtain ⟨w3, hw3⟩ : ∃ w3, w2.putObj r (.map #[{ key := .string ⟨#[105, 110, 116]⟩, val := .int .i64 1, born := 0 }, { key := .string ⟨#[115, 116, 114, 105, 110, 103]⟩, val := .int .i64 2, born := 1 }] 2) = w3 := ⟨_, rfl⟩
  have h3 : TypesIn w3 r := ⟨0, 1, 2, by rw [← hw3]; exact putO_self l2 _⟩
  have b3 : Below r w w3 := by rw [← hw3]; exact below_putO b2 (Nat.le_refl _) _
  have H3 := Lib.hid h3
  have HB := Lib.hid b3
  rw [hw2] at p1
  rw [hw3] at p2
  rw [hr]
  clear h1 h2 h3 b1 b2 b3 hw2 hw3 l1 l2
  go_enter Try.func50, Try.ntmps50
  go_wp2_with fail
  go_ret
  exact ⟨rfl, H3.out, HB.out⟩
#print axioms types_look
#print axioms types_any
end Go.Proofs.Ytncjfnmkoiclbaa
