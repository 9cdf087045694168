/-
  The closures that cursor.take is handed: what each finds at the front of bytes.
-/
import Derived.Test.YtfknibjejnmghaaGreatCurNew
import Derived.Deep.RegionHeld3
namespace Go.Proofs.YtfknibjejnmghaaGreat
open Go.RowKit

/-- A call that took something: what it answers, the cursor behind it; nothing else has changed. -/
def Took {α : Type} (f : α → Value) (w : World) (K g : Nat) (xs : List Int) (t : α × Nat × Int) (r : Ending) (w' : World) : Prop :=
  r = .returned (f t.1) ∧ Cur 95 w' K g xs t.2.1 t.2.2 ∧ w.grownBy w' (some g)
/-- What a closure found. -/
def Found {α : Type} (f : α → Value) (w : World) (t : α × Nat × Int) (r : Ending) (w' : World) : Prop :=
  r = .returned (.tuple #[f t.1, .int .i64 t.2.1, .int .i64 t.2.2]) ∧ Below w.heap.size w w'
def u8V (n : Int) : Value := .int .u8 n
def u64V (n : Int) : Value := .int .u64 n
def i64V (n : Int) : Value := .int .i64 n
def txtV (t : List Int) : Value := .string (strOfNums t)

/-- The front of what is left, as a slice. -/
theorem Cur.rest {w : World} {g : Nat} {A : Option Addr} {c : Nat} {xs : List Int} {p : Nat} (h : Row w g (.slice A xs.length c) xs) (hg : g ≤ w.heap.size) (hp : p ≤ xs.length) :
    Row w w.heap.size (.slice (if c = p then A else Option.map (fun x => x.add p) A) (xs.length - p) (c - p)) (xs.drop p) := by
  have := (h.drop hp).more hg
  rwa [List.length_drop] at this

theorem grown_drew {a b : World} {row : Option Nat} (h : a.drew.grownBy b row) : a.grownBy b row := ⟨h.os, h.tape, h.output, h.size, h.block⟩

set_option maxRecDepth 100000 in
set_option maxHeartbeats 1000000 in
theorem text1_any (A : Option Addr) (c : Nat) (ys : List Int) (most : Int) (hm0 : -9223372036854775808 ≤ most) (hm1 : most ≤ 9223372036854775807) (q : Nat) (w : World) (hrow : Row w w.heap.size (.slice A ys.length c) ys) (hb : ∀ x ∈ ys, 0 ≤ x ∧ x < 256) (hq : w.cell? ⟨q, 0, none⟩ = some (.int .i64 most)) :
    Calls Tryz.prog 90 #[.slice A ys.length c, .pointer (some ⟨q, 0, none⟩)] w (Found txtV w (getT most ys)) := by
  have hg := bget_any A c ys most hm0 hm1 w hrow hb
  clear hrow hb
  generalize getT most ys = t at hg
  obtain ⟨n, s, er⟩ := t
  simp only at hg
  have HG := Lib.hid hg; clear hg
  go_enter Tryz.func90, Tryz.ntmps90
  go_wp2_with fail
  refine HG.out.mono ?_
  rintro e w1 ⟨rfl, hb1⟩
  go_wp2_with fail
  go_ret3
  exact ⟨rfl, hb1⟩
end Go.Proofs.YtfknibjejnmghaaGreat
