/-
  The chapter's example of layer 3, which both of its statements ask again; a slice of steps that came in.
-/
import Derived.Test.YtbbcbhecppnboaaCurTook
import Derived.Deep.SlicePairs
import Derived.OpenShut
namespace Go.Proofs.Ytbbcbhecppnboaa
open Go.RowKit Go.ChangeShapes Go.WideShapes

/-- The slice reads as these steps, each two whole numbers of 64 bits. -/
def IsSteps (w : World) (a : Option Addr) (len cap : Nat) (l : List (Int × Int)) : Prop :=
  l.length = len ∧ len ≤ cap ∧ cap ≤ maxLen ∧
  (0 < len → ∃ b o, a = some ⟨b, o, none⟩ ∧ b < w.heap.size ∧ ∀ i x, l[i]? = some x → w.cell? ⟨b, o + i * 2, none⟩ = some (.int .i64 x.1) ∧ w.cell? ⟨b, o + i * 2 + 1, none⟩ = some (.int .i64 x.2)) ∧
  ∀ x ∈ l, (-9223372036854775808 ≤ x.1 ∧ x.1 ≤ 9223372036854775807) ∧ (-9223372036854775808 ≤ x.2 ∧ x.2 ≤ 9223372036854775807)

theorem steps_of {H : Type} {enc : TypeId × Value → H} {w : World} {base : Nat} {spare : Nat → Bool} {held : Bool} {fuel : Nat} {a : Option Addr} {len cap : Nat} {x : DataW H × List MemPlace}
    (h : DataW.trod enc Try.prog w base spare held fuel 55 [.slice a len cap] = some x) : ∃ l, IsSteps w a len cap l := by
  rcases Go.Deep.open_slice_pairs Try.underlying55 Try.underlying61 (by kernel_rfl) rfl rfl (by kernel_rfl) (by kernel_rfl) h with ⟨hcs, _⟩ | ⟨ad, len', cap', m, n, V0, V1, D0, D1, P0, P1, hcs, hb, hl, hm, hmm, _, hi⟩
  · simp at hcs
    obtain ⟨rfl, rfl, rfl⟩ := hcs
    exact ⟨[], rfl, Nat.le_refl _, Nat.zero_le _, fun h => absurd h (by simp), by simp⟩
  · simp at hcs
    obtain ⟨rfl, rfl, rfl⟩ := hcs
    have hlm : len ≤ m := by rw [hmm]; split <;> omega
    have each : ∀ i, i < len → ∃ y : Int × Int, w.cell? (ad.add (i * 2)) = some (.int .i64 y.1) ∧ w.cell? (ad.add (i * 2 + 1)) = some (.int .i64 y.2) ∧ (Lit.int .i64 y.1).wf = true ∧ (Lit.int .i64 y.2).wf = true := by
      intro i hlt
      obtain ⟨g0, g1, t0, t1⟩ := hi i (by omega)
      obtain ⟨y0, e0, _, w0⟩ := DataW.trod_int (k := .i64) Try.underlying3 t0
      obtain ⟨y1, e1, _, w1⟩ := DataW.trod_int (k := .i64) Try.underlying3 t1
      injection e0 with e0
      injection e1 with e1
      exact ⟨(y0, y1), by rw [g0, e0], by rw [g1, e1], w0, w1⟩
    let f : Nat → Int × Int := fun i => if h : i < len then Classical.choose (each i h) else (0, 0)
    have hf : ∀ i, i < len → w.cell? (ad.add (i * 2)) = some (.int .i64 (f i).1) ∧ w.cell? (ad.add (i * 2 + 1)) = some (.int .i64 (f i).2) ∧ (Lit.int .i64 (f i).1).wf = true ∧ (Lit.int .i64 (f i).2).wf = true := by
      intro i hlt
      have := Classical.choose_spec (each i hlt)
      simp only [f, dif_pos hlt]
      exact this
    refine ⟨(List.range len).map f, by simp, hl, hm, fun hn => ?_, fun y hy => ?_⟩
    · obtain ⟨b, o, sp⟩ := ad
      have h0 := (hf 0 hn).1
      have hs : sp = none := by simpa [Addr.add] using World.cell?_spot h0
      subst hs
      refine ⟨b, o, rfl, World.block_lt_of_cell? w ⟨b, o, none⟩ (by simpa [Addr.add] using h0), fun i y hy => ?_⟩
      have hlt : i < len := by have := (List.getElem?_eq_some_iff.1 hy).1; simpa using this
      have hy' : f i = y := by simpa [List.getElem?_map, List.getElem?_range, hlt] using hy
      subst hy'
      obtain ⟨g0, g1, _, _⟩ := hf i hlt
      rw [Go.WideShapes.add_plain] at g0 g1
      exact ⟨g0, g1⟩
    · obtain ⟨i, hi', rfl⟩ := List.mem_map.1 hy
      obtain ⟨_, _, w0, w1⟩ := hf i (List.mem_range.1 hi')
      have b0 := bounds_i64 w0
      have b1 := bounds_i64 w1
      exact ⟨by omega, by omega⟩

section
variable {w w' : World} {a : Option Addr} {len cap : Nat} {l : List (Int × Int)}
theorem IsSteps.below (h : IsSteps w a len cap l) (hb : Below w.heap.size w w') : IsSteps w' a len cap l := by
  obtain ⟨h1, h2, h3, h4, h5⟩ := h
  refine ⟨h1, h2, h3, fun hn => ?_, h5⟩
  obtain ⟨b, o, e, hlt, hc⟩ := h4 hn
  exact ⟨b, o, e, Nat.lt_of_lt_of_le hlt hb.size, fun i x hx => ⟨(hb.cell (p := ⟨b, o + i * 2, none⟩) hlt).trans (hc i x hx).1, (hb.cell (p := ⟨b, o + i * 2 + 1, none⟩) hlt).trans (hc i x hx).2⟩⟩
end

theorem str_a : strOfNums [97] = ⟨#[97]⟩ := by decide +kernel
theorem tk_five : tk 0 0 0 (getB ([5, 1, 97].drop 0)) = (5, 1, 0) := rfl
theorem tk_text : tk [] 1 0 (getT 3 ([5, 1, 97].drop 1)) = ([97], 3, 0) := by decide +kernel

set_option maxRecDepth 100000 in
set_option maxHeartbeats 1000000 in
/-- The chapter's example. -/
theorem cfixed_any (w : World) : Calls Try.prog 30 #[] w fun e w' => e = .returned (.bool true) ∧ Below w.heap.size w w' := by
  have hrow : Row (w.alloc (.cells #[.int .u8 5, .int .u8 1, .int .u8 97] 5)) (w.alloc (.cells #[.int .u8 5, .int .u8 1, .int .u8 97] 5)).heap.size (.slice (some ⟨w.heap.size, 0, none⟩) 3 3) [5, 1, 97] :=
    Row.of_own (base := w.heap.size) (e := 5) (n := 3) (World.ownsRow_lit w #[.int .u8 5, .int .u8 1, .int .u8 97] 3 (Nat.le_refl _) (by simp [maxLen]) rfl)
  have HN := Lib.hid (new_any _ _ [5, 1, 97] (by simp) _ hrow); clear hrow
  go_enter Try.func30, Try.ntmps30
  go_wp2_with fail
  refine HN.out.mono ?_
  rintro r w1 ⟨g, rfl, hg, hc1, hb1⟩
  have hby : ∀ x ∈ [5, 1, (97 : Int)], 0 ≤ x ∧ x < 256 := by decide
  have hB1 : Below w.heap.size w w1 := ((Below.refl _ _).alloc (Nat.le_refl _) _).trans (hb1.mono (by simp))
  rw [World.size_alloc] at hg hc1
  have hb := byte_any hc1 (by simp) hg hby
  rw [tk_five] at hb
  have HB := Lib.hid hb; clear hb hc1 hb1
  have HBY := Lib.hid hby; clear hby
  go_wp2_with fail
  refine HB.out.mono ?_
  rintro r w2 ⟨rfl, hc2, hg2⟩
  have ht := text_any 3 (by omega) (by omega) hc2 (by simp) hg HBY.out
  rw [tk_text] at ht
  have hB2 : Below w.heap.size w w2 := hB1.grown hg2 hB1.size (fun k hk => by injection hk with hk; omega)
  have HT := Lib.hid ht; clear ht hc2 hg2
  simp only [u8V]
  go_wp2_with fail
  refine HT.out.mono ?_
  rintro r w3 ⟨rfl, hc3, hg3⟩
  have hB3 : Below w.heap.size w w3 := hB2.grown hg3 hB2.size (fun k hk => by injection hk with hk; omega)
  have hd := done_any hc3 (by simp) hg
  have HD : Hid (Calls Try.prog 41 #[.pointer (some ⟨g, 0, none⟩)] w3 fun r w' => r = .returned (.bool true) ∧ w3.grownBy w' (some g)) := hd.mono fun r w' h => ⟨h.1, h.2.2⟩
  clear hd hc3 hg3
  simp only [txtV, str_a]
  go_wp2_with fail
  refine HD.out.mono ?_
  rintro r w4 ⟨rfl, hg4⟩
  go_wp2_with fail
  go_ret
  exact ⟨rfl, hB3.grown hg4 hB3.size (fun k hk => by injection hk with hk; omega)⟩
#print axioms cfixed_any
end Go.Proofs.Ytbbcbhecppnboaa
