/-
  The chapter's example of frames' places, which each statement of this layer asks again: it is met, whatever the world.
-/
import Derived.Test.YtpphgmddancocaaFramePut
import Derived.Test.YtpphgmddancocaaFindNext
namespace Go.Proofs.Ytpphgmddancocaa
open Go.RowKit

theorem encFr_bytes {k : Int} {p : List Int} (hk : k = 1 ∨ k = 2) (hp : p.length ≤ 4096) (hb : ∀ x ∈ p, 0 ≤ x ∧ x < 256) : ∀ x ∈ encFr k p, 0 ≤ x ∧ x < 256 := by
  intro x hx
  have hbody := bodyL_byte hk hp hb
  simp only [encFr, List.mem_append] at hx
  rcases hx with hx | hx | hx
  · exact markL_byte x hx
  · exact hbody x hx
  · exact le4_byte (sumX_lt hbody) x hx
theorem enc_x : (encFr 2 [120]).length = 11 := by
  have e : encI 1 = [1] := encI_small (by omega)
  rw [encFr_length]
  simp [e]
theorem enc_x_byte : ∀ x ∈ encFr 2 [120], 0 ≤ x ∧ x < 256 := encFr_bytes (.inr rfl) (by simp) (by simp)
theorem next_x : nextI false (0 :: encFr 2 [120]) 0 = 1 := by
  refine next_found (r := 1) (by simp) (by rw [List.length_cons, enc_x]; omega) (fun j _ hj => ?_) ?_
  · obtain rfl : j = 0 := by omega
    simp [begI, getFr, markI, markL, noFr]
  · unfold begI
    rw [List.drop_succ_cons, List.drop_zero, ← List.append_nil (encFr 2 [120]), getFr_enc (.inr rfl) (by simp) []]
    rfl
/-- A slice of some cells, newly made. -/
theorem own_cells (w : World) (base : Nat) (e : TypeId) (us : List Value) (hb : base ≤ w.heap.size) (hl : us.length ≤ 1000) : (w.alloc (.cells us.toArray e)).ownsRow base e 1 (.slice (some ⟨w.heap.size, 0, none⟩) us.length us.length) us.length us :=
  ⟨by simp, .inr ⟨w.heap.size, us.length, us.toArray, rfl, hb, heap_alloc_new w _, Nat.le_refl _, by unfold maxLen; omega, by simp, by simp⟩⟩

set_option maxRecDepth 100000 in
set_option maxHeartbeats 1000000 in
theorem nfix_any (w : World) : Calls Try.prog 23 #[] w fun e w' => e = .returned (.bool true) ∧ Below w.heap.size w w' := by
  obtain ⟨i0, hi, hz0, hz1, hz2⟩ := info_parts Try.infoU8
  have hp := fun W h => fput_any 2 (.inr rfl) (some ⟨w.heap.size, 0, none⟩) 1 [120] (by simp) (by simp) W h
  have hl := enc_x
  have hby := enc_x_byte
  have hn := next_x
  rw [hl] at hp
  have hnx := fun A c W h => next_any A c (0 :: encFr 2 [120]) (by simp [hl]) W h (by
    intro x hx
    rcases List.mem_cons.1 hx with rfl | hx
    · omega
    · exact hby x hx) 0 (by omega) (by omega)
  rw [hn, List.length_cons, hl] at hnx
  generalize encFr 2 [120] = xs at hp hl hnx
  have kc := fun (w : World) (C : Array Value) (n c g : Nat) (h : g = w.heap.size) => Joins.run_convert_bytes_const_at (P := Try.prog) w 22 5 C n c g h Try.underlying22 Try.underlying5
  have hkc := kc w #[.int .u8 120] 1 1 w.heap.size rfl
  have HP := Lib.hid hp
  have HL := Lib.hid hl
  have HN := Lib.hid hnx
  clear hp hl hby hn hnx kc
  go_enter Try.func23, Try.ntmps23
  go_wp2_with fail
  refine (HP.out _ (Row.of_cells (g := w.heap.size) (xs := [120]) (by simp) (by simp) (fun i hi => by
    obtain rfl : i = 0 := by simpa using hi
    have h := heap_alloc_new w (.cells #[.int .u8 120] 5 (1, 2))
    simp only [World.cell?, h]
    rfl))).mono ?_
  rintro e w1 ⟨cap, g, rfl, hown, hb1⟩
  have hr := Row.of_own hown
  have bw1 : Below w.heap.size w w1 := ((Below.refl _ _).alloc (Nat.le_refl _) _).trans (hb1.mono (by simp))
  have hr2 := hr.below ((Below.refl w1.heap.size w1).alloc (Nat.le_refl _) (.cells #[.int .u8 0] 5))
  have hzw := bw1.size
  have HR2 := Lib.hid hr2
  have HB1 := Lib.hid bw1
  clear hown hb1 hr hr2 bw1
  go_wp2_with (at_builtin; (refine wpList_append_row _ rfl _ _ 22 rfl w1.heap.size 5 i0 (.int .u8 0) Try.underlying22 hi hz0 hz1 hz2 rfl _ 1 [.int .u8 0] (by rfl) (own_cells w1 _ 5 [.int .u8 0] (Nat.le_refl _) (by simp)) w1.heap.size _ xs rfl HR2.out (by have := HL.out; omega) (by simp) ?_; intro v2 w2 hown2 hg2 hn2; obtain ⟨g2, cap2, hv2, hgb2, hgs2⟩ := hown2.form (by omega); subst hv2; have HOWN2 := Lib.hid hown2; have HG2 := Lib.hid hg2; clear hown2 hg2 hn2))
  have hr3 := Row.of_own (xs := 0 :: xs) HOWN2.out
  have hb3 := (HB1.out.alloc hzw (.cells #[.int .u8 0] 5)).grown HG2.out (by simp; omega) (fun j ej => by simp [Value.ownBlock] at ej; omega)
  rw [show 1 + xs.length = 12 by have := HL.out; omega] at hr3 ⊢
  have HR3 := Lib.hid hr3
  have HB3 := Lib.hid hb3
  clear hr3 hb3
  go_wp2_with fail
  refine (HN.out _ _ _ HR3.out).mono ?_
  rintro e w3 ⟨rfl, hb4⟩
  have HB4 := Lib.hid (HB3.out.trans (hb4.mono HB3.out.size))
  clear hb4
  have m1 : max (1 : Int) 0 = 1 := by decide
  have m2 : decide ((0 : Int) ≤ 1) = true := by decide
  rw [m1, m2]
  go_wp2_with fail
  go_ret
  exact ⟨rfl, HB4.out⟩
#print axioms nfix_any
end Go.Proofs.Ytpphgmddancocaa
