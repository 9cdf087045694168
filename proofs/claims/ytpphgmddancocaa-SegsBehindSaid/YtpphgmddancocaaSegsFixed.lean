/-
  The chapter's example of parts, which each statement of this layer asks again: it is met, whatever the world.
-/
import Derived.Test.YtpphgmddancocaaFindFixed
import Derived.Test.YtpphgmddancocaaApart
import Derived.Test.YtpphgmddancocaaSegsCalls
namespace Go.Proofs.Ytpphgmddancocaa
open Go.RowKit

theorem enc_0 : (encFr 2 []).length = 10 := by
  have e : encI 0 = [0] := encI_small (by omega)
  rw [encFr_length]
  simp [e]
theorem enc_0_byte : ∀ x ∈ encFr 2 [], 0 ≤ x ∧ x < 256 := encFr_bytes (.inr rfl) (by simp) (by simp)
theorem parts_x : PartsS (0 :: 0 :: encFr 2 []) 0 [skipS 0 2, ⟨2, 10, true, 2, []⟩] := by
  have hg : getFr ((0 :: 0 :: encFr 2 []).drop 2) = ((2, []), 10, 0) := by
    rw [List.drop_succ_cons, List.drop_succ_cons, List.drop_zero, ← List.append_nil (encFr 2 []), getFr_enc (.inr rfl) (by simp) [], enc_0]
  have hs : frS (0 :: 0 :: encFr 2 []) 2 = ⟨2, 10, true, 2, []⟩ := by unfold frS; rw [hg]
  rw [← hs]
  refine .gap 0 2 [] (by omega) (by simp [enc_0]) (fun j _ hj => ?_) (by unfold Begins; rw [hg]) (.stop _ (by rw [hg]; simp [enc_0]))
  rcases (by omega : j = 0 ∨ j = 1) with rfl | rfl
  · simp [Begins, getFr, markI, markL, noFr]
  · simp [Begins, getFr, markI, markL, noFr]

set_option maxRecDepth 100000 in
set_option maxHeartbeats 1000000 in
theorem sfix_any (w : World) : Calls Try.prog 30 #[] w fun e w' => e = .returned (.bool true) ∧ Below w.heap.size w w' := by
  obtain ⟨i0, hi, hz0, hz1, hz2⟩ := info_parts Try.infoU8
  have hp := fun W => fput_any 2 (.inr rfl) none 0 [] (by simp) (by simp) W (Row.nil _ _)
  have hl := enc_0
  have hby := enc_0_byte
  have hn := parts_x
  rw [hl] at hp
  have hof := fun A c W h => of_any A c (0 :: 0 :: encFr 2 []) (by simp [hl]) W h (by
    intro x hx
    rcases List.mem_cons.1 hx with rfl | hx
    · omega
    · rcases List.mem_cons.1 hx with rfl | hx
      · omega
      · exact hby x hx)
  rw [List.length_cons, List.length_cons, hl] at hof
  generalize encFr 2 [] = xs at hp hl hof hn
  have HP := Lib.hid hp
  have HL := Lib.hid hl
  have HN := Lib.hid hn
  have HO := Lib.hid hof
  clear hp hl hby hn hof
  go_enter Try.func30, Try.ntmps30
  go_wp2_with fail
  refine (HP.out _).mono ?_
  rintro e w1 ⟨cap, g, rfl, hown, hb1⟩
  have hr := Row.of_own hown
  have hr2 := hr.below ((Below.refl w1.heap.size w1).alloc (Nat.le_refl _) (.cells #[.int .u8 0, .int .u8 0] 5))
  have hzw := hb1.size
  have HR2 := Lib.hid hr2
  have HB1 := Lib.hid hb1
  clear hown hb1 hr hr2
  go_wp2_with (at_builtin; (refine wpList_append_row _ rfl _ _ 22 rfl w1.heap.size 5 i0 (.int .u8 0) Try.underlying22 hi hz0 hz1 hz2 rfl _ 2 [.int .u8 0, .int .u8 0] (by rfl) (own_cells w1 _ 5 [.int .u8 0, .int .u8 0] (Nat.le_refl _) (by simp)) w1.heap.size _ xs rfl HR2.out (by have := HL.out; omega) (by simp) ?_; intro v2 w2 hown2 hg2 hn2; obtain ⟨g2, cap2, hv2, hgb2, hgs2⟩ := hown2.form (by omega); subst hv2; have HOWN2 := Lib.hid hown2; have HG2 := Lib.hid hg2; clear hown2 hg2 hn2))
  have hr3 := Row.of_own (xs := 0 :: 0 :: xs) HOWN2.out
  have hb3 := (HB1.out.alloc hzw (.cells #[.int .u8 0, .int .u8 0] 5)).grown HG2.out (by simp; omega) (fun j ej => by simp [Value.ownBlock] at ej; omega)
  rw [show 2 + xs.length = 12 by have := HL.out; omega] at hr3 ⊢
  have HR3 := Lib.hid hr3
  have HB3 := Lib.hid hb3
  clear hr3 hb3
  go_wp2_with fail
  refine (HO.out _ _ _ HR3.out).mono ?_
  rintro e w3 ⟨v, ps, rfl, hpp, hsg, hb4⟩
  have hps := hpp.same HN.out
  match ps, hps with
  | [⟨s0, A0, c0⟩, ⟨s1, A1, c1⟩], hps =>
  simp only [List.map_cons, List.map_nil, List.cons.injEq, and_true] at hps
  obtain ⟨rfl, rfl⟩ := hps
  obtain ⟨A, c, rfl, hc, hm⟩ := hsg.form
  obtain ⟨b, o, rfl, _, x0, x1, x2, x3, x4, _⟩ := hsg.row.at (i := 0) rfl
  obtain ⟨b', o', e', _, y0, y1, y2, y3, y4, _⟩ := hsg.row.at (i := 1) rfl
  injection e' with e'
  injection e' with e1 e2 _
  subst e1 e2
  simp only [skipS, Nat.zero_mul, Nat.add_zero, Nat.one_mul] at x0 x1 x2 x3 x4 y0 y1 y2 y3 y4
  simp only [List.length_cons, List.length_nil] at hc ⊢
  have HB4 := Lib.hid (HB3.out.trans (hb4.mono HB3.out.size))
  clear hb4 hpp hsg
  go_wp2_with fail
  go_ret
  exact ⟨rfl, HB4.out⟩
#print axioms sfix_any
end Go.Proofs.Ytpphgmddancocaa
