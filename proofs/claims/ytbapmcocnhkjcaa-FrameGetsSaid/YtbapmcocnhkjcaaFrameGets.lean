/-
  At every slice of bytes the law on what is read as a frame answers true, and nothing that lay in memory has changed. No condition.
-/
import Derived.Test.YtbapmcocnhkjcaaRows
import Derived.WalkKit
import Derived.ProofKit
import Derived.OpenShut
import Derived.ShutString
import Derived.ChangeOld
import Derived.Below
import Derived.Test.YtbapmcocnhkjcaaFrameFixed
import Derived.Test.YtbapmcocnhkjcaaFrameGet
import Derived.Test.YtbapmcocnhkjcaaFrameRefGet
import Derived.Test.YtbapmcocnhkjcaaArg
namespace Go.Proofs.Ytbapmcocnhkjcaa.frameGets
open Go.Proofs.Ytbapmcocnhkjcaa
open Go.ChangeShapes Go.WideShapes Go.ChangeAt Go.RowKit
open Go.ChangeMaps (open_string shut_string)
set_option linter.unusedVariables false

theorem own : ownKnob Try.prog.godebug = none := by kernel_rfl
theorem laidOut : laidOutB Try.prog = true := by kernel_rfl

set_option maxRecDepth 100000 in
set_option maxHeartbeats 1000000 in
theorem walk (a0 : Option Addr) (len0 cap0 : Nat) (z0 : List Int) (w : World) (w0 : IsRow .u8 w a0 len0 cap0 z0) :
    Calls Try.prog 6 #[.slice a0 len0 cap0] w fun e w' => e = .returned (.bool true) ∧ Below w.heap.size w w' := by
  obtain ⟨xs, rfl, hrow, hbx⟩ := Row.of_arg w0
  clear w0
  by_cases hgt : 5000 < xs.length
  · have hgi : (5000 : Int) < (xs.length : Int) := by omega
    go_enter Try.func6, Try.ntmps6
    go_wp2_with (go_at_call 15; refine (ffix_any _).mono ?_; rintro e w3 ⟨rfl, hb3⟩)
    go_ret
    exact ⟨rfl, hb3⟩
  have hle : xs.length ≤ 5000 := by omega
  have hlei : (xs.length : Int) ≤ 5000 := by omega
  have hg := fget_any a0 cap0 xs (by omega) w hrow hbx
  have hrg := fun W => rfget_any xs (by omega) W hbx
  by_cases he : (getFr xs).2.2 = 0
  · obtain ⟨h1, h2, h3, h4, h5⟩ := getFr_back xs hbx he
    obtain ⟨hcp1, hcp2⟩ : xs.length ≤ cap0 ∧ cap0 ≤ 9223372036854775807 := by
      obtain ⟨_, _, hv, q1, q2, _⟩ := hrow
      injection hv with _ _ e3
      subst e3
      unfold maxLen at q2
      exact ⟨q1, by omega⟩
    generalize hgf : getFr xs = t at hg hrg he h1 h2 h3 h4 h5
    obtain ⟨⟨kk, pp⟩, n, er⟩ := t
    simp only at he h1 h2 h3 h4 h5
    subst he
    have hrt := hrow.take h3
    have htl : (xs.take n).length = n := by rw [List.length_take]; omega
    rw [← h4] at hrt htl
    rw [htl] at hrt
    have HG := Lib.hid hg
    have HRG := Lib.hid hrg
    have HROW := Lib.hid hrow
    have HRT := Lib.hid hrt
    have HP := Lib.hid (fun W A c h => fput_any kk h1 A c pp h2 h5 W h)
    have HTL := Lib.hid htl
    have i1 : (n : Int) ≤ (xs.length : Int) := by omega
    have i2 : (n : Int) ≤ (cap0 : Int) := by omega
    have i0 : (0 : Int) ≤ (n : Int) := by omega
    clear hg hrg hrow hrt htl hgf h1 h4 h5 hbx hgt
    go_enter Try.func6, Try.ntmps6
    go_wp2_with fail
    refine HG.out.mono ?_
    rintro e w1 ⟨A1, c1, rfl, hrow1, hb1⟩
    try simp only
    have hw1a : Below w.heap.size w (w1.alloc (.cells #[.int .i64 kk, .slice A1 pp.length c1] 36)) := hb1.alloc hb1.size _
    have hcv := (HROW.out.below hw1a).convert (P := Try.prog) 22 5 9 Try.underlying22 Try.underlying5 Try.underlying9
    have HROW1 := Lib.hid hrow1
    have HB1 := Lib.hid hb1
    clear hrow1 hw1a
    have HZ1 := Lib.hid hb1.size
    clear hb1
    go_wp2_with fail
    refine (HRG.out _).mono ?_
    rintro e w2 ⟨A2, c2, rfl, hrow2, hb2⟩
    try simp only
    clear hcv
    have hz2 : w1.heap.size + 1 ≤ w2.heap.size := by simpa using hb2.size
    have hf2 : Held w2 w1.heap.size 36 #[.int .i64 kk, .slice A1 pp.length c1] := (hb2.block w1.heap.size (by simp)).trans (heap_alloc_new w1 _)
    have hf2a := hf2.below ((Below.refl _ _).alloc (Nat.le_refl _) (.cells #[.int .i64 kk, .slice A2 pp.length c2] 36)) (by omega)
    have g0 := hf2a.cell 0
    have g1 := hf2a.cell 1
    simp at g0 g1
    have hr1 : Row (w2.alloc (.cells #[.int .i64 kk, .slice A2 pp.length c2] 36)) (w2.alloc (.cells #[.int .i64 kk, .slice A2 pp.length c2] 36)).heap.size (.slice A1 pp.length c1) pp :=
      ((HROW1.out.below ((((Below.refl _ _).alloc (Nat.le_refl _) _).trans (hb2.mono (by simp))).alloc (by omega) _)).more (by simp; omega))
    have hr2 : Row (w2.alloc (.cells #[.int .i64 kk, .slice A2 pp.length c2] 36)) (w2.alloc (.cells #[.int .i64 kk, .slice A2 pp.length c2] 36)).heap.size (.slice A2 pp.length c2) pp :=
      (hrow2.below ((Below.refl _ _).alloc (Nat.le_refl _) _)).more (by simp)
    have HS := Lib.hid (fsame_yes kk A1 A2 c1 c2 pp _ hr1 hr2)
    have HR1 := Lib.hid hr1
    have HF2 := Lib.hid hf2a
    have b2a : Below w.heap.size w (w2.alloc (.cells #[.int .i64 kk, .slice A2 pp.length c2] 36)) := ((HB1.out.alloc HZ1.out _).trans (hb2.mono (by have := HZ1.out; simp; omega))).alloc (by have := HZ1.out; omega) _
    have HB2 := Lib.hid b2a
    clear hb2 hf2 hf2a hr1 hr2 hrow2 b2a
    go_wp2_with fail
    refine HS.out.mono ?_
    rintro e w3 ⟨rfl, hb3⟩
    have hf3 := HF2.out.below hb3 HF2.out.lt
    have k0 := hf3.cell 0
    have k1 := hf3.cell 1
    simp at k0 k1
    have hr3 := (HR1.out.below hb3).more hb3.size
    have HR3 := Lib.hid hr3
    have b3 : Below w.heap.size w w3 := HB2.out.trans (hb3.mono HB2.out.size)
    have HB3 := Lib.hid b3
    have HZ3 := Lib.hid b3.size
    clear hb3 hf3 hr3 b3 g0 g1
    go_wp2_with fail
    refine (HP.out _ _ _ HR3.out).mono ?_
    rintro e w4 ⟨cap4, g4, rfl, hown4, hb4⟩
    rw [HTL.out] at hown4
    simp only [HTL.out]
    have hr4 := Row.of_own hown4
    have HR4 := Lib.hid hr4
    have b4 : Below w.heap.size w w4 := HB3.out.trans (hb4.mono HZ3.out)
    have HALL : Hid (∀ W, Below w.heap.size w W → Below w4.heap.size w4 W → (convert 22 9 (.slice a0 n cap0)).run Try.prog W = .ok (.string (strOfNums (encFr kk pp))) W ∧ (convert 22 9 (.slice (some ⟨g4, 0, none⟩) n cap4)).run Try.prog W = .ok (.string (strOfNums (encFr kk pp))) W) := Lib.hid (fun W h k => by
      have q1 := (HRT.out.below h).convert (P := Try.prog) 22 5 9 Try.underlying22 Try.underlying5 Try.underlying9
      have q2 := (HR4.out.below k).convert (P := Try.prog) 22 5 9 Try.underlying22 Try.underlying5 Try.underlying9
      exact ⟨q1, q2⟩)
    clear hown4 hb4 hr4 k0 k1
    have HB4 := Lib.hid b4
    go_wp2_with fail
    go_region_held (fun W => (Below w.heap.size w W ∧ Below w4.heap.size w4 W) ∧ (convert 22 9 (.slice a0 n cap0)).run Try.prog W = .ok (.string (strOfNums (encFr kk pp))) W ∧ (convert 22 9 (.slice (some ⟨g4, 0, none⟩) n cap4)).run Try.prog W = .ok (.string (strOfNums (encFr kk pp))) W)
      (first | exact ⟨⟨b4, Below.refl _ _⟩, HALL.out _ b4 (Below.refl _ _)⟩ | exact ⟨⟨b4.drew, (Below.refl _ _).drew⟩, HALL.out _ b4.drew (Below.refl _ _).drew⟩ | exact ⟨⟨b5, hb5⟩, HALL.out _ b5 hb5⟩)
      (first | (go_at_call 15; refine (ffix_any _).mono ?_; rintro e w5 ⟨rfl, hb5'⟩; have hb5 : Below w4.heap.size w4 w5 := ⟨hb5'.os, hb5'.tape, hb5'.output, hb5'.size, hb5'.block⟩; have b5 : Below w.heap.size w w5 := b4.trans (hb5.mono b4.size)))
    go_wp2_with fail
    go_ret
    exact ⟨rfl, b5⟩
  · have hgf := getFr_none xs he
    generalize (getFr xs).2.2 = er at hgf he
    rw [hgf] at hg hrg
    simp only [noFr] at hg hrg
    have hne : (er != 0) = true := bne_iff_ne.2 he
    have hne2 : (er == 0) = false := beq_eq_false_iff_ne.2 he
    have HG := Lib.hid hg
    have HRG := Lib.hid hrg
    have HROW := Lib.hid hrow
    have HP := Lib.hid (fun W A c => fput_bad 0 A c [] (by simp) (by simp) W)
    simp only [List.length_nil] at HP
    clear hg hrg hrow hgf he hbx hgt
    go_enter Try.func6, Try.ntmps6
    go_wp2_with fail
    refine HG.out.mono ?_
    rintro e w1 ⟨A1, c1, rfl, hrow1, hb1⟩
    try simp only
    have hw1a : Below w.heap.size w (w1.alloc (.cells #[.int .i64 0, .slice A1 0 c1] 36)) := hb1.alloc hb1.size _
    have hcv := (HROW.out.below hw1a).convert (P := Try.prog) 22 5 9 Try.underlying22 Try.underlying5 Try.underlying9
    have HROW1 := Lib.hid hrow1
    have HB1 := Lib.hid hb1
    clear hrow1 hw1a
    have HZ1 := Lib.hid hb1.size
    clear hb1
    go_wp2_with fail
    refine (HRG.out _).mono ?_
    rintro e w2 ⟨A2, c2, rfl, hrow2, hb2⟩
    try simp only
    clear hcv
    have hz2 : w1.heap.size + 1 ≤ w2.heap.size := by simpa using hb2.size
    have hf2 : Held w2 w1.heap.size 36 #[.int .i64 0, .slice A1 0 c1] := (hb2.block w1.heap.size (by simp)).trans (heap_alloc_new w1 _)
    have hf2a := hf2.below ((Below.refl _ _).alloc (Nat.le_refl _) (.cells #[.int .i64 0, .slice A2 0 c2] 36)) (by omega)
    have g0 := hf2a.cell 0
    have g1 := hf2a.cell 1
    simp at g0 g1
    have hr1 : Row (w2.alloc (.cells #[.int .i64 0, .slice A2 0 c2] 36)) (w2.alloc (.cells #[.int .i64 0, .slice A2 0 c2] 36)).heap.size (.slice A1 0 c1) [] :=
      ((HROW1.out.below ((((Below.refl _ _).alloc (Nat.le_refl _) _).trans (hb2.mono (by simp))).alloc (by omega) _)).more (by simp; omega))
    have hr2 : Row (w2.alloc (.cells #[.int .i64 0, .slice A2 0 c2] 36)) (w2.alloc (.cells #[.int .i64 0, .slice A2 0 c2] 36)).heap.size (.slice A2 0 c2) [] :=
      (hrow2.below ((Below.refl _ _).alloc (Nat.le_refl _) _)).more (by simp)
    have HS := Lib.hid (fsame_yes 0 A1 A2 c1 c2 [] _ hr1 hr2)
    have HR1 := Lib.hid hr1
    have HF2 := Lib.hid hf2a
    have b2a : Below w.heap.size w (w2.alloc (.cells #[.int .i64 0, .slice A2 0 c2] 36)) := ((HB1.out.alloc HZ1.out _).trans (hb2.mono (by have := HZ1.out; simp; omega))).alloc (by have := HZ1.out; omega) _
    have HB2 := Lib.hid b2a
    clear hb2 hf2 hf2a hr1 hr2 hrow2 b2a
    go_wp2_with fail
    refine HS.out.mono ?_
    rintro e w3 ⟨rfl, hb3⟩
    have hf3 := HF2.out.below hb3 HF2.out.lt
    have k0 := hf3.cell 0
    have k1 := hf3.cell 1
    simp at k0 k1
    have hr3 := (HR1.out.below hb3).more hb3.size
    have HR3 := Lib.hid hr3
    have b3 : Below w.heap.size w w3 := HB2.out.trans (hb3.mono HB2.out.size)
    have HB3 := Lib.hid b3
    have HZ3 := Lib.hid b3.size
    clear hb3 hf3 hr3 b3 g0 g1
    go_wp2_with fail
    refine (HP.out _ _ _).mono ?_
    rintro e w4 ⟨rfl, hb4⟩
    have b4 : Below w.heap.size w w4 := HB3.out.trans (hb4.mono HZ3.out)
    clear hb4 k0 k1
    go_wp2_with fail
    refine wp_region_held_drew (S := fun _ => True) (by kernel_rfl) trivial (fun _ => ?_)
    refine wpAnyH_ready (rs := [0]) (by kernel_rfl) (by simp) ?_
    refine AllReadyH.cons rfl (fun K hK => ?_) AllReadyH.nil
    go_simp
    refine (ffix_any _).mono ?_
    rintro e w5 ⟨rfl, hb5⟩
    have b5 : Below w.heap.size w w5 := b4.drew.trans (hb5.mono b4.size)
    refine hK.out _ _ trivial (fun _ => ?_)
    clear hK K
    try simp only [List.getElem_toArray, List.getElem_cons_zero, List.getElem_cons_succ, Act.put, List.setIfInBounds_toArray, List.set_cons_zero, List.set_cons_succ]
    refine wpAnyH_take (i := 1) (v := .bool true) rfl (by kernel_rfl) (by kernel_rfl) (by kernel_rfl) (fun _ _ _ h => h) (Or.inl ⟨by rfl, fun w _ => by go_simp⟩) trivial ?_
    try simp only [List.getElem_toArray, List.getElem_cons_zero, List.getElem_cons_succ, Act.put, List.setIfInBounds_toArray, List.set_cons_zero, List.set_cons_succ]
    refine wpAnyH_take (i := 2) (v := .int .i64 er) rfl (by kernel_rfl) (by kernel_rfl) (by kernel_rfl) (fun _ _ _ h => h) (Or.inl ⟨by rfl, fun w _ => by go_simp⟩) trivial ?_
    try simp only [List.getElem_toArray, List.getElem_cons_zero, List.getElem_cons_succ, Act.put, List.setIfInBounds_toArray, List.set_cons_zero, List.set_cons_succ]
    refine wpAnyH_take (i := 3) (v := .bool true) rfl (by kernel_rfl) (by kernel_rfl) (by kernel_rfl) (fun _ _ _ h => h) (Or.inl ⟨by rfl, fun w _ => by go_simp⟩) trivial ?_
    try simp only [List.getElem_toArray, List.getElem_cons_zero, List.getElem_cons_succ, Act.put, List.setIfInBounds_toArray, List.set_cons_zero, List.set_cons_succ]
    refine wpAnyH_take (i := 4) (v := .bool true) rfl (by kernel_rfl) (by kernel_rfl) (by kernel_rfl) (fun _ _ _ h => h) (Or.inl ⟨by rfl, fun w _ => by go_simp⟩) trivial ?_
    try simp only [List.getElem_toArray, List.getElem_cons_zero, List.getElem_cons_succ, Act.put, List.setIfInBounds_toArray, List.set_cons_zero, List.set_cons_succ]
    refine wpAnyH_take (i := 5) (v := undef) rfl (by kernel_rfl) (by kernel_rfl) (by kernel_rfl) (fun _ _ _ h => h) (Or.inr ⟨by rfl, rfl⟩) trivial ?_
    try simp only [List.getElem_toArray, List.getElem_cons_zero, List.getElem_cons_succ, Act.put, List.setIfInBounds_toArray, List.set_cons_zero, List.set_cons_succ]
    refine wpAnyH_take (i := 6) (v := undef) rfl (by kernel_rfl) (by kernel_rfl) (by kernel_rfl) (fun _ _ _ h => h) (Or.inr ⟨by rfl, rfl⟩) trivial ?_
    try simp only [List.getElem_toArray, List.getElem_cons_zero, List.getElem_cons_succ, Act.put, List.setIfInBounds_toArray, List.set_cons_zero, List.set_cons_succ]
    refine wpAnyH_take (i := 7) (v := undef) rfl (by kernel_rfl) (by kernel_rfl) (by kernel_rfl) (fun _ _ _ h => h) (Or.inr ⟨by rfl, rfl⟩) trivial ?_
    try simp only [List.getElem_toArray, List.getElem_cons_zero, List.getElem_cons_succ, Act.put, List.setIfInBounds_toArray, List.set_cons_zero, List.set_cons_succ]
    refine wpAnyH_take (i := 8) (v := undef) rfl (by kernel_rfl) (by kernel_rfl) (by kernel_rfl) (fun _ _ _ h => h) (Or.inr ⟨by rfl, rfl⟩) trivial ?_
    try simp only [List.getElem_toArray, List.getElem_cons_zero, List.getElem_cons_succ, Act.put, List.setIfInBounds_toArray, List.set_cons_zero, List.set_cons_succ]
    refine wpAnyH_take (i := 9) (v := undef) rfl (by kernel_rfl) (by kernel_rfl) (by kernel_rfl) (fun _ _ _ h => h) (Or.inr ⟨by rfl, rfl⟩) trivial ?_
    try simp only [List.getElem_toArray, List.getElem_cons_zero, List.getElem_cons_succ, Act.put, List.setIfInBounds_toArray, List.set_cons_zero, List.set_cons_succ]
    refine wpAnyH_take (i := 10) (v := undef) rfl (by kernel_rfl) (by kernel_rfl) (by kernel_rfl) (fun _ _ _ h => h) (Or.inr ⟨by rfl, rfl⟩) trivial ?_
    try simp only [List.getElem_toArray, List.getElem_cons_zero, List.getElem_cons_succ, Act.put, List.setIfInBounds_toArray, List.set_cons_zero, List.set_cons_succ]
    refine wpAnyH_take (i := 11) (v := undef) rfl (by kernel_rfl) (by kernel_rfl) (by kernel_rfl) (fun _ _ _ h => h) (Or.inr ⟨by rfl, rfl⟩) trivial ?_
    try simp only [List.getElem_toArray, List.getElem_cons_zero, List.getElem_cons_succ, Act.put, List.setIfInBounds_toArray, List.set_cons_zero, List.set_cons_succ]
    refine wpAnyH_take (i := 12) (v := undef) rfl (by kernel_rfl) (by kernel_rfl) (by kernel_rfl) (fun _ _ _ h => h) (Or.inr ⟨by rfl, rfl⟩) trivial ?_
    try simp only [List.getElem_toArray, List.getElem_cons_zero, List.getElem_cons_succ, Act.put, List.setIfInBounds_toArray, List.set_cons_zero, List.set_cons_succ]
    refine wpAnyH_take (i := 13) (v := undef) rfl (by kernel_rfl) (by kernel_rfl) (by kernel_rfl) (fun _ _ _ h => h) (Or.inr ⟨by rfl, rfl⟩) trivial ?_
    try simp only [List.getElem_toArray, List.getElem_cons_zero, List.getElem_cons_succ, Act.put, List.setIfInBounds_toArray, List.set_cons_zero, List.set_cons_succ]
    refine wpAnyH_take (i := 14) (v := undef) rfl (by kernel_rfl) (by kernel_rfl) (by kernel_rfl) (fun _ _ _ h => h) (Or.inr ⟨by rfl, rfl⟩) trivial ?_
    try simp only [List.getElem_toArray, List.getElem_cons_zero, List.getElem_cons_succ, Act.put, List.setIfInBounds_toArray, List.set_cons_zero, List.set_cons_succ]
    refine wpAnyH_take (i := 15) (v := undef) rfl (by kernel_rfl) (by kernel_rfl) (by kernel_rfl) (fun _ _ _ h => h) (Or.inr ⟨by rfl, rfl⟩) trivial ?_
    try simp only [List.getElem_toArray, List.getElem_cons_zero, List.getElem_cons_succ, Act.put, List.setIfInBounds_toArray, List.set_cons_zero, List.set_cons_succ]
    refine wpAnyH_take (i := 16) (v := undef) rfl (by kernel_rfl) (by kernel_rfl) (by kernel_rfl) (fun _ _ _ h => h) (Or.inr ⟨by rfl, rfl⟩) trivial ?_
    try simp only [List.getElem_toArray, List.getElem_cons_zero, List.getElem_cons_succ, Act.put, List.setIfInBounds_toArray, List.set_cons_zero, List.set_cons_succ]
    refine wpAnyH_take (i := 17) (v := undef) rfl (by kernel_rfl) (by kernel_rfl) (by kernel_rfl) (fun _ _ _ h => h) (Or.inr ⟨by rfl, rfl⟩) trivial ?_
    try simp only [List.getElem_toArray, List.getElem_cons_zero, List.getElem_cons_succ, Act.put, List.setIfInBounds_toArray, List.set_cons_zero, List.set_cons_succ]
    refine wpAnyH_take (i := 18) (v := undef) rfl (by kernel_rfl) (by kernel_rfl) (by kernel_rfl) (fun _ _ _ h => h) (Or.inr ⟨by rfl, rfl⟩) trivial ?_
    try simp only [List.getElem_toArray, List.getElem_cons_zero, List.getElem_cons_succ, Act.put, List.setIfInBounds_toArray, List.set_cons_zero, List.set_cons_succ]
    refine wpAnyH_take (i := 19) (v := undef) rfl (by kernel_rfl) (by kernel_rfl) (by kernel_rfl) (fun _ _ _ h => h) (Or.inr ⟨by rfl, rfl⟩) trivial ?_
    try simp only [List.getElem_toArray, List.getElem_cons_zero, List.getElem_cons_succ, Act.put, List.setIfInBounds_toArray, List.set_cons_zero, List.set_cons_succ]
    refine wpAnyH_take (i := 20) (v := undef) rfl (by kernel_rfl) (by kernel_rfl) (by kernel_rfl) (fun _ _ _ h => h) (Or.inr ⟨by rfl, rfl⟩) trivial ?_
    try simp only [List.getElem_toArray, List.getElem_cons_zero, List.getElem_cons_succ, Act.put, List.setIfInBounds_toArray, List.set_cons_zero, List.set_cons_succ]
    refine wpAnyH_take (i := 21) (v := undef) rfl (by kernel_rfl) (by kernel_rfl) (by kernel_rfl) (fun _ _ _ h => h) (Or.inr ⟨by rfl, rfl⟩) trivial ?_
    try simp only [List.getElem_toArray, List.getElem_cons_zero, List.getElem_cons_succ, Act.put, List.setIfInBounds_toArray, List.set_cons_zero, List.set_cons_succ]
    refine wpAnyH_take (i := 22) (v := .bool true) rfl (by kernel_rfl) (by kernel_rfl) (by kernel_rfl) (fun _ _ _ h => h) (Or.inl ⟨by rfl, fun w _ => by go_simp⟩) trivial ?_
    try simp only [List.getElem_toArray, List.getElem_cons_zero, List.getElem_cons_succ, Act.put, List.setIfInBounds_toArray, List.set_cons_zero, List.set_cons_succ]
    refine wpAnyH_take (i := 23) (v := .bool true) rfl (by kernel_rfl) (by kernel_rfl) (by kernel_rfl) (fun _ _ _ h => h) (Or.inl ⟨by rfl, fun w _ => by go_simp⟩) trivial ?_
    try simp only [List.getElem_toArray, List.getElem_cons_zero, List.getElem_cons_succ, Act.put, List.setIfInBounds_toArray, List.set_cons_zero, List.set_cons_succ]
    refine wpAnyH_take (i := 24) (v := .bool true) rfl (by kernel_rfl) (by kernel_rfl) (by kernel_rfl) (fun _ _ _ h => h) (Or.inl ⟨by rfl, fun w _ => by go_simp⟩) trivial ?_
    try simp only [List.getElem_toArray, List.getElem_cons_zero, List.getElem_cons_succ, Act.put, List.setIfInBounds_toArray, List.set_cons_zero, List.set_cons_succ]
    refine wpAnyH_done (by kernel_rfl) ?_ _
    go_wp2_with fail
    go_ret
    exact ⟨rfl, b5⟩

set_option maxRecDepth 100000 in
theorem lifted (os : Os) (started : os.Started) (H : Type) (enc : TypeId × Value → H) :
    ReturnsInHanded {} Try.checked os 6 .any (Rows.frameGetsSpec.pre6 enc Try.prog Try.f6 Rows.frameGetsRow.domain false) (Rows.frameGetsSpec.post enc Try.prog Try.f6 false true false false) := by
  refine returnsInHanded_of_change (C := Try.checked) own started (by kernel_rfl) Try.func6
    (ChangeSpec.witness6 (enc := enc) (C := Try.checked) false ⟨#[], #[.slice none 0 0], []⟩ 8 (by kernel_rfl) (by kernel_rfl) (by kernel_rfl) (by kernel_rfl)) ?_
  intro W base args ds gs before hval0 hW hcnd _
  have hval : ∀ (j : Nat) t v, Try.f6.params[j]? = some t → args[j]? = some v → Value.okWide Try.prog W .any base t v := hval0
  have hW' := hW
  obtain ⟨p, q, hA0, hV, rfl, hfz, hnd⟩ := hW
  have hA : DataW.TrodAll enc Try.prog W 0 (fun _ => true) true Try.f6.params.toList args.toList ds p := hA0
  rw [Try.params6] at hA hval
  obtain ⟨v0, vs0, d0, ds0, p0, q0, hargs, rfl, rfl, h0, r0⟩ := trodAll_cons hA
  obtain ⟨rfl, rfl, rfl⟩ := trodAll_nil r0
  obtain rfl : args = #[v0] := by cases args; simp_all
  obtain ⟨rfl, rfl⟩ := trodVars_none hV
  obtain ⟨a0, len0, cap0, rfl⟩ := okWide_slice Try.underlying22 (hval 0 22 v0 rfl rfl)
  have k0 := h0
  have lt0 : ∀ x ∈ p0, x.block < W.heap.size := by obtain ⟨m, hm⟩ := k0; exact DataW.trod_lt m _ _ _ hm
  obtain ⟨z0, w0⟩ : ∃ zs, IsRow .u8 W a0 len0 cap0 zs := by
    obtain ⟨fuel, hf⟩ := h0
    rcases open_ints Try.underlying22 Try.underlying5 (by kernel_rfl) hf with ⟨hcs, _⟩ | ⟨x, l, c, zs, hcs, _, hl, hm, hz, _, hcell, hwz⟩
    · simp [Value.cells] at hcs
      obtain ⟨rfl, rfl, rfl⟩ := hcs
      exact ⟨[], .inl ⟨rfl, rfl, rfl, rfl⟩⟩
    · simp [Value.cells] at hcs
      obtain ⟨rfl, rfl, rfl⟩ := hcs
      exact ⟨zs, .inr ⟨_, rfl, hl, hm, by simpa using hz, hcell, hwz⟩⟩
  clear hA0 hval0
  refine (walk a0 len0 cap0 z0 W w0).mono fun e W' ⟨he, bel⟩ => ?_
  subst he
  exact ⟨_, rfl, _, _, _, [], _, [], hW', trodAll_mk1 (shut_bool Try.underlying4 _), (trodAll_cons_mk (Below.trod laidOut (by kernel_rfl) (of_decide_eq_true (by kernel_rfl)) k0 bel lt0) trodAll_mk0), rfl, bel.frame _, fun h => by cases h⟩

theorem over : Rows.frameGetsRow.holds Try.pinned (OpenSpec.ofChange Rows.frameGetsSpec) :=
  OpenClaim.holds_of_wide 6 Try.f6 rfl rfl rfl rfl rfl rfl rfl ⟨rfl, rfl, rfl, rfl, rfl⟩ rfl rfl rfl rfl rfl (by kernel_rfl) Try.func6 (by kernel_rfl)
    (of_decide_eq_true (by kernel_rfl)) (by unfold Func.isWrapper; first | (rw [if_pos (by decide +kernel)]; kernel_rfl) | (rw [if_neg (by decide +kernel)]; exact ⟨rfl, rfl⟩))
    (fun os started H enc _ => lifted os started H enc)

theorem proved : Rows.FrameGetsSaid := over
#print axioms proved
end Go.Proofs.Ytbapmcocnhkjcaa.frameGets

