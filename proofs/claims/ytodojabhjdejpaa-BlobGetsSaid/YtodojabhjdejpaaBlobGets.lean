/-
  At every slice of bytes and every number the law on what is read answers true, and nothing that lay in memory has changed. No condition.
-/
import Derived.Test.YtodojabhjdejpaaRows
import Derived.WalkKit
import Derived.ProofKit
import Derived.OpenShut
import Derived.ShutString
import Derived.ChangeOld
import Derived.Below
import Derived.Test.YtodojabhjdejpaaBlobPut
import Derived.Test.YtodojabhjdejpaaBlobGet
import Derived.Test.YtodojabhjdejpaaBlobRefAll
import Derived.Test.YtodojabhjdejpaaArg
namespace Go.Proofs.Ytodojabhjdejpaa.blobGets
open Go.Proofs.Ytodojabhjdejpaa
open Go.ChangeShapes Go.WideShapes Go.ChangeAt Go.RowKit
open Go.ChangeMaps (open_string shut_string)
set_option linter.unusedVariables false

theorem own : ownKnob Try.prog.godebug = none := by kernel_rfl
theorem laidOut : laidOutB Try.prog = true := by kernel_rfl

set_option maxRecDepth 100000 in
set_option maxHeartbeats 1000000 in
theorem walk (a0 : Option Addr) (len0 cap0 : Nat) (z0 : List Int) (a1 : Int) (w : World) (w0 : IsRow .u8 w a0 len0 cap0 z0) (w1 : (Lit.int .i64 a1).wf = true) :
    Calls Try.prog 8 #[.slice a0 len0 cap0, .int .i64 a1] w fun e w' => e = .returned (.bool true) ∧ Below w.heap.size w w' := by
  obtain ⟨b11, b12⟩ := bounds_i64 w1
  clear w1
  obtain ⟨xs, rfl, hrow, hbx⟩ := Row.of_arg w0
  clear w0
  by_cases hgt : 600 < xs.length
  · have hgi : (600 : Int) < (xs.length : Int) := by omega
    go_enter Try.func8, Try.ntmps8
    go_wp2_with (go_at_call 20; refine (bfixed_any _).mono ?_; rintro e w3 ⟨rfl, hb3⟩)
    go_ret
    exact ⟨rfl, hb3⟩
  · have hle : xs.length ≤ 600 := by omega
    have hg := bget_any a0 cap0 xs a1 b11 b12 w hrow hbx
    have hrg := fun W => rbget_any xs a1 b11 b12 W hbx (by omega)
    have ha := fun W (h : Below w.heap.size w W) => ball_any a0 cap0 xs a1 b11 b12 W ((hrow.below h).more h.size) hbx (by omega)
    have hra := fun W => rball_any xs a1 b11 b12 W hbx (by omega)
    generalize (allT a1 xs).1 = ts at ha hra
    generalize (allT a1 xs).2 = er2 at ha hra
    have hstr : ∀ u ∈ strVs ts, ∃ s, u = .string s := fun u hu => by
      obtain ⟨t, _, rfl⟩ := List.mem_map.1 hu
      exact ⟨_, rfl⟩
    have HSTR := Lib.hid hstr; clear hstr
    have HA := Lib.hid ha; clear ha
    have HRA := Lib.hid hra; clear hra
    have hcs : xs.length ≤ cap0 ∧ cap0 ≤ 9223372036854775807 := by
      obtain ⟨_, _, hv, q1, q2, _, _⟩ := hrow
      injection hv with e1 e2 e3
      subst e3
      unfold maxLen at q2
      omega
    obtain ⟨cs1, cs2⟩ := hcs
    by_cases hok : (getT a1 xs).2.2 = 0
    · obtain ⟨k1, k2, k3, k4, k5⟩ := getT_back xs hbx hok
      rw [hok] at hg hrg
      generalize (getT a1 xs).1 = t at hg hrg k3 k4 k5
      generalize (getT a1 xs).2.1 = s at hg hrg k1 k2 k3
      have hrt := hrow.take k2
      have hsl : (xs.take s).length = s := by simp; omega
      rw [hsl] at hrt
      have hp := fun W => bput_nil t k5 (by omega) W
      rw [k3] at hp
      generalize xs.take s = ys at hrt hp
      clear k3 k5 hok hsl
      have HG := Lib.hid hg; clear hg
      have HRG := Lib.hid hrg; clear hrg
      have HROW := Lib.hid hrow; clear hrow
      have HRT := Lib.hid hrt; clear hrt
      have HP := Lib.hid hp; clear hp hbx hgt
      go_enter Try.func8, Try.ntmps8
      go_wp2_with fail
      refine HG.out.mono ?_
      rintro e w1 ⟨rfl, hb1⟩
      have hcv := (HROW.out.below hb1).convert (P := Try.prog) 22 5 9 Try.underlying22 Try.underlying5 Try.underlying9
      go_wp2_with fail
      clear hcv
      refine (HRG.out _).mono ?_
      rintro e w1' ⟨rfl, rfl⟩
      go_wp2_with fail
      refine (HA.out w1 hb1).mono ?_
      rintro e w2 ⟨v2, rfl, hown2, hb2⟩
      have b2 : Below w.heap.size w w2 := hb1.trans (hb2.mono hb1.size)
      have hcv := (HROW.out.below b2).convert (P := Try.prog) 22 5 9 Try.underlying22 Try.underlying5 Try.underlying9
      go_wp2_with fail
      clear hcv
      refine (HRA.out _).mono ?_
      rintro e w3 ⟨v3, rfl, hown3, hb3⟩
      have b3 : Below w.heap.size w w3 := b2.trans (hb3.mono b2.size)
      have hv2 := VRow.of_own (own_below hown2 hb3)
      have hv3 := VRow.of_own hown3
      clear hown2 hown3
      obtain ⟨A2, c2, rfl, _, _⟩ := hv2.form
      obtain ⟨A3, c3, rfl, _, _⟩ := hv3.form
      have hsame := same_any A2 A3 c2 c3 _ _ (strVs ts) _ rfl HSTR.out w3 hv2 hv3
      have HSAME := Lib.hid hsame; clear hsame hv2 hv3
      go_wp2_with fail
      refine HSAME.out.mono ?_
      rintro e w4 ⟨rfl, hb4⟩
      have b4 : Below w.heap.size w w4 := b3.trans (hb4.mono b3.size)
      clear hb1 hb2 hb3 hb4 b2 b3
      have hcb : ∀ W, Below w.heap.size w W → (convert 22 9 (.slice a0 s cap0)).run Try.prog W = .ok (.string (strOfNums ys)) W := fun W h => (HRT.out.below h).convert (P := Try.prog) 22 5 9 Try.underlying22 Try.underlying5 Try.underlying9
      go_wp2_with fail
      have i1 : (0 : Int) ≤ (s : Int) := by omega
      have i2 : (s : Int) ≤ (cap0 : Int) := by omega
      have i3 : (s : Int) ≤ (xs.length : Int) := by omega
      go_region_held (fun w' => Below w.heap.size w w' ∧ (convert 22 9 (.slice a0 s cap0)).run Try.prog w' = .ok (.string (strOfNums ys)) w') (first | exact ⟨b4, hcb _ b4⟩ | exact ⟨b4.drew, hcb _ b4.drew⟩ | exact ⟨b6, hcb _ b6⟩ | exact ⟨b5, hcb _ b5⟩)
       (first
        | (go_at_call 20; refine (bfixed_any _).mono ?_; rintro e w5 ⟨rfl, hb5⟩; have b5 : Below w.heap.size w w5 := b4.drew.trans (hb5.mono b4.size))
        | (go_at_call 21; refine (HP.out _).mono ?_; rintro e w6 ⟨v, rfl, hown, hb6⟩; have b6 : Below w.heap.size w w6 := b5.trans (hb6.mono b5.size); have q1 := (Row.of_own hown).convert (P := Try.prog) 22 5 9 Try.underlying22 Try.underlying5 Try.underlying9))
      go_wp2_with fail
      go_ret
      exact ⟨rfl, b6⟩
    · have ht := getT_size (most := a1) xs hbx
      generalize (getT a1 xs).1 = t at hg hrg ht
      generalize (getT a1 xs).2.1 = s at hg hrg ht
      generalize (getT a1 xs).2.2 = er at hg hrg hok
      clear ht
      have hne : (er != 0) = true := by simpa using hok
      have HG := Lib.hid hg; clear hg
      have HRG := Lib.hid hrg; clear hrg
      have HROW := Lib.hid hrow; clear hrow hbx hok hgt
      go_enter Try.func8, Try.ntmps8
      go_wp2_with fail
      refine HG.out.mono ?_
      rintro e w1 ⟨rfl, hb1⟩
      have hcv := (HROW.out.below hb1).convert (P := Try.prog) 22 5 9 Try.underlying22 Try.underlying5 Try.underlying9
      go_wp2_with fail
      clear hcv
      refine (HRG.out _).mono ?_
      rintro e w1' ⟨rfl, rfl⟩
      go_wp2_with fail
      refine (HA.out w1 hb1).mono ?_
      rintro e w2 ⟨v2, rfl, hown2, hb2⟩
      have b2 : Below w.heap.size w w2 := hb1.trans (hb2.mono hb1.size)
      have hcv := (HROW.out.below b2).convert (P := Try.prog) 22 5 9 Try.underlying22 Try.underlying5 Try.underlying9
      go_wp2_with fail
      clear hcv
      refine (HRA.out _).mono ?_
      rintro e w3 ⟨v3, rfl, hown3, hb3⟩
      have b3 : Below w.heap.size w w3 := b2.trans (hb3.mono b2.size)
      have hv2 := VRow.of_own (own_below hown2 hb3)
      have hv3 := VRow.of_own hown3
      clear hown2 hown3
      obtain ⟨A2, c2, rfl, _, _⟩ := hv2.form
      obtain ⟨A3, c3, rfl, _, _⟩ := hv3.form
      have hsame := same_any A2 A3 c2 c3 _ _ (strVs ts) _ rfl HSTR.out w3 hv2 hv3
      have HSAME := Lib.hid hsame; clear hsame hv2 hv3
      go_wp2_with fail
      refine HSAME.out.mono ?_
      rintro e w4 ⟨rfl, hb4⟩
      have b4 : Below w.heap.size w w4 := b3.trans (hb4.mono b3.size)
      clear hb1 hb2 hb3 hb4 b2 b3
      go_wp2_with fail
      refine wp_region_held_drew (S := fun _ => True) (by kernel_rfl) trivial (fun _ => ?_)
      refine wpAnyH_ready (rs := [0]) (by kernel_rfl) (by simp) ?_
      refine AllReadyH.cons rfl (fun K hK => ?_) AllReadyH.nil
      go_simp
      refine (bfixed_any _).mono ?_
      rintro e w5 ⟨rfl, hb5⟩
      have b5 : Below w.heap.size w w5 := b4.drew.trans (hb5.mono b4.size)
      refine hK.out _ _ trivial (fun _ => ?_)
      clear hK K
      try simp only [List.getElem_toArray, List.getElem_cons_zero, List.getElem_cons_succ, Act.put, List.setIfInBounds_toArray, List.set_cons_zero, List.set_cons_succ]
      refine wpAnyH_take (i := 1) (v := .bool true) rfl (by kernel_rfl) (by kernel_rfl) (by kernel_rfl) (fun _ _ _ h => h) (Or.inl ⟨by rfl, fun w _ => by go_simp⟩) trivial ?_
      try simp only [List.getElem_toArray, List.getElem_cons_zero, List.getElem_cons_succ, Act.put, List.setIfInBounds_toArray, List.set_cons_zero, List.set_cons_succ]
      refine wpAnyH_take (i := 2) (v := .int .i64 er) rfl (by kernel_rfl) (by kernel_rfl) (by kernel_rfl) (fun _ _ _ h => h) (Or.inl ⟨by rfl, fun w _ => by go_simp⟩) trivial ?_
      try simp only [List.getElem_toArray, List.getElem_cons_zero, List.getElem_cons_succ, Act.put, List.setIfInBounds_toArray, List.set_cons_zero, List.set_cons_succ]
      refine wpAnyH_take (i := 3) (v := .bool true) rfl (by kernel_rfl) (by kernel_rfl) (by kernel_rfl) (fun _ _ _ h => h) (Or.inl ⟨by rfl, fun w _ => by go_simp⟩) trivial ?_
      try simp only [List.getElem_toArray, List.getElem_cons_zero, List.getElem_cons_succ, Act.put, List.setIfInBounds_toArray, List.set_cons_zero, List.set_cons_succ]
      refine wpAnyH_take (i := 4) (v := .bool true) rfl (by kernel_rfl) (by kernel_rfl) (by kernel_rfl) (fun _ _ _ h => h) (Or.inl ⟨by rfl, fun w _ => by go_simp⟩) trivial ?_
      try simp only [List.getElem_toArray, List.getElem_cons_zero, List.getElem_cons_succ, Act.put, List.setIfInBounds_toArray, List.set_cons_zero, List.set_cons_succ]
      refine wpAnyH_take (i := 5) (v := undef) rfl (by kernel_rfl) (by kernel_rfl) (by kernel_rfl) (fun _ _ _ h => h) (Or.inr ⟨by rfl, rfl⟩) trivial ?_
      try simp only [List.getElem_toArray, List.getElem_cons_zero, List.getElem_cons_succ, Act.put, List.setIfInBounds_toArray, List.set_cons_zero, List.set_cons_succ]
      refine wpAnyH_take (i := 6) (v := undef) rfl (by kernel_rfl) (by kernel_rfl) (by kernel_rfl) (fun _ _ _ h => h) (Or.inr ⟨by rfl, rfl⟩) trivial ?_
      try simp only [List.getElem_toArray, List.getElem_cons_zero, List.getElem_cons_succ, Act.put, List.setIfInBounds_toArray, List.set_cons_zero, List.set_cons_succ]
      refine wpAnyH_take (i := 7) (v := undef) rfl (by kernel_rfl) (by kernel_rfl) (by kernel_rfl) (fun _ _ _ h => h) (Or.inr ⟨by rfl, rfl⟩) trivial ?_
      try simp only [List.getElem_toArray, List.getElem_cons_zero, List.getElem_cons_succ, Act.put, List.setIfInBounds_toArray, List.set_cons_zero, List.set_cons_succ]
      refine wpAnyH_take (i := 8) (v := undef) rfl (by kernel_rfl) (by kernel_rfl) (by kernel_rfl) (fun _ _ _ h => h) (Or.inr ⟨by rfl, rfl⟩) trivial ?_
      try simp only [List.getElem_toArray, List.getElem_cons_zero, List.getElem_cons_succ, Act.put, List.setIfInBounds_toArray, List.set_cons_zero, List.set_cons_succ]
      refine wpAnyH_take (i := 9) (v := undef) rfl (by kernel_rfl) (by kernel_rfl) (by kernel_rfl) (fun _ _ _ h => h) (Or.inr ⟨by rfl, rfl⟩) trivial ?_
      try simp only [List.getElem_toArray, List.getElem_cons_zero, List.getElem_cons_succ, Act.put, List.setIfInBounds_toArray, List.set_cons_zero, List.set_cons_succ]
      refine wpAnyH_take (i := 10) (v := undef) rfl (by kernel_rfl) (by kernel_rfl) (by kernel_rfl) (fun _ _ _ h => h) (Or.inr ⟨by rfl, rfl⟩) trivial ?_
      try simp only [List.getElem_toArray, List.getElem_cons_zero, List.getElem_cons_succ, Act.put, List.setIfInBounds_toArray, List.set_cons_zero, List.set_cons_succ]
      refine wpAnyH_take (i := 11) (v := undef) rfl (by kernel_rfl) (by kernel_rfl) (by kernel_rfl) (fun _ _ _ h => h) (Or.inr ⟨by rfl, rfl⟩) trivial ?_
      try simp only [List.getElem_toArray, List.getElem_cons_zero, List.getElem_cons_succ, Act.put, List.setIfInBounds_toArray, List.set_cons_zero, List.set_cons_succ]
      refine wpAnyH_take (i := 12) (v := undef) rfl (by kernel_rfl) (by kernel_rfl) (by kernel_rfl) (fun _ _ _ h => h) (Or.inr ⟨by rfl, rfl⟩) trivial ?_
      try simp only [List.getElem_toArray, List.getElem_cons_zero, List.getElem_cons_succ, Act.put, List.setIfInBounds_toArray, List.set_cons_zero, List.set_cons_succ]
      refine wpAnyH_take (i := 13) (v := undef) rfl (by kernel_rfl) (by kernel_rfl) (by kernel_rfl) (fun _ _ _ h => h) (Or.inr ⟨by rfl, rfl⟩) trivial ?_
      try simp only [List.getElem_toArray, List.getElem_cons_zero, List.getElem_cons_succ, Act.put, List.setIfInBounds_toArray, List.set_cons_zero, List.set_cons_succ]
      refine wpAnyH_take (i := 14) (v := undef) rfl (by kernel_rfl) (by kernel_rfl) (by kernel_rfl) (fun _ _ _ h => h) (Or.inr ⟨by rfl, rfl⟩) trivial ?_
      try simp only [List.getElem_toArray, List.getElem_cons_zero, List.getElem_cons_succ, Act.put, List.setIfInBounds_toArray, List.set_cons_zero, List.set_cons_succ]
      refine wpAnyH_take (i := 15) (v := undef) rfl (by kernel_rfl) (by kernel_rfl) (by kernel_rfl) (fun _ _ _ h => h) (Or.inr ⟨by rfl, rfl⟩) trivial ?_
      try simp only [List.getElem_toArray, List.getElem_cons_zero, List.getElem_cons_succ, Act.put, List.setIfInBounds_toArray, List.set_cons_zero, List.set_cons_succ]
      refine wpAnyH_take (i := 16) (v := undef) rfl (by kernel_rfl) (by kernel_rfl) (by kernel_rfl) (fun _ _ _ h => h) (Or.inr ⟨by rfl, rfl⟩) trivial ?_
      try simp only [List.getElem_toArray, List.getElem_cons_zero, List.getElem_cons_succ, Act.put, List.setIfInBounds_toArray, List.set_cons_zero, List.set_cons_succ]
      refine wpAnyH_take (i := 17) (v := undef) rfl (by kernel_rfl) (by kernel_rfl) (by kernel_rfl) (fun _ _ _ h => h) (Or.inr ⟨by rfl, rfl⟩) trivial ?_
      try simp only [List.getElem_toArray, List.getElem_cons_zero, List.getElem_cons_succ, Act.put, List.setIfInBounds_toArray, List.set_cons_zero, List.set_cons_succ]
      refine wpAnyH_take (i := 18) (v := undef) rfl (by kernel_rfl) (by kernel_rfl) (by kernel_rfl) (fun _ _ _ h => h) (Or.inr ⟨by rfl, rfl⟩) trivial ?_
      try simp only [List.getElem_toArray, List.getElem_cons_zero, List.getElem_cons_succ, Act.put, List.setIfInBounds_toArray, List.set_cons_zero, List.set_cons_succ]
      refine wpAnyH_take (i := 19) (v := .bool true) rfl (by kernel_rfl) (by kernel_rfl) (by kernel_rfl) (fun _ _ _ h => h) (Or.inl ⟨by rfl, fun w _ => by go_simp⟩) trivial ?_
      try simp only [List.getElem_toArray, List.getElem_cons_zero, List.getElem_cons_succ, Act.put, List.setIfInBounds_toArray, List.set_cons_zero, List.set_cons_succ]
      refine wpAnyH_take (i := 20) (v := .bool true) rfl (by kernel_rfl) (by kernel_rfl) (by kernel_rfl) (fun _ _ _ h => h) (Or.inl ⟨by rfl, fun w _ => by go_simp⟩) trivial ?_
      try simp only [List.getElem_toArray, List.getElem_cons_zero, List.getElem_cons_succ, Act.put, List.setIfInBounds_toArray, List.set_cons_zero, List.set_cons_succ]
      refine wpAnyH_take (i := 21) (v := .bool true) rfl (by kernel_rfl) (by kernel_rfl) (by kernel_rfl) (fun _ _ _ h => h) (Or.inl ⟨by rfl, fun w _ => by go_simp⟩) trivial ?_
      refine wpAnyH_done (by kernel_rfl) ?_ _
      go_wp2_with fail
      go_ret
      exact ⟨rfl, b5⟩

set_option maxRecDepth 100000 in
theorem lifted (os : Os) (started : os.Started) (H : Type) (enc : TypeId × Value → H) :
    ReturnsInHanded {} Try.checked os 8 .any (Rows.blobGetsSpec.pre6 enc Try.prog Try.f8 Rows.blobGetsRow.domain false) (Rows.blobGetsSpec.post enc Try.prog Try.f8 false true false false) := by
  refine returnsInHanded_of_change (C := Try.checked) own started (by kernel_rfl) Try.func8
    (ChangeSpec.witness6 (enc := enc) (C := Try.checked) false ⟨#[], #[.slice none 0 0, .int .i64 0], []⟩ 8 (by kernel_rfl) (by kernel_rfl) (by kernel_rfl) (by kernel_rfl)) ?_
  intro W base args ds gs before hval0 hW hcnd _
  have hval : ∀ (j : Nat) t v, Try.f8.params[j]? = some t → args[j]? = some v → Value.okWide Try.prog W .any base t v := hval0
  have hW' := hW
  obtain ⟨p, q, hA0, hV, rfl, hfz, hnd⟩ := hW
  have hA : DataW.TrodAll enc Try.prog W 0 (fun _ => true) true Try.f8.params.toList args.toList ds p := hA0
  rw [Try.params8] at hA hval
  obtain ⟨v0, vs0, d0, ds0, p0, q0, hargs, rfl, rfl, h0, r0⟩ := trodAll_cons hA
  obtain ⟨v1, vs1, d1, ds1, p1, q1, rfl, rfl, rfl, h1, r1⟩ := trodAll_cons r0
  obtain ⟨rfl, rfl, rfl⟩ := trodAll_nil r1
  obtain rfl : args = #[v0, v1] := by cases args; simp_all
  obtain ⟨rfl, rfl⟩ := trodVars_none hV
  obtain ⟨a0, len0, cap0, rfl⟩ := okWide_slice Try.underlying22 (hval 0 22 v0 rfl rfl)
  have k0 := h0
  have lt0 : ∀ x ∈ p0, x.block < W.heap.size := by obtain ⟨m, hm⟩ := k0; exact DataW.trod_lt m _ _ _ hm
  obtain ⟨z0, w0⟩ : ∃ zs, IsRow .u8 W a0 len0 cap0 zs := by
    obtain ⟨fuel, hf⟩ := h0
    rcases open_ints Try.underlying22 Try.underlying5 (by kernel_rfl) hf with ⟨hcs, _⟩ | ⟨x, l, c, zs, hcs, _, hl, hm, hz, _, hcell, hwz⟩
    · simp [Value.cells] at hcs
      obtain ⟨rfl, rfl, rfl⟩ := hcs
      exact ⟨[], .inl ⟨rfl, rfl, rfl, rfl⟩⟩
    · simp [Value.cells] at hcs
      obtain ⟨rfl, rfl, rfl⟩ := hcs
      exact ⟨zs, .inr ⟨_, rfl, hl, hm, by simpa using hz, hcell, hwz⟩⟩
  obtain ⟨a1, rfl, rfl, rfl, w1⟩ := open_int Try.underlying3 (hval 1 3 v1 rfl rfl) h1
  clear hA0 hval0
  refine (walk a0 len0 cap0 z0 a1 W w0 w1).mono fun e W' ⟨he, bel⟩ => ?_
  subst he
  exact ⟨_, rfl, _, _, _, [], _, [], hW', trodAll_mk1 (shut_bool Try.underlying4 _), (trodAll_cons_mk (Below.trod laidOut (by kernel_rfl) (of_decide_eq_true (by kernel_rfl)) k0 bel lt0) (trodAll_cons_mk (shut_int Try.underlying3 w1) trodAll_mk0)), rfl, bel.frame _, fun h => by cases h⟩

theorem over : Rows.blobGetsRow.holds Try.pinned (OpenSpec.ofChange Rows.blobGetsSpec) :=
  OpenClaim.holds_of_wide 8 Try.f8 rfl rfl rfl rfl rfl rfl rfl ⟨rfl, rfl, rfl, rfl, rfl⟩ rfl rfl rfl rfl rfl (by kernel_rfl) Try.func8 (by kernel_rfl)
    (of_decide_eq_true (by kernel_rfl)) (by unfold Func.isWrapper; first | (rw [if_pos (by decide +kernel)]; kernel_rfl) | (rw [if_neg (by decide +kernel)]; exact ⟨rfl, rfl⟩))
    (fun os started H enc _ => lifted os started H enc)

theorem proved : Rows.BlobGetsSaid := over
#print axioms proved
end Go.Proofs.Ytodojabhjdejpaa.blobGets

