/-
  What sig.Same answers: slices.Equal at numbers, samePred, slices.EqualFunc.
-/
import Derived.Test.YtfbpgkohekfkjaaSigKept
import Derived.Test.YtfbpgkohekfkjaaSigClone
import Derived.Test.YtfbpgkohekfkjaaSigSameRef
import Derived.Deep.RegionHeld3
namespace Go.Proofs.Ytfbpgkohekfkjaa
open Go.RowKit

set_option maxRecDepth 100000 in
set_option maxHeartbeats 2000000 in
theorem equal_any (A1 : Option Addr) (c1 : Nat) (l1 : List Int) (A2 : Option Addr) (c2 : Nat) (l2 : List Int) (w : World) (hrow1 : IRow w w.heap.size (.slice A1 l1.length c1) l1) (hrow2 : IRow w w.heap.size (.slice A2 l2.length c2) l2) :
    Calls Try.prog 25 #[.slice A1 l1.length c1, .slice A2 l2.length c2] w fun e w' => e = .returned (.bool (decide (l1 = l2))) ∧ Below w.heap.size w w' := by
  by_cases hl : l1.length = l2.length
  · have hyes := fun h => decide_eq_true (args_ext (l := l1) (m := l2) hl h)
    have hno := fun (i : Nat) (h : l1.getD i 0 ≠ l2.getD i 0) => decide_eq_false (p := l1 = l2) (fun e => h (by rw [e]))
    generalize decide (l1 = l2) = R at hyes hno ⊢
    have HY := Lib.hid hyes
    have HN := Lib.hid hno
    have HI1 := Lib.hid (fun W (h : Below w.heap.size w W) => hrow1.below h)
    have HI2 := Lib.hid (fun W (h : Below w.heap.size w W) => hrow2.below h)
    have hlt : l1.length ≤ 9223372036854775807 := by
      obtain ⟨_, _, _, q1, q2, _⟩ := hrow1
      rw [List.length_map] at q1
      unfold maxLen at q2
      omega
    clear hyes hno hrow1 hrow2
    have HL := Lib.hid hl
    rw [← hl] at HI2 ⊢
    clear hl
    go_enter Try.func25, Try.ntmps25
    go_wp2_with fail
    go_loopg [13] l1.length (fun gm i wr2 => ∃ m : Nat, m ≤ l1.length ∧ i = .int .i64 m ∧ Hid (l1.length - m = gm) ∧ Hid (∀ j, j < m → l1.getD j 0 = l2.getD j 0) ∧ Below w.heap.size w wr2)
    case atStart => exact ⟨0, Nat.zero_le _, rfl, Lib.hid rfl, Lib.hid (fun j h => absurd h (Nat.not_lt_zero _)), Below.refl _ _⟩
    case round =>
      obtain ⟨m, hm, rfl, HGM, HI, hbw2⟩ := hrel
      by_cases hml : m < l1.length
      · obtain ⟨q1, r1, rfl, hq1, t1⟩ := (HI1.out _ hbw2).at hml
        obtain ⟨q2, r2, rfl, hq2, t2⟩ := (HI2.out _ hbw2).at (by rw [← HL.out]; exact hml)
        by_cases he : l1.getD m 0 = l2.getD m 0
        · have HI3 := Lib.hid (step_lt (P := fun j => l1.getD j 0 = l2.getD j 0) HI.out he)
          rw [he] at t1
          generalize l2.getD m 0 = t at t1 t2
          have HB2 := Lib.hid hbw2
          clear he hbw2
          go_wp2_with fail
          go_quiet (fail)
          go_wp2_with fail
          go_roundg (l1.length - (m + 1))
          case measure => have := HGM.out; omega
          case rel => exact ⟨m + 1, by omega, by go_num, Lib.hid rfl, HI3, HB2.out.trans (drewN_low _ _ _)⟩
        · have HR := Lib.hid (HN.out m he)
          generalize l1.getD m 0 = s1 at t1 he
          generalize l2.getD m 0 = s2 at t2 he
          have hse : (s1 != s2) = true := bne_iff_ne.2 he
          have HB2 := Lib.hid hbw2
          clear he hbw2
          go_wp2_with fail
          go_quiet (fail)
          go_wp2_with fail
          go_ret
          exact ⟨by rw [HR.out]; rfl, HB2.out.trans (drewN_low _ _ _)⟩
      · obtain rfl : m = l1.length := by omega
        have HR := Lib.hid (HY.out HI.out)
        have HB2 := Lib.hid hbw2
        clear hbw2
        go_wp2_with fail
        go_ret
        exact ⟨by rw [HR.out]; rfl, HB2.out⟩
  · have hlb : ((l1.length : Int) != (l2.length : Int)) = true := bne_iff_ne.2 (by omega)
    have hf : decide (l1 = l2) = false := decide_eq_false (fun e => hl (by rw [e]))
    rw [hf]
    clear hf hrow1 hrow2
    go_enter Try.func25, Try.ntmps25
    go_wp2_with fail
    go_ret
    exact ⟨rfl, Below.refl _ _⟩
#print axioms equal_any

theorem run_eql_key (w : World) (a b : ByteArray) : (binOp .eql 42 (.agg #[.string a]) (.agg #[.string b])).run Try.prog w = .ok (.bool (a.toList == b.toList)) w := by
  have h := key_eq w a b
  unfold Op.equal at h
  rw [run_eql_struct, show (10000 : Nat) = Op.maxDepth from rfl, h]
  rfl
theorem pr_eq_dec (p q : Pr) : decide (p = q) = (decide (p.name = q.name) && decide (p.args = q.args)) := by
  obtain ⟨a, b⟩ := p
  obtain ⟨c, d⟩ := q
  by_cases h1 : a = c <;> by_cases h2 : b = d <;> simp [h1, h2]

set_option maxRecDepth 100000 in
set_option maxHeartbeats 2000000 in
theorem spred_any (d1 d2 : Pd) (w : World) (f1 : ∀ x ∈ d1.p.name, 0 ≤ x ∧ x < 256) (f2 : ∀ x ∈ d2.p.name, 0 ≤ x ∧ x < 256) (hrow1 : IRow w w.heap.size (.slice d1.A d1.p.args.length d1.c) d1.p.args) (hrow2 : IRow w w.heap.size (.slice d2.A d2.p.args.length d2.c) d2.p.args) :
    Calls Try.prog 24 #[d1.val, d2.val] w fun e w' => e = .returned (.bool (decide (d1.p = d2.p))) ∧ Below w.heap.size w w' := by
  obtain ⟨⟨nm1, l1⟩, A1, c1⟩ := d1
  obtain ⟨⟨nm2, l2⟩, A2, c2⟩ := d2
  simp only at f1 f2 hrow1 hrow2
  rw [pr_eq_dec]
  dsimp only [Pd.val]
  have hde := str_eq_dec f1 f2
  have HIE := Lib.hid (fun W (h : Below w.heap.size w W) => equal_any A1 c1 l1 A2 c2 l2 W ((hrow1.below h).more h.size) ((hrow2.below h).more h.size))
  clear f1 f2 hrow1 hrow2
  generalize decide (l1 = l2) = E at HIE ⊢
  generalize l1.length = n1 at HIE ⊢
  generalize l2.length = n2 at HIE ⊢
  have HK1 := Lib.hid (fun W => key_any (strOfNums nm1) A1 n1 c1 W)
  have HK2 := Lib.hid (fun W => key_any (strOfNums nm2) A2 n2 c2 W)
  have hke := fun W => run_eql_key W (strOfNums nm1) (strOfNums nm2)
  rw [hde] at hke
  generalize strOfNums nm1 = s1 at HK1 hke hde ⊢
  generalize strOfNums nm2 = s2 at HK2 hke hde ⊢
  obtain ⟨w1, hw1⟩ : ∃ w1, (w.alloc (.cells #[.string s1, .slice A1 n1 c1] 37)).alloc (.cells #[.string s2, .slice A2 n2 c2] 37) = w1 := ⟨_, rfl⟩
  have s1' : w1.heap.size = w.heap.size + 1 + 1 := by rw [← hw1]; simp
  have b1 : Below w.heap.size w w1 := by rw [← hw1]; exact ((Below.refl _ _).alloc (Nat.le_refl _) _).alloc (by simp) _
  have h1 : Held w1 w.heap.size 37 #[.string s1, .slice A1 n1 c1] := by
    rw [← hw1]
    exact Held.below (heap_alloc_new w _) ((Below.refl _ _).alloc (Nat.le_refl _) _) (by simp)
  have h2 : Held w1 (w.heap.size + 1) 37 #[.string s2, .slice A2 n2 c2] := by
    rw [← hw1, show w.heap.size + 1 = (w.alloc (.cells #[.string s1, .slice A1 n1 c1] 37)).heap.size by simp]
    exact heap_alloc_new _ _
  have hall : ∀ W, Below w1.heap.size w1 W → Below w1.heap.size w1 W ∧ W.cell? ⟨w.heap.size, 0, none⟩ = some (.string s1) ∧ W.cell? ⟨w.heap.size, 1, none⟩ = some (.slice A1 n1 c1) ∧ W.cell? ⟨w.heap.size + 1, 0, none⟩ = some (.string s2) ∧ W.cell? ⟨w.heap.size + 1, 1, none⟩ = some (.slice A2 n2 c2) := fun W h => by
    have g1 := h1.below h (by omega)
    have g2 := h2.below h (by omega)
    have e0 := g1.cell 0
    have e1 := g1.cell 1
    have e2 := g2.cell 0
    have e3 := g2.cell 1
    exact ⟨h, by simpa using e0, by simpa using e1, by simpa using e2, by simpa using e3⟩
  have HALL := Lib.hid hall
  have HB1 := Lib.hid b1
  clear hall h1 h2 b1
  have hkp : ∀ W W', Below w1.heap.size w1 W → Below W.heap.size W W' → Below w1.heap.size w1 W' := fun W W' h h' => h.trans (h'.mono h.size)
  have HKP := Lib.hid hkp
  clear hkp
  cases hd : decide (nm1 = nm2) with
  | false =>
    rw [hd] at hke hde
    clear hd
    rw [Bool.false_and]
    clear hke
    go_enter Try.func24, Try.ntmps24
    go_wp2_with fail
    clear hw1
    have hS0 := HALL.out _ (Below.refl _ _).drew
    refine wp_region_held_drew (S := fun W => Below w1.heap.size w1 W ∧ W.cell? ⟨w.heap.size, 0, none⟩ = some (.string s1) ∧ W.cell? ⟨w.heap.size, 1, none⟩ = some (.slice A1 n1 c1) ∧ W.cell? ⟨w.heap.size + 1, 0, none⟩ = some (.string s2) ∧ W.cell? ⟨w.heap.size + 1, 1, none⟩ = some (.slice A2 n2 c2)) (by kernel_rfl) hS0 (fun _ => ?_)
    refine wpAnyH_take (i := 0) (v := .agg #[.string s1, .slice A1 n1 c1]) rfl (by kernel_rfl) (by kernel_rfl) (by kernel_rfl) (fun _ _ _ h => h) (Or.inl ⟨by rfl, fun W hW => by obtain ⟨_, q0, q1, q2, q3⟩ := hW; go_simp⟩) hS0 ?_
    try simp only [List.getElem_toArray, List.getElem_cons_zero, Act.put, List.setIfInBounds_toArray, List.set_cons_zero, List.set_cons_succ]
    refine wpAnyH_take (i := 2) (v := .agg #[.string s2, .slice A2 n2 c2]) rfl (by kernel_rfl) (by kernel_rfl) (by kernel_rfl) (fun _ _ _ h => h) (Or.inl ⟨by rfl, fun W hW => by obtain ⟨_, q0, q1, q2, q3⟩ := hW; go_simp⟩) hS0 ?_
    try simp only [List.getElem_toArray, List.getElem_cons_zero, List.getElem_cons_succ, Act.put, List.setIfInBounds_toArray, List.set_cons_zero, List.set_cons_succ]
    refine wpAnyH_ready (rs := [1]) (by kernel_rfl) (by simp) ?_
    refine AllReadyH.cons rfl (fun K hK => ?_) AllReadyH.nil
    go_simp
    refine (HK1.out _).mono ?_
    rintro e w7 ⟨rfl, hb7⟩
    have b7 : Below w1.heap.size w1 w7 := HKP.out _ _ (Below.refl _ _).drew hb7
    refine hK.out _ _ (HALL.out _ b7) (fun _ => ?_)
    clear hK K
    try simp only [List.getElem_toArray, List.getElem_cons_zero, List.getElem_cons_succ, Act.put, List.setIfInBounds_toArray, List.set_cons_zero, List.set_cons_succ]
    refine wpAnyH_ready (rs := [3]) (by kernel_rfl) (by simp) ?_
    refine AllReadyH.cons rfl (fun K hK => ?_) AllReadyH.nil
    go_simp
    refine (HK2.out _).mono ?_
    rintro e w8 ⟨rfl, hb8⟩
    have b8 : Below w1.heap.size w1 w8 := HKP.out _ _ b7 hb8
    have hS8 := HALL.out _ b8
    refine hK.out _ _ hS8 (fun _ => ?_)
    clear hK K hS0
    try simp only [List.getElem_toArray, List.getElem_cons_zero, List.getElem_cons_succ, Act.put, List.setIfInBounds_toArray, List.set_cons_zero, List.set_cons_succ]
    refine wpAnyH_take (i := 4) (v := .bool false) rfl (by kernel_rfl) (by kernel_rfl) (by kernel_rfl) (fun _ _ _ h => h) (Or.inl ⟨by rfl, fun W _ => by go_simp⟩) hS8 ?_
    try simp only [List.getElem_toArray, List.getElem_cons_zero, List.getElem_cons_succ, Act.put, List.setIfInBounds_toArray, List.set_cons_zero, List.set_cons_succ]
    refine wpAnyH_take (i := 5) (v := .bool false) rfl (by kernel_rfl) (by kernel_rfl) (by kernel_rfl) (fun _ _ _ h => h) (Or.inl ⟨by rfl, fun W _ => by go_simp⟩) hS8 ?_
    try simp only [List.getElem_toArray, List.getElem_cons_zero, List.getElem_cons_succ, Act.put, List.setIfInBounds_toArray, List.set_cons_zero, List.set_cons_succ]
    refine wpAnyH_take (i := 6) (v := undef) rfl (by kernel_rfl) (by kernel_rfl) (by kernel_rfl) (fun _ _ _ h => h) (Or.inr ⟨by rfl, rfl⟩) hS8 ?_
    try simp only [List.getElem_toArray, List.getElem_cons_zero, List.getElem_cons_succ, Act.put, List.setIfInBounds_toArray, List.set_cons_zero, List.set_cons_succ]
    refine wpAnyH_take (i := 7) (v := undef) rfl (by kernel_rfl) (by kernel_rfl) (by kernel_rfl) (fun _ _ _ h => h) (Or.inr ⟨by rfl, rfl⟩) hS8 ?_
    try simp only [List.getElem_toArray, List.getElem_cons_zero, List.getElem_cons_succ, Act.put, List.setIfInBounds_toArray, List.set_cons_zero, List.set_cons_succ]
    refine wpAnyH_take (i := 8) (v := undef) rfl (by kernel_rfl) (by kernel_rfl) (by kernel_rfl) (fun _ _ _ h => h) (Or.inr ⟨by rfl, rfl⟩) hS8 ?_
    try simp only [List.getElem_toArray, List.getElem_cons_zero, List.getElem_cons_succ, Act.put, List.setIfInBounds_toArray, List.set_cons_zero, List.set_cons_succ]
    refine wpAnyH_take (i := 9) (v := undef) rfl (by kernel_rfl) (by kernel_rfl) (by kernel_rfl) (fun _ _ _ h => h) (Or.inr ⟨by rfl, rfl⟩) hS8 ?_
    try simp only [List.getElem_toArray, List.getElem_cons_zero, List.getElem_cons_succ, Act.put, List.setIfInBounds_toArray, List.set_cons_zero, List.set_cons_succ]
    refine wpAnyH_take (i := 10) (v := undef) rfl (by kernel_rfl) (by kernel_rfl) (by kernel_rfl) (fun _ _ _ h => h) (Or.inr ⟨by rfl, rfl⟩) hS8 ?_
    try simp only [List.getElem_toArray, List.getElem_cons_zero, List.getElem_cons_succ, Act.put, List.setIfInBounds_toArray, List.set_cons_zero, List.set_cons_succ]
    refine wpAnyH_take (i := 11) (v := .bool false) rfl (by kernel_rfl) (by kernel_rfl) (by kernel_rfl) (fun _ _ _ h => h) (Or.inl ⟨by rfl, fun W _ => by go_simp⟩) hS8 ?_
    try simp only [List.getElem_toArray, List.getElem_cons_zero, List.getElem_cons_succ, Act.put, List.setIfInBounds_toArray, List.set_cons_zero, List.set_cons_succ]
    refine wpAnyH_take (i := 12) (v := .bool false) rfl (by kernel_rfl) (by kernel_rfl) (by kernel_rfl) (fun _ _ _ h => h) (Or.inl ⟨by rfl, fun W _ => by go_simp⟩) hS8 ?_
    try simp only [List.getElem_toArray, List.getElem_cons_zero, List.getElem_cons_succ, Act.put, List.setIfInBounds_toArray, List.set_cons_zero, List.set_cons_succ]
    refine wpAnyH_done (by kernel_rfl) ?_ _
    go_wp2_with fail
    go_ret
    exact ⟨rfl, HB1.out.trans (b8.mono (by omega))⟩
  | true =>
    rw [hd] at hke
    clear hd
    rw [Bool.true_and]
    go_enter Try.func24, Try.ntmps24
    go_wp2_with fail
    clear hw1
    go_region_held3 (fun W => Below w1.heap.size w1 W ∧ W.cell? ⟨w.heap.size, 0, none⟩ = some (.string s1) ∧ W.cell? ⟨w.heap.size, 1, none⟩ = some (.slice A1 n1 c1) ∧ W.cell? ⟨w.heap.size + 1, 0, none⟩ = some (.string s2) ∧ W.cell? ⟨w.heap.size + 1, 1, none⟩ = some (.slice A2 n2 c2))
      (first | exact HALL.out _ (Below.refl _ _) | exact HALL.out _ (Below.refl _ _).drew | exact HALL.out _ b7 | exact HALL.out _ b8 | exact HALL.out _ b9)
      (first
        | (go_at_call 18; (with_reducible refine (HK1.out _).mono ?_); rintro e w7 ⟨rfl, hb7⟩; have b7 : Below w1.heap.size w1 w7 := HKP.out _ _ (Below.refl _ _).drew hb7)
        | (go_at_call 18; (with_reducible refine (HK2.out _).mono ?_); rintro e w8 ⟨rfl, hb8⟩; have b8 : Below w1.heap.size w1 w8 := HKP.out _ _ b7 hb8)
        | (go_at_call 25; (with_reducible refine (HIE.out _ (HB1.out.trans (b8.mono (by omega)))).mono ?_); rintro e w9 ⟨rfl, hb9⟩; have b9 : Below w1.heap.size w1 w9 := HKP.out _ _ b8 hb9))
    go_wp2_with fail
    go_ret
    exact ⟨rfl, HB1.out.trans (b9.mono (by omega))⟩
#print axioms spred_any
end Go.Proofs.Ytfbpgkohekfkjaa
