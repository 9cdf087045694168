/-
  What sig.Same answers.
-/
import Derived.Test.YtfbpgkohekfkjaaSigSameCode
namespace Go.Proofs.Ytfbpgkohekfkjaa
open Go.RowKit

set_option maxRecDepth 100000 in
set_option maxHeartbeats 2000000 in
theorem eqfunc_any (A1 : Option Addr) (c1 : Nat) (ds1 : List Pd) (A2 : Option Addr) (c2 : Nat) (ds2 : List Pd) (w : World) (hrow1 : PredRow w w.heap.size (.slice A1 ds1.length c1) ds1) (hrow2 : PredRow w w.heap.size (.slice A2 ds2.length c2) ds2) :
    Calls Try.prog 23 #[.slice A1 ds1.length c1, .slice A2 ds2.length c2, .func (.func 24) #[] #[]] w fun e w' => e = .returned (.bool (decide (ds1.map (·.p) = ds2.map (·.p)))) ∧ Below w.heap.size w w' := by
  obtain ⟨_, hc1, hc2⟩ : ∃ _ : True, ds1.length ≤ c1 ∧ c1 ≤ 9223372036854775807 := by
    obtain ⟨A', c', hv, q1, q2⟩ := hrow1.form
    injection hv with _ _ e3
    exact ⟨trivial, by omega, by omega⟩
  obtain ⟨_, hc3, hc4⟩ : ∃ _ : True, ds2.length ≤ c2 ∧ c2 ≤ 9223372036854775807 := by
    obtain ⟨A', c', hv, q1, q2⟩ := hrow2.form
    injection hv with _ _ e3
    exact ⟨trivial, by omega, by omega⟩
  by_cases hl : ds1.length = ds2.length
  · have hyes := fun h => decide_eq_true (prs_ext (l := ds1.map (·.p)) (m := ds2.map (·.p)) (by simpa using hl) h)
    have hno := fun (i : Nat) (h : (ds1.map (·.p)).getD i default ≠ (ds2.map (·.p)).getD i default) => decide_eq_false (p := ds1.map (·.p) = ds2.map (·.p)) (fun e => h (by rw [e]))
    generalize decide (ds1.map (·.p) = ds2.map (·.p)) = R at hyes hno ⊢
    have HY := Lib.hid hyes
    have HN := Lib.hid hno
    have HR1 := Lib.hid hrow1
    have HR2 := Lib.hid hrow2
    clear hyes hno hrow1 hrow2
    rw [← hl] at hc3
    have HL := Lib.hid hl
    rw [← hl] at HR2 ⊢
    clear hl
    obtain ⟨N, hN⟩ : ∃ N, ds1.length = N := ⟨_, rfl⟩
    have HN1 := Lib.hid hN
    rw [hN] at HR1 HR2 hc1 hc3 HL ⊢
    clear hN
    go_enter Try.func23, Try.ntmps23
    go_wp2_with fail
    go_loopg [17] N (fun gk i wr => ∃ k : Nat, k ≤ N ∧ i = .int .i64 k ∧ Hid (N - k = gk) ∧ Hid (∀ j, j < k → (ds1.map (·.p)).getD j default = (ds2.map (·.p)).getD j default) ∧ Hid (Below w.heap.size w wr))
    case atStart => exact ⟨0, Nat.zero_le _, rfl, Lib.hid rfl, Lib.hid (fun j h => absurd h (Nat.not_lt_zero _)), Lib.hid (Below.refl _ _)⟩
    case round =>
      obtain ⟨k, hk, rfl, HGK, HJ, HBW⟩ := hrel
      by_cases hlt : k < N
      · obtain ⟨d1, hd1⟩ : ∃ d, ds1[k]? = some d := ⟨_, List.getElem?_eq_getElem (by rw [HN1.out]; exact hlt)⟩
        obtain ⟨d2, hd2⟩ : ∃ d, ds2[k]? = some d := ⟨_, List.getElem?_eq_getElem (by rw [← HL.out]; exact hlt)⟩
        obtain ⟨b1, o1, rfl, hb1, x0, x1, hir1, hfit1, ha1, ha2⟩ := (HR1.out.below HBW.out).at hd1
        obtain ⟨b2, o2, rfl, hb2, y0, y1, hir2, hfit2, ha3, ha4⟩ := (HR2.out.below HBW.out).at hd2
        have e1 := getD_pr (at_pr hd1)
        have e2 := getD_pr (at_pr hd2)
        have hno := HN.out k
        rw [e1, e2] at hno
        have HNO := Lib.hid hno
        have HST := Lib.hid (fun (h : d1.p = d2.p) => step_lt (P := fun j => (ds1.map (·.p)).getD j default = (ds2.map (·.p)).getD j default) HJ.out (by rw [e1, e2]; exact h))
        have HSP := Lib.hid (fun W (h : Below w.heap.size wr W) => spred_any d1 d2 W hfit1.2.1 hfit2.2.1 ((hir1.below h).more (Nat.le_trans HBW.out.size h.size)) ((hir2.below h).more (Nat.le_trans HBW.out.size h.size)))
        obtain ⟨w1, hw1⟩ : ∃ w1, wr.alloc (.cells #[.string (strOfNums d1.p.name), .slice d1.A d1.p.args.length d1.c] 37) = w1 := ⟨_, rfl⟩
        obtain ⟨w2, hw2⟩ : ∃ w2, w1.alloc (.cells #[.string (strOfNums d2.p.name), .slice d2.A d2.p.args.length d2.c] 37) = w2 := ⟨_, rfl⟩
        have s1 : w1.heap.size = wr.heap.size + 1 := by rw [← hw1]; simp
        have s2 : w2.heap.size = wr.heap.size + 1 + 1 := by rw [← hw2]; simp [s1]
        have z0 := HBW.out.size
        have g1 : Below wr.heap.size wr w1 := by rw [← hw1]; exact (Below.refl _ _).alloc (Nat.le_refl _) _
        have g2 : Below w1.heap.size w1 w2 := by rw [← hw2]; exact (Below.refl _ _).alloc (Nat.le_refl _) _
        have h1 : Held w1 wr.heap.size 37 #[.string (strOfNums d1.p.name), .slice d1.A d1.p.args.length d1.c] := by rw [← hw1]; exact heap_alloc_new wr _
        have h2 : Held w2 (wr.heap.size + 1) 37 #[.string (strOfNums d2.p.name), .slice d2.A d2.p.args.length d2.c] := by rw [← hw2, ← s1]; exact heap_alloc_new w1 _
        have h1' := h1.below g2 (by omega)
        have p0 := h1'.cell 0
        have p1 := h1'.cell 1
        have p2 := h2.cell 0
        have p3 := h2.cell 1
        simp at p0 p1 p2 p3
        have y0' := (g1.cell (p := ⟨b2, o2 + k * 2, none⟩) (by simpa using Nat.lt_of_lt_of_le hb2 z0)).trans y0
        have y1' := (g1.cell (p := ⟨b2, o2 + k * 2 + 1, none⟩) (by simpa using Nat.lt_of_lt_of_le hb2 z0)).trans y1
        have g12 := (g1.trans (g2.mono (by omega))).mono z0
        have HSQ := Lib.hid (HSP.out w2 g12)
        have HB2 := Lib.hid (HBW.out.trans g12)
        have hbz1 : b1 < w1.heap.size := by omega
        have hbz2 : b2 < w1.heap.size := by omega
        clear HSP hir1 hir2 hfit1 hfit2 e1 e2 hno hd1 hd2 h1 h2 h1' g1 g2 g12
        by_cases hp : d1.p = d2.p
        · have HJ2 := Lib.hid (HST.out hp)
          rw [decide_eq_true hp] at HSQ
          clear hp
          go_wp2_with fail
          refine HSQ.out.mono ?_
          rintro e w3 ⟨rfl, hb3⟩
          have HB3 := Lib.hid (HB2.out.trans (hb3.mono (by omega)))
          clear hb3 p0 p1 p2 p3 x0 x1 y0 y1 y0' y1'
          go_wp2_with fail
          go_roundg (N - (k + 1))
          case measure => have := HGK.out; omega
          case rel => exact ⟨k + 1, by omega, by go_num, Lib.hid rfl, HJ2, HB3⟩
        · have HR := Lib.hid (HNO.out hp)
          rw [decide_eq_false hp] at HSQ
          clear hp
          go_wp2_with fail
          refine HSQ.out.mono ?_
          rintro e w3 ⟨rfl, hb3⟩
          have HB3 := Lib.hid (HB2.out.trans (hb3.mono (by omega)))
          clear hb3 p0 p1 p2 p3 x0 x1 y0 y1 y0' y1'
          go_wp2_with fail
          go_ret
          exact ⟨by rw [HR.out]; rfl, HB3.out⟩
      · obtain rfl : k = N := by omega
        have HR := Lib.hid (HY.out (fun i hi => HJ.out i (by rw [List.length_map, HN1.out] at hi; exact hi)))
        go_wp2_with fail
        go_ret
        exact ⟨by rw [HR.out]; rfl, HBW.out⟩
  · have hlb : ((ds1.length : Int) != (ds2.length : Int)) = true := bne_iff_ne.2 (by omega)
    have hf : decide (ds1.map (·.p) = ds2.map (·.p)) = false := decide_eq_false (fun e => hl (by have := congrArg List.length e; simpa using this))
    rw [hf]
    clear hf hrow1 hrow2
    go_enter Try.func23, Try.ntmps23
    go_wp2_with fail
    go_ret
    exact ⟨rfl, Below.refl _ _⟩

theorem ssame_any : SameC := by
  intro A1 c1 ds1 A2 c2 ds2 w hrow1 hrow2
  have HE := Lib.hid (eqfunc_any A1 c1 ds1 A2 c2 ds2 w hrow1 hrow2)
  clear hrow1 hrow2
  generalize decide (ds1.map (·.p) = ds2.map (·.p)) = R at HE ⊢
  go_enter Try.func15, Try.ntmps15
  go_wp2_with fail
  refine HE.out.mono ?_
  rintro e w1 ⟨rfl, hb⟩
  go_wp2_with fail
  go_ret
  exact ⟨rfl, hb⟩
#print axioms ssame_any
end Go.Proofs.Ytfbpgkohekfkjaa
