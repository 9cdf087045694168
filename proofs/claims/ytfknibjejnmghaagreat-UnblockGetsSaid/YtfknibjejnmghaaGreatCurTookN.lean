/-
  Number of a cursor: the closure, cursor.take at numbers, what each call answers, and what has become of the cursor.
-/
import Derived.Test.YtfknibjejnmghaaGreatCurClo
import Derived.Test.YtfknibjejnmghaaGreatCurTook
namespace Go.Proofs.YtfknibjejnmghaaGreat
open Go.RowKit

set_option maxRecDepth 100000 in
set_option maxHeartbeats 1000000 in
theorem number1_any (A : Option Addr) (c : Nat) (ys : List Int) (most : Int) (q : Nat) (w : World) (hrow : Row w w.heap.size (.slice A ys.length c) ys) (hb : ∀ x ∈ ys, 0 ≤ x ∧ x < 256) (hq : w.cell? ⟨q, 0, none⟩ = some (.int .u64 most)) :
    Calls Tryz.prog 71 #[.slice A ys.length c, .pointer (some ⟨q, 0, none⟩)] w (Found u64V w (getN most ys)) := by
  have hql : q < w.heap.size := World.block_lt_of_cell? w ⟨q, 0, none⟩ hq
  have hg := get_any A c ys w hrow hb
  clear hrow hb
  unfold getN
  generalize getI ys = t at hg
  obtain ⟨n, s, er⟩ := t
  simp only at hg
  have HG := Lib.hid hg; clear hg
  by_cases he : er = 0
  · subst he
    by_cases hlt : most < n
    · rw [if_pos ⟨rfl, hlt⟩]
      go_enter Tryz.func71, Tryz.ntmps71
      go_wp2_with fail
      refine HG.out.mono ?_
      rintro e w1 ⟨rfl, hb1⟩
      have hq1 : w1.cell? ⟨q, 0, none⟩ = some (.int .u64 most) := (hb1.cell (p := ⟨q, 0, none⟩) hql).trans hq
      go_wp2_with fail
      go_ret3
      exact ⟨rfl, hb1⟩
    · rw [if_neg (fun h => hlt h.2)]
      go_enter Tryz.func71, Tryz.ntmps71
      go_wp2_with fail
      refine HG.out.mono ?_
      rintro e w1 ⟨rfl, hb1⟩
      have hq1 : w1.cell? ⟨q, 0, none⟩ = some (.int .u64 most) := (hb1.cell (p := ⟨q, 0, none⟩) hql).trans hq
      go_wp2_with fail
      go_ret3
      exact ⟨rfl, hb1⟩
  · have hne : (er == 0) = false := beq_eq_false_iff_ne.2 he
    rw [if_neg (fun h => he h.1)]
    go_enter Tryz.func71, Tryz.ntmps71
    go_wp2_with fail
    refine HG.out.mono ?_
    rintro e w1 ⟨rfl, hb1⟩
    go_wp2_with fail
    go_ret3
    exact ⟨rfl, hb1⟩

end Go.Proofs.YtfknibjejnmghaaGreat

namespace Go.Proofs.YtfknibjejnmghaaGreat
open Go.RowKit

set_option maxRecDepth 100000 in
set_option maxHeartbeats 1000000 in
theorem take_n_any {K g : Nat} {xs : List Int} {p : Nat} {e : Int} {w : World} (most : Int) (q : Nat) (h : Cur 95 w K g xs p e) (hp : p ≤ xs.length) (hK : K ≤ g) (hb : ∀ x ∈ xs, 0 ≤ x ∧ x < 256) (hq : w.cell? ⟨q, 0, none⟩ = some (.int .u64 most)) :
    Calls Tryz.prog 70 #[.pointer (some ⟨g, 0, none⟩), .func (.func 71) #[] #[.pointer (some ⟨q, 0, none⟩)]] w (Took u64V w K g xs (tk 0 p e (getN most (xs.drop p)))) := by
  obtain ⟨A, c, c0, c1, c2, f1, f2, hr, hl, hc⟩ := h.cells
  have hg := h.lt
  by_cases he : e = 0
  · subst he
    have hrest := Cur.rest (w := w.drew) (p := p) (hr.keep (fun _ _ => rfl)) (Nat.le_of_lt hg) hp
    have hfits := (getN_fits most (xs.drop p) (drop_bytes hb p)).1
    rw [List.length_drop] at hfits
    have hcall := number1_any _ _ (xs.drop p) most q w.drew (by rw [List.length_drop]; exact hrest) (drop_bytes hb p) hq
    rw [List.length_drop] at hcall
    clear hrest hr hb
    generalize getN most (xs.drop p) = t at hfits hcall
    obtain ⟨v, s, er⟩ := t
    have HC := Lib.hid h; clear h
    have i0 : (0 : Int) ≤ (p : Int) := by omega
    have i1 : (p : Int) ≤ (xs.length : Int) := by omega
    rcases Nat.decEq c p with hcp | hcp
    · rw [if_neg hcp] at hcall
      have HCALL := Lib.hid hcall; clear hcall
      by_cases her : er = 0
      · subst her
        have hs : s ≤ xs.length - p := hfits rfl
        clear hfits
        rw [tk_ok rfl]
        go_enter Tryz.func70, Tryz.ntmps70
        go_wp2_with fail
        go_region_held3 (fun w' => w'.cell? ⟨g, 0, none⟩ = some (.slice A xs.length c) ∧ w'.cell? ⟨g, 1, none⟩ = some (.int .i64 p)) (first | go_keep | (refine ⟨(hb1.cell (p := ⟨g, 0, none⟩) hg).trans c0, (hb1.cell (p := ⟨g, 1, none⟩) hg).trans c1⟩))
          (first | ((with_reducible refine HCALL.out.mono ?_); rintro r w1 ⟨rfl, hb1⟩))
        have hc1 : Cur 95 w1 K g xs p 0 := (HC.out.keep (w' := w.drew) (fun _ _ _ => rfl) hK).below hb1 hK
        obtain ⟨A1, c', d0, d1, d2, k1, k2, _, _, _⟩ := hc1.cells
        have HC1 := Lib.hid hc1; clear hc1
        go_wp2_with fail
        go_ret
        refine ⟨rfl, ?_, grown_trans (grown_drew (grown_below (a := w.drew) hb1 _)) (grown_put _ _ _ _)⟩
        have hat := HC1.out.at_ (p + s)
        rw [Int.natCast_add] at hat
        exact hat
      · have hne : (er != 0) = true := by simpa using her
        clear hfits
        rw [tk_err her]
        have hst : stopI 0 er = er := rfl
        have HST := Lib.hid hst; clear hst
        go_enter Tryz.func70, Tryz.ntmps70
        go_wp2_with fail
        go_region_held3 (fun w' => w'.cell? ⟨g, 0, none⟩ = some (.slice A xs.length c) ∧ w'.cell? ⟨g, 1, none⟩ = some (.int .i64 p)) (first | go_keep | (refine ⟨(hb1.cell (p := ⟨g, 0, none⟩) hg).trans c0, (hb1.cell (p := ⟨g, 1, none⟩) hg).trans c1⟩))
          (first | ((with_reducible refine HCALL.out.mono ?_); rintro r w1 ⟨rfl, hb1⟩))
        have HC1 : Hid (Cur 95 w1 K g xs p 0) := (HC.out.keep (w' := w.drew) (fun _ _ _ => rfl) hK).below hb1 hK
        go_wp2_with fail
        refine (stop_any er HC1.out).mono ?_
        rintro r w2 ⟨rfl, hc2, hg2⟩
        rw [HST.out] at hc2
        have HC2 := Lib.hid hc2; clear hc2
        go_wp2_with fail
        go_ret
        exact ⟨rfl, HC2.out, grown_trans (grown_drew (grown_below (a := w.drew) hb1 _)) hg2⟩
    · have hcp' := hcp.symm
      subst hcp'
      rw [if_pos rfl, Nat.sub_self, Nat.sub_eq_zero_of_le hl] at hcall
      have HCALL := Lib.hid hcall; clear hcall hcp
      by_cases her : er = 0
      · subst her
        have hs : s ≤ xs.length - p := hfits rfl
        clear hfits
        rw [tk_ok rfl]
        go_enter Tryz.func70, Tryz.ntmps70
        go_wp2_with fail
        go_region_held3 (fun w' => w'.cell? ⟨g, 0, none⟩ = some (.slice A xs.length p) ∧ w'.cell? ⟨g, 1, none⟩ = some (.int .i64 p)) (first | go_keep | (refine ⟨(hb1.cell (p := ⟨g, 0, none⟩) hg).trans c0, (hb1.cell (p := ⟨g, 1, none⟩) hg).trans c1⟩))
          (first | ((with_reducible refine HCALL.out.mono ?_); rintro r w1 ⟨rfl, hb1⟩))
        have hc1 : Cur 95 w1 K g xs p 0 := (HC.out.keep (w' := w.drew) (fun _ _ _ => rfl) hK).below hb1 hK
        obtain ⟨A1, c', d0, d1, d2, k1, k2, _, _, _⟩ := hc1.cells
        have HC1 := Lib.hid hc1; clear hc1
        go_wp2_with fail
        go_ret
        refine ⟨rfl, ?_, grown_trans (grown_drew (grown_below (a := w.drew) hb1 _)) (grown_put _ _ _ _)⟩
        have hat := HC1.out.at_ (p + s)
        rw [Int.natCast_add] at hat
        exact hat
      · have hne : (er != 0) = true := by simpa using her
        clear hfits
        rw [tk_err her]
        have hst : stopI 0 er = er := rfl
        have HST := Lib.hid hst; clear hst
        go_enter Tryz.func70, Tryz.ntmps70
        go_wp2_with fail
        go_region_held3 (fun w' => w'.cell? ⟨g, 0, none⟩ = some (.slice A xs.length p) ∧ w'.cell? ⟨g, 1, none⟩ = some (.int .i64 p)) (first | go_keep | (refine ⟨(hb1.cell (p := ⟨g, 0, none⟩) hg).trans c0, (hb1.cell (p := ⟨g, 1, none⟩) hg).trans c1⟩))
          (first | ((with_reducible refine HCALL.out.mono ?_); rintro r w1 ⟨rfl, hb1⟩))
        have HC1 : Hid (Cur 95 w1 K g xs p 0) := (HC.out.keep (w' := w.drew) (fun _ _ _ => rfl) hK).below hb1 hK
        go_wp2_with fail
        refine (stop_any er HC1.out).mono ?_
        rintro r w2 ⟨rfl, hc2, hg2⟩
        rw [HST.out] at hc2
        have HC2 := Lib.hid hc2; clear hc2
        go_wp2_with fail
        go_ret
        exact ⟨rfl, HC2.out, grown_trans (grown_drew (grown_below (a := w.drew) hb1 _)) hg2⟩
  · rw [tk_stopped he]
    have hne : (e != 0) = true := by simpa using he
    have HC := Lib.hid h; clear h hr
    go_enter Tryz.func70, Tryz.ntmps70
    go_wp2_with fail
    go_ret
    exact ⟨rfl, HC.out, World.grownBy.refl _ _⟩
#print axioms take_n_any
end Go.Proofs.YtfknibjejnmghaaGreat

namespace Go.Proofs.YtfknibjejnmghaaGreat
open Go.RowKit

section
variable {K g : Nat} {xs : List Int} {p : Nat} {e : Int} {w : World}

theorem number_any (most : Int) (h : Cur 95 w K g xs p e) (hp : p ≤ xs.length) (hK : K ≤ g) (hb : ∀ x ∈ xs, 0 ≤ x ∧ x < 256) :
    Calls Tryz.prog 40 #[.pointer (some ⟨g, 0, none⟩), .int .u64 most] w (Took u64V w K g xs (tk 0 p e (getN most (xs.drop p)))) := by
  have h1 := h.below ((Below.refl _ _).alloc (Nat.le_refl _) (.cells #[.int .u64 most] 32)) hK
  have HT := Lib.hid (take_n_any most w.heap.size h1 hp hK hb (by simp [World.cell?_alloc_new])); clear h h1 hb
  go_enter Tryz.func40, Tryz.ntmps40
  go_wp2_with fail
  refine HT.out.mono ?_
  rintro r w1 ⟨rfl, hc1, hg1⟩
  go_wp2_with fail
  go_ret
  exact ⟨rfl, hc1, grown_trans (grown_alloc _ _ _) hg1⟩

end
#print axioms number_any
end Go.Proofs.YtfknibjejnmghaaGreat
