/-
  Text of a cursor: cursor.take at texts, what each call answers, and what has become of the cursor.
-/
import Derived.Test.YtfknibjejnmghaaGreatCurClo
namespace Go.Proofs.YtfknibjejnmghaaGreat
open Go.RowKit

set_option maxRecDepth 100000 in
set_option maxHeartbeats 1000000 in
theorem take_t_any {K g : Nat} {xs : List Int} {p : Nat} {e : Int} {w : World} (most : Int) (hm0 : -9223372036854775808 ≤ most) (hm1 : most ≤ 9223372036854775807) (q : Nat) (h : Cur 95 w K g xs p e) (hp : p ≤ xs.length) (hK : K ≤ g) (hb : ∀ x ∈ xs, 0 ≤ x ∧ x < 256) (hq : w.cell? ⟨q, 0, none⟩ = some (.int .i64 most)) :
    Calls Tryz.prog 89 #[.pointer (some ⟨g, 0, none⟩), .func (.func 90) #[] #[.pointer (some ⟨q, 0, none⟩)]] w (Took txtV w K g xs (tk [] p e (getT most (xs.drop p)))) := by
  obtain ⟨A, c, c0, c1, c2, f1, f2, hr, hl, hc⟩ := h.cells
  have hg := h.lt
  by_cases he : e = 0
  · subst he
    have hrest := Cur.rest (w := w.drew) (p := p) (hr.keep (fun _ _ => rfl)) (Nat.le_of_lt hg) hp
    have hfits := (getT_fits most (xs.drop p) (drop_bytes hb p)).1
    rw [List.length_drop] at hfits
    have hcall := text1_any _ _ (xs.drop p) most hm0 hm1 q w.drew (by rw [List.length_drop]; exact hrest) (drop_bytes hb p) hq
    rw [List.length_drop] at hcall
    clear hrest hr hb
    generalize getT most (xs.drop p) = t at hfits hcall
    obtain ⟨v, s, er⟩ := t
    have HC := Lib.hid h; clear h
    have i0 : (0 : Int) ≤ (p : Int) := by omega
    have i1 : (p : Int) ≤ (xs.length : Int) := by omega
    rcases Nat.decEq c p with hcp | hcp
    · rw [if_neg hcp] at hcall
      have HCALL := Lib.hid hcall; clear hcall
      by_cases her : er = 0
      · subst her
        have hs : s ≤ xs.length - p := hfits rfl
        clear hfits
        rw [tk_ok rfl]
        go_enter Tryz.func89, Tryz.ntmps89
        go_wp2_with fail
        go_region_held3 (fun w' => w'.cell? ⟨g, 0, none⟩ = some (.slice A xs.length c) ∧ w'.cell? ⟨g, 1, none⟩ = some (.int .i64 p)) (first | go_keep | (refine ⟨(hb1.cell (p := ⟨g, 0, none⟩) hg).trans c0, (hb1.cell (p := ⟨g, 1, none⟩) hg).trans c1⟩))
          (first | ((with_reducible refine HCALL.out.mono ?_); rintro r w1 ⟨rfl, hb1⟩))
        have hc1 : Cur 95 w1 K g xs p 0 := (HC.out.keep (w' := w.drew) (fun _ _ _ => rfl) hK).below hb1 hK
        obtain ⟨A1, c', d0, d1, d2, k1, k2, _, _, _⟩ := hc1.cells
        have HC1 := Lib.hid hc1; clear hc1
        go_wp2_with fail
        go_ret
        refine ⟨rfl, ?_, grown_trans (grown_drew (grown_below (a := w.drew) hb1 _)) (grown_put _ _ _ _)⟩
        have hat := HC1.out.at_ (p + s)
        rw [Int.natCast_add] at hat
        exact hat
      · have hne : (er != 0) = true := by simpa using her
        clear hfits
        rw [tk_err her]
        have hst : stopI 0 er = er := rfl
        have HST := Lib.hid hst; clear hst
        go_enter Tryz.func89, Tryz.ntmps89
        go_wp2_with fail
        go_region_held3 (fun w' => w'.cell? ⟨g, 0, none⟩ = some (.slice A xs.length c) ∧ w'.cell? ⟨g, 1, none⟩ = some (.int .i64 p)) (first | go_keep | (refine ⟨(hb1.cell (p := ⟨g, 0, none⟩) hg).trans c0, (hb1.cell (p := ⟨g, 1, none⟩) hg).trans c1⟩))
          (first | ((with_reducible refine HCALL.out.mono ?_); rintro r w1 ⟨rfl, hb1⟩))
        have HC1 : Hid (Cur 95 w1 K g xs p 0) := (HC.out.keep (w' := w.drew) (fun _ _ _ => rfl) hK).below hb1 hK
        go_wp2_with fail
        refine (stop_any er HC1.out).mono ?_
        rintro r w2 ⟨rfl, hc2, hg2⟩
        rw [HST.out] at hc2
        have HC2 := Lib.hid hc2; clear hc2
        go_wp2_with fail
        go_ret
        exact ⟨rfl, HC2.out, grown_trans (grown_drew (grown_below (a := w.drew) hb1 _)) hg2⟩
    · have hcp' := hcp.symm
      subst hcp'
      rw [if_pos rfl, Nat.sub_self, Nat.sub_eq_zero_of_le hl] at hcall
      have HCALL := Lib.hid hcall; clear hcall hcp
      by_cases her : er = 0
      · subst her
        have hs : s ≤ xs.length - p := hfits rfl
        clear hfits
        rw [tk_ok rfl]
        go_enter Tryz.func89, Tryz.ntmps89
        go_wp2_with fail
        go_region_held3 (fun w' => w'.cell? ⟨g, 0, none⟩ = some (.slice A xs.length p) ∧ w'.cell? ⟨g, 1, none⟩ = some (.int .i64 p)) (first | go_keep | (refine ⟨(hb1.cell (p := ⟨g, 0, none⟩) hg).trans c0, (hb1.cell (p := ⟨g, 1, none⟩) hg).trans c1⟩))
          (first | ((with_reducible refine HCALL.out.mono ?_); rintro r w1 ⟨rfl, hb1⟩))
        have hc1 : Cur 95 w1 K g xs p 0 := (HC.out.keep (w' := w.drew) (fun _ _ _ => rfl) hK).below hb1 hK
        obtain ⟨A1, c', d0, d1, d2, k1, k2, _, _, _⟩ := hc1.cells
        have HC1 := Lib.hid hc1; clear hc1
        go_wp2_with fail
        go_ret
        refine ⟨rfl, ?_, grown_trans (grown_drew (grown_below (a := w.drew) hb1 _)) (grown_put _ _ _ _)⟩
        have hat := HC1.out.at_ (p + s)
        rw [Int.natCast_add] at hat
        exact hat
      · have hne : (er != 0) = true := by simpa using her
        clear hfits
        rw [tk_err her]
        have hst : stopI 0 er = er := rfl
        have HST := Lib.hid hst; clear hst
        go_enter Tryz.func89, Tryz.ntmps89
        go_wp2_with fail
        go_region_held3 (fun w' => w'.cell? ⟨g, 0, none⟩ = some (.slice A xs.length p) ∧ w'.cell? ⟨g, 1, none⟩ = some (.int .i64 p)) (first | go_keep | (refine ⟨(hb1.cell (p := ⟨g, 0, none⟩) hg).trans c0, (hb1.cell (p := ⟨g, 1, none⟩) hg).trans c1⟩))
          (first | ((with_reducible refine HCALL.out.mono ?_); rintro r w1 ⟨rfl, hb1⟩))
        have HC1 : Hid (Cur 95 w1 K g xs p 0) := (HC.out.keep (w' := w.drew) (fun _ _ _ => rfl) hK).below hb1 hK
        go_wp2_with fail
        refine (stop_any er HC1.out).mono ?_
        rintro r w2 ⟨rfl, hc2, hg2⟩
        rw [HST.out] at hc2
        have HC2 := Lib.hid hc2; clear hc2
        go_wp2_with fail
        go_ret
        exact ⟨rfl, HC2.out, grown_trans (grown_drew (grown_below (a := w.drew) hb1 _)) hg2⟩
  · rw [tk_stopped he]
    have hne : (e != 0) = true := by simpa using he
    have HC := Lib.hid h; clear h hr
    go_enter Tryz.func89, Tryz.ntmps89
    go_wp2_with fail
    go_ret
    exact ⟨rfl, HC.out, World.grownBy.refl _ _⟩
#print axioms take_t_any
end Go.Proofs.YtfknibjejnmghaaGreat

namespace Go.Proofs.YtfknibjejnmghaaGreat
open Go.RowKit

section
variable {K g : Nat} {xs : List Int} {p : Nat} {e : Int} {w : World}

theorem grown_alloc (w : World) (o : Obj) (row : Option Nat) : w.grownBy (w.alloc o) row := grown_below ((Below.refl _ _).alloc (Nat.le_refl _) o) row

theorem text_any (most : Int) (hm0 : -9223372036854775808 ≤ most) (hm1 : most ≤ 9223372036854775807) (h : Cur 95 w K g xs p e) (hp : p ≤ xs.length) (hK : K ≤ g) (hb : ∀ x ∈ xs, 0 ≤ x ∧ x < 256) :
    Calls Tryz.prog 72 #[.pointer (some ⟨g, 0, none⟩), .int .i64 most] w (Took txtV w K g xs (tk [] p e (getT most (xs.drop p)))) := by
  have h1 := h.below ((Below.refl _ _).alloc (Nat.le_refl _) (.cells #[.int .i64 most] 3)) hK
  have HT := Lib.hid (take_t_any most hm0 hm1 w.heap.size h1 hp hK hb (by simp [World.cell?_alloc_new])); clear h h1 hb
  go_enter Tryz.func72, Tryz.ntmps72
  go_wp2_with fail
  refine HT.out.mono ?_
  rintro r w1 ⟨rfl, hc1, hg1⟩
  go_wp2_with fail
  go_ret
  exact ⟨rfl, hc1, grown_trans (grown_alloc _ _ _) hg1⟩
end
#print axioms text_any
end Go.Proofs.YtfknibjejnmghaaGreat
