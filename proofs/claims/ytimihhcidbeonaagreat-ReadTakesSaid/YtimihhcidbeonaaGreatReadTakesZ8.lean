/-
  What the theorem of ReadTakes rests on, part 8 of 17.
-/
import Derived.Deep.LoopGhost
import Derived.Test.YtimihhcidbeonaaGreatReadTakesZ7
set_option maxRecDepth 100000
set_option maxHeartbeats 16000000
namespace Go.Proofs.YtimihhcidbeonaaGreat
open Lib (hid)
open Go.RowKit
theorem number1_any (A : Option Addr) (c : Nat) (ys : List Int) (most : Int) (q : Nat) (w : World) (hrow : Row w w.heap.size (.slice A ys.length c) ys) (hb : ∀ x ∈ ys, 0 ≤ x ∧ x < 256) (hq : w.cell? ⟨q, 0, none⟩ = some (.int .u64 most)) :
  Calls Tryz.prog 151 #[.slice A ys.length c, .pointer (some ⟨q, 0, none⟩)] w (Found u64V w (getN most ys)) := by
 have hql : q < w.heap.size := World.block_lt_of_cell? w ⟨q, 0, none⟩ hq
 have hg := get_any A c ys w hrow hb
 clear hrow hb
 unfold getN
 generalize getI ys = t at hg
 obtain ⟨n, s, er⟩ := t
 simp only at hg
 have HG := hid hg; clear hg
 by_cases he : er = 0
 ·subst he
  by_cases hlt : most < n
  ·rw [if_pos ⟨rfl, hlt⟩]
   go_enter Tryz.func151, Tryz.ntmps151
   go_wp2_with fail
   refine HG.out.mono ?_
   rintro e w1 ⟨rfl, hb1⟩
   have hq1 : w1.cell? ⟨q, 0, none⟩ = some (.int .u64 most) := (hb1.cell (p := ⟨q, 0, none⟩) hql).trans hq
   go_wp2_with fail
   go_ret3
   exact ⟨rfl, hb1⟩
  ·rw [if_neg (fun h => hlt h.2)]
   go_enter Tryz.func151, Tryz.ntmps151
   go_wp2_with fail
   refine HG.out.mono ?_
   rintro e w1 ⟨rfl, hb1⟩
   have hq1 : w1.cell? ⟨q, 0, none⟩ = some (.int .u64 most) := (hb1.cell (p := ⟨q, 0, none⟩) hql).trans hq
   go_wp2_with fail
   go_ret3
   exact ⟨rfl, hb1⟩
 ·have hne : (er == 0) = false := beq_eq_false_iff_ne.2 he
  rw [if_neg (fun h => he h.1)]
  go_enter Tryz.func151, Tryz.ntmps151
  go_wp2_with fail
  refine HG.out.mono ?_
  rintro e w1 ⟨rfl, hb1⟩
  go_wp2_with fail
  go_ret3
  exact ⟨rfl, hb1⟩
theorem take_n_any {K g : Nat} {xs : List Int} {p : Nat} {e : Int} {w : World} (most : Int) (q : Nat) (h : Cur 174 w K g xs p e) (hp : p ≤ xs.length) (hK : K ≤ g) (hb : ∀ x ∈ xs, 0 ≤ x ∧ x < 256) (hq : w.cell? ⟨q, 0, none⟩ = some (.int .u64 most)) :
  Calls Tryz.prog 150 #[.pointer (some ⟨g, 0, none⟩), .func (.func 151) #[] #[.pointer (some ⟨q, 0, none⟩)]] w (Took u64V w K g xs (tk 0 p e (getN most (xs.drop p)))) := by
 obtain ⟨A, c, c0, c1, c2, f1, f2, hr, hl, hc⟩ := h.cells
 have hg := h.lt
 by_cases he : e = 0
 ·subst he
  have hrest := Cur.rest (w := w.drew) (p := p) (hr.keep (fun _ _ => rfl)) (Nat.le_of_lt hg) hp
  have hfits := (getN_fits most (xs.drop p) (drop_bytes hb p)).1
  rw [List.length_drop] at hfits
  have hcall := number1_any _ _ (xs.drop p) most q w.drew (by rw [List.length_drop]; exact hrest) (drop_bytes hb p) hq
  rw [List.length_drop] at hcall
  clear hrest hr hb
  generalize getN most (xs.drop p) = t at hfits hcall
  obtain ⟨v, s, er⟩ := t
  have HC := hid h; clear h
  have i0 : (0 : Int) ≤ (p : Int) := by omega
  have i1 : (p : Int) ≤ (xs.length : Int) := by omega
  rcases Nat.decEq c p with hcp | hcp
  ·rw [if_neg hcp] at hcall
   have HCALL := hid hcall; clear hcall
   by_cases her : er = 0
   ·subst her
    have hs : s ≤ xs.length - p := hfits rfl
    clear hfits
    rw [tk_ok rfl]
    go_enter Tryz.func150, Tryz.ntmps150
    go_wp2_with fail
    go_region_held3 (fun w' => w'.cell? ⟨g, 0, none⟩ = some (.slice A xs.length c) ∧ w'.cell? ⟨g, 1, none⟩ = some (.int .i64 p)) (first | go_keep | (refine ⟨(hb1.cell (p := ⟨g, 0, none⟩) hg).trans c0, (hb1.cell (p := ⟨g, 1, none⟩) hg).trans c1⟩))
     (first | ((with_reducible refine HCALL.out.mono ?_); rintro r w1 ⟨rfl, hb1⟩))
    have hc1 : Cur 174 w1 K g xs p 0 := (HC.out.keep (w' := w.drew) (fun _ _ _ => rfl) hK).below hb1 hK
    obtain ⟨A1, c', d0, d1, d2, k1, k2, _, _, _⟩ := hc1.cells
    have HC1 := hid hc1; clear hc1
    go_wp2_with fail
    go_ret
    refine ⟨rfl, ?_, grown_trans (grown_drew (grown_below (a := w.drew) hb1 _)) (grown_put _ _ _ _)⟩
    have hat := HC1.out.at_ (p + s)
    rw [Int.natCast_add] at hat
    exact hat
   ·have hne : (er != 0) = true := by simpa using her
    clear hfits
    rw [tk_err her]
    have hst : stopI 0 er = er := rfl
    have HST := hid hst; clear hst
    go_enter Tryz.func150, Tryz.ntmps150
    go_wp2_with fail
    go_region_held3 (fun w' => w'.cell? ⟨g, 0, none⟩ = some (.slice A xs.length c) ∧ w'.cell? ⟨g, 1, none⟩ = some (.int .i64 p)) (first | go_keep | (refine ⟨(hb1.cell (p := ⟨g, 0, none⟩) hg).trans c0, (hb1.cell (p := ⟨g, 1, none⟩) hg).trans c1⟩))
     (first | ((with_reducible refine HCALL.out.mono ?_); rintro r w1 ⟨rfl, hb1⟩))
    have HC1 : Hid (Cur 174 w1 K g xs p 0) := (HC.out.keep (w' := w.drew) (fun _ _ _ => rfl) hK).below hb1 hK
    go_wp2_with fail
    refine (stop_any er HC1.out).mono ?_
    rintro r w2 ⟨rfl, hc2, hg2⟩
    rw [HST.out] at hc2
    have HC2 := hid hc2; clear hc2
    go_wp2_with fail
    go_ret
    exact ⟨rfl, HC2.out, grown_trans (grown_drew (grown_below (a := w.drew) hb1 _)) hg2⟩
  ·have hcp' := hcp.symm
   subst hcp'
   rw [if_pos rfl, Nat.sub_self, Nat.sub_eq_zero_of_le hl] at hcall
   have HCALL := hid hcall; clear hcall hcp
   by_cases her : er = 0
   ·subst her
    have hs : s ≤ xs.length - p := hfits rfl
    clear hfits
    rw [tk_ok rfl]
    go_enter Tryz.func150, Tryz.ntmps150
    go_wp2_with fail
    go_region_held3 (fun w' => w'.cell? ⟨g, 0, none⟩ = some (.slice A xs.length p) ∧ w'.cell? ⟨g, 1, none⟩ = some (.int .i64 p)) (first | go_keep | (refine ⟨(hb1.cell (p := ⟨g, 0, none⟩) hg).trans c0, (hb1.cell (p := ⟨g, 1, none⟩) hg).trans c1⟩))
     (first | ((with_reducible refine HCALL.out.mono ?_); rintro r w1 ⟨rfl, hb1⟩))
    have hc1 : Cur 174 w1 K g xs p 0 := (HC.out.keep (w' := w.drew) (fun _ _ _ => rfl) hK).below hb1 hK
    obtain ⟨A1, c', d0, d1, d2, k1, k2, _, _, _⟩ := hc1.cells
    have HC1 := hid hc1; clear hc1
    go_wp2_with fail
    go_ret
    refine ⟨rfl, ?_, grown_trans (grown_drew (grown_below (a := w.drew) hb1 _)) (grown_put _ _ _ _)⟩
    have hat := HC1.out.at_ (p + s)
    rw [Int.natCast_add] at hat
    exact hat
   ·have hne : (er != 0) = true := by simpa using her
    clear hfits
    rw [tk_err her]
    have hst : stopI 0 er = er := rfl
    have HST := hid hst; clear hst
    go_enter Tryz.func150, Tryz.ntmps150
    go_wp2_with fail
    go_region_held3 (fun w' => w'.cell? ⟨g, 0, none⟩ = some (.slice A xs.length p) ∧ w'.cell? ⟨g, 1, none⟩ = some (.int .i64 p)) (first | go_keep | (refine ⟨(hb1.cell (p := ⟨g, 0, none⟩) hg).trans c0, (hb1.cell (p := ⟨g, 1, none⟩) hg).trans c1⟩))
     (first | ((with_reducible refine HCALL.out.mono ?_); rintro r w1 ⟨rfl, hb1⟩))
    have HC1 : Hid (Cur 174 w1 K g xs p 0) := (HC.out.keep (w' := w.drew) (fun _ _ _ => rfl) hK).below hb1 hK
    go_wp2_with fail
    refine (stop_any er HC1.out).mono ?_
    rintro r w2 ⟨rfl, hc2, hg2⟩
    rw [HST.out] at hc2
    have HC2 := hid hc2; clear hc2
    go_wp2_with fail
    go_ret
    exact ⟨rfl, HC2.out, grown_trans (grown_drew (grown_below (a := w.drew) hb1 _)) hg2⟩
 ·rw [tk_stopped he]
  have hne : (e != 0) = true := by simpa using he
  have HC := hid h; clear h hr
  go_enter Tryz.func150, Tryz.ntmps150
  go_wp2_with fail
  go_ret
  exact ⟨rfl, HC.out, World.grownBy.refl _ _⟩
section
variable {K g : Nat} {xs : List Int} {p : Nat} {e : Int} {w : World}
theorem number_any (most : Int) (h : Cur 174 w K g xs p e) (hp : p ≤ xs.length) (hK : K ≤ g) (hb : ∀ x ∈ xs, 0 ≤ x ∧ x < 256) :
  Calls Tryz.prog 94 #[.pointer (some ⟨g, 0, none⟩), .int .u64 most] w (Took u64V w K g xs (tk 0 p e (getN most (xs.drop p)))) := by
 have h1 := h.below ((Below.refl _ _).alloc (Nat.le_refl _) (.cells #[.int .u64 most] 32)) hK
 have HT := hid (take_n_any most w.heap.size h1 hp hK hb (by simp [World.cell?_alloc_new])); clear h h1 hb
 go_enter Tryz.func94, Tryz.ntmps94
 go_wp2_with fail
 refine HT.out.mono ?_
 rintro r w1 ⟨rfl, hc1, hg1⟩
 go_wp2_with fail
 go_ret
 exact ⟨rfl, hc1, grown_trans (grown_alloc _ _ _) hg1⟩
end
theorem unfold_any (n : Int) (h1 : 0 ≤ n) (h2 : n ≤ 18446744073709551615) (w : World) :
  Calls Tryz.prog 213 #[.int .u64 n] w fun e w' => e = .returned (.int .i64 (unfoldI n)) ∧ w = w' := by
 by_cases hx : n % 2 = 1
 ·have e1 : unfoldI n = -1 - n / 2 := by unfold unfoldI; rw [if_pos hx]
  have E1 := hid e1; clear e1
  have hb : (n % 2 == 1) = true := by simp [hx]
  clear hx
  go_enter Tryz.func213, Tryz.ntmps213
  go_wp2
  go_ret
  exact ⟨by rw [E1.out]; rfl, rfl⟩
 ·have e1 : unfoldI n = n / 2 := by unfold unfoldI; rw [if_neg hx]
  have E1 := hid e1; clear e1
  have hb : (n % 2 == 1) = false := by simp [hx]
  clear hx
  go_enter Tryz.func213, Tryz.ntmps213
  go_wp2
  go_ret
  exact ⟨by rw [E1.out]; rfl, rfl⟩
theorem signed1_any (A : Option Addr) (c : Nat) (ys : List Int) (w : World) (hrow : Row w w.heap.size (.slice A ys.length c) ys) (hb : ∀ x ∈ ys, 0 ≤ x ∧ x < 256) :
  Calls Tryz.prog 212 #[.slice A ys.length c] w (Found i64V w (getS ys)) := by
 have hg := get_any A c ys w hrow hb
 obtain ⟨r1, r2⟩ := getI_range ys hb
 clear hrow hb
 unfold getS
 generalize getI ys = t at hg r1 r2
 obtain ⟨n, s, er⟩ := t
 simp only at hg r1 r2
 have HU := hid (fun W => unfold_any n r1 r2 W)
 have HG := hid hg; clear hg r1 r2
 go_enter Tryz.func212, Tryz.ntmps212
 go_wp2_with fail
 refine HG.out.mono ?_
 rintro e w1 ⟨rfl, hb1⟩
 go_wp2_with fail
 refine (HU.out _).mono ?_
 rintro e w2 ⟨rfl, rfl⟩
 go_wp2_with fail
 go_ret3
 exact ⟨rfl, hb1⟩
theorem take_s_any {K g : Nat} {xs : List Int} {p : Nat} {e : Int} {w : World} (h : Cur 174 w K g xs p e) (hp : p ≤ xs.length) (hK : K ≤ g) (hb : ∀ x ∈ xs, 0 ≤ x ∧ x < 256) :
  Calls Tryz.prog 211 #[.pointer (some ⟨g, 0, none⟩), .func (.func 212) #[] #[]] w (Took i64V w K g xs (tk 0 p e (getS (xs.drop p)))) := by
 obtain ⟨A, c, c0, c1, c2, f1, f2, hr, hl, hc⟩ := h.cells
 have hg := h.lt
 by_cases he : e = 0
 ·subst he
  have hrest := Cur.rest (w := w.drew) (p := p) (hr.keep (fun _ _ => rfl)) (Nat.le_of_lt hg) hp
  have hfits := (getS_fits (xs.drop p) (drop_bytes hb p)).1
  rw [List.length_drop] at hfits
  have hcall := signed1_any _ _ (xs.drop p) w.drew (by rw [List.length_drop]; exact hrest) (drop_bytes hb p)
  rw [List.length_drop] at hcall
  clear hrest hr hb
  generalize getS (xs.drop p) = t at hfits hcall
  obtain ⟨v, s, er⟩ := t
  have HC := hid h; clear h
  have i0 : (0 : Int) ≤ (p : Int) := by omega
  have i1 : (p : Int) ≤ (xs.length : Int) := by omega
  rcases Nat.decEq c p with hcp | hcp
  ·rw [if_neg hcp] at hcall
   have HCALL := hid hcall; clear hcall
   by_cases her : er = 0
   ·subst her
    have hs : s ≤ xs.length - p := hfits rfl
    clear hfits
    rw [tk_ok rfl]
    go_enter Tryz.func211, Tryz.ntmps211
    go_wp2_with fail
    go_region_held3 (fun w' => w'.cell? ⟨g, 0, none⟩ = some (.slice A xs.length c) ∧ w'.cell? ⟨g, 1, none⟩ = some (.int .i64 p)) (first | go_keep | (refine ⟨(hb1.cell (p := ⟨g, 0, none⟩) hg).trans c0, (hb1.cell (p := ⟨g, 1, none⟩) hg).trans c1⟩))
     (first | ((with_reducible refine HCALL.out.mono ?_); rintro r w1 ⟨rfl, hb1⟩))
    have hc1 : Cur 174 w1 K g xs p 0 := (HC.out.keep (w' := w.drew) (fun _ _ _ => rfl) hK).below hb1 hK
    obtain ⟨A1, c', d0, d1, d2, k1, k2, _, _, _⟩ := hc1.cells
    have HC1 := hid hc1; clear hc1
    go_wp2_with fail
    go_ret
    refine ⟨rfl, ?_, grown_trans (grown_drew (grown_below (a := w.drew) hb1 _)) (grown_put _ _ _ _)⟩
    have hat := HC1.out.at_ (p + s)
    rw [Int.natCast_add] at hat
    exact hat
   ·have hne : (er != 0) = true := by simpa using her
    clear hfits
    rw [tk_err her]
    have hst : stopI 0 er = er := rfl
    have HST := hid hst; clear hst
    go_enter Tryz.func211, Tryz.ntmps211
    go_wp2_with fail
    go_region_held3 (fun w' => w'.cell? ⟨g, 0, none⟩ = some (.slice A xs.length c) ∧ w'.cell? ⟨g, 1, none⟩ = some (.int .i64 p)) (first | go_keep | (refine ⟨(hb1.cell (p := ⟨g, 0, none⟩) hg).trans c0, (hb1.cell (p := ⟨g, 1, none⟩) hg).trans c1⟩))
     (first | ((with_reducible refine HCALL.out.mono ?_); rintro r w1 ⟨rfl, hb1⟩))
    have HC1 : Hid (Cur 174 w1 K g xs p 0) := (HC.out.keep (w' := w.drew) (fun _ _ _ => rfl) hK).below hb1 hK
    go_wp2_with fail
    refine (stop_any er HC1.out).mono ?_
    rintro r w2 ⟨rfl, hc2, hg2⟩
    rw [HST.out] at hc2
    have HC2 := hid hc2; clear hc2
    go_wp2_with fail
    go_ret
    exact ⟨rfl, HC2.out, grown_trans (grown_drew (grown_below (a := w.drew) hb1 _)) hg2⟩
  ·have hcp' := hcp.symm
   subst hcp'
   rw [if_pos rfl, Nat.sub_self, Nat.sub_eq_zero_of_le hl] at hcall
   have HCALL := hid hcall; clear hcall hcp
   by_cases her : er = 0
   ·subst her
    have hs : s ≤ xs.length - p := hfits rfl
    clear hfits
    rw [tk_ok rfl]
    go_enter Tryz.func211, Tryz.ntmps211
    go_wp2_with fail
    go_region_held3 (fun w' => w'.cell? ⟨g, 0, none⟩ = some (.slice A xs.length p) ∧ w'.cell? ⟨g, 1, none⟩ = some (.int .i64 p)) (first | go_keep | (refine ⟨(hb1.cell (p := ⟨g, 0, none⟩) hg).trans c0, (hb1.cell (p := ⟨g, 1, none⟩) hg).trans c1⟩))
     (first | ((with_reducible refine HCALL.out.mono ?_); rintro r w1 ⟨rfl, hb1⟩))
    have hc1 : Cur 174 w1 K g xs p 0 := (HC.out.keep (w' := w.drew) (fun _ _ _ => rfl) hK).below hb1 hK
    obtain ⟨A1, c', d0, d1, d2, k1, k2, _, _, _⟩ := hc1.cells
    have HC1 := hid hc1; clear hc1
    go_wp2_with fail
    go_ret
    refine ⟨rfl, ?_, grown_trans (grown_drew (grown_below (a := w.drew) hb1 _)) (grown_put _ _ _ _)⟩
    have hat := HC1.out.at_ (p + s)
    rw [Int.natCast_add] at hat
    exact hat
   ·have hne : (er != 0) = true := by simpa using her
    clear hfits
    rw [tk_err her]
    have hst : stopI 0 er = er := rfl
    have HST := hid hst; clear hst
    go_enter Tryz.func211, Tryz.ntmps211
    go_wp2_with fail
    go_region_held3 (fun w' => w'.cell? ⟨g, 0, none⟩ = some (.slice A xs.length p) ∧ w'.cell? ⟨g, 1, none⟩ = some (.int .i64 p)) (first | go_keep | (refine ⟨(hb1.cell (p := ⟨g, 0, none⟩) hg).trans c0, (hb1.cell (p := ⟨g, 1, none⟩) hg).trans c1⟩))
     (first | ((with_reducible refine HCALL.out.mono ?_); rintro r w1 ⟨rfl, hb1⟩))
    have HC1 : Hid (Cur 174 w1 K g xs p 0) := (HC.out.keep (w' := w.drew) (fun _ _ _ => rfl) hK).below hb1 hK
    go_wp2_with fail
    refine (stop_any er HC1.out).mono ?_
    rintro r w2 ⟨rfl, hc2, hg2⟩
    rw [HST.out] at hc2
    have HC2 := hid hc2; clear hc2
    go_wp2_with fail
    go_ret
    exact ⟨rfl, HC2.out, grown_trans (grown_drew (grown_below (a := w.drew) hb1 _)) hg2⟩
 ·rw [tk_stopped he]
  have hne : (e != 0) = true := by simpa using he
  have HC := hid h; clear h hr
  go_enter Tryz.func211, Tryz.ntmps211
  go_wp2_with fail
  go_ret
  exact ⟨rfl, HC.out, World.grownBy.refl _ _⟩
section
variable {K g : Nat} {xs : List Int} {p : Nat} {e : Int} {w : World}
theorem signed_any (h : Cur 174 w K g xs p e) (hp : p ≤ xs.length) (hK : K ≤ g) (hb : ∀ x ∈ xs, 0 ≤ x ∧ x < 256) :
  Calls Tryz.prog 195 #[.pointer (some ⟨g, 0, none⟩)] w (Took i64V w K g xs (tk 0 p e (getS (xs.drop p)))) := by
 have HT := hid (take_s_any h hp hK hb); clear h hb
 go_enter Tryz.func195, Tryz.ntmps195
 go_wp2_with fail
 refine HT.out.mono ?_
 rintro r w1 ⟨rfl, hc1, hg1⟩
 go_wp2_with fail
 go_ret
 exact ⟨rfl, hc1, hg1⟩
end
set_option linter.unusedVariables false
theorem Tryz.infoStr15 : (Tryz.prog.info? 9).map (fun i => (i.zero, i.size, i.bytes)) = some (some (.string ⟨#[]⟩), 1, 16) := by kernel_rfl
section
variable {K g G n : Nat} {xs : List Int} {D : List (List Int)} {p : Nat} {e : Int} {w : World} {vs vt : Value}
theorem unum_any (h : Cur 174 w K g xs p e) (hp : p ≤ xs.length) (hK : K ≤ g) (hb : ∀ x ∈ xs, 0 ≤ x ∧ x < 256) :
  Calls Tryz.prog 94 #[.pointer (some ⟨g, 0, none⟩), .int .u64 18446744073709551615] w (Took u64V w K g xs (nx m64 xs p e)) := number_any 18446744073709551615 h hp hK hb
theorem utext_any (h : Cur 174 w K g xs p e) (hp : p ≤ xs.length) (hK : K ≤ g) (hb : ∀ x ∈ xs, 0 ≤ x ∧ x < 256) (hh : Held w G 105 #[.pointer (some ⟨g, 0, none⟩), vs, vt]) (hgG : g ≠ G)
  (ht : w.ownsRow n 9 1 vt D.length (strVs D)) (hgn : g < n) (hDl : D.length ≤ 4096) :
  Calls Tryz.prog 196 #[.pointer (some ⟨G, 0, none⟩)] w (Took txtV w K g xs (txtU D xs p e)) := by
 have HNUM := hid (unum_any h hp hK hb)
 obtain ⟨⟨N, hN, _, hN64⟩, _, hq⟩ := nx_range (e := e) hb (m := m64) (by decide) hp
 unfold txtU
 generalize nx m64 xs p e = t at HNUM hN hq ⊢
 obtain ⟨Ni, q, e2⟩ := t
 simp only at hN hq ⊢
 subst hN
 rw [Int.toNat_natCast]
 obtain ⟨T, ct, rfl⟩ := own_form ht
 have x0 := hh.cell 0
 simp at x0
 have HH := hid hh
 have HT := hid ht
 have HGG := hid hgG
 have HGN := hid hgn
 obtain ⟨m, hm⟩ : ∃ m, D.length = m := ⟨_, rfl⟩
 have HM := hid hm
 rw [hm] at hDl ⊢
 clear h hb hp hq hh ht hgG hgn hm
 by_cases hlt : m ≤ N
 ·rw [if_pos (by omega)]
  have hli : (m : Int) ≤ (N : Int) := by omega
  have hcv : IntKind.u64.wrap (m : Int) = (m : Int) := IntWalk.u64_in _ (by omega)
  clear hlt
  go_enter Tryz.func196, Tryz.ntmps196
  go_wp2_with fail
  refine HNUM.out.mono ?_
  rintro r w1 ⟨rfl, hc1, hg1⟩
  simp only [u64V]
  have hh1 := HH.out.grown hg1 (fun e => by injection e with e; exact HGG.out e.symm)
  rw [HM.out] at hh1
  have y0 := hh1.cell 0
  have y2 := hh1.cell 2
  simp at y0 y2
  have HST := hid (stop_any 10 hc1)
  have HG1 := hid hg1
  clear hc1 hg1 x0 hh1
  go_wp2_with fail
  refine HST.out.mono ?_
  rintro r w2 ⟨rfl, hc2, hg2⟩
  have HC2 := hid hc2
  have HG2 := hid (grown_trans HG1.out hg2)
  clear hc2 hg2
  go_wp2_with fail
  go_ret
  exact ⟨rfl, HC2.out, HG2.out⟩
 ·rw [if_neg (by omega)]
  have hli : ¬ (m : Int) ≤ (N : Int) := by omega
  have hli2 : (N : Int) < (m : Int) := by omega
  have hlt2 : N < m := by omega
  have hcv : IntKind.u64.wrap (m : Int) = (m : Int) := IntWalk.u64_in _ (by omega)
  obtain ⟨s, hs⟩ : ∃ s, D[N]? = some s := ⟨_, List.getElem?_eq_getElem (by rw [HM.out]; exact hlt2)⟩
  rw [show D.getD N [] = s by simp [List.getD, hs]]
  have HS := hid (strVs_at D hs)
  clear hlt hs
  go_enter Tryz.func196, Tryz.ntmps196
  go_wp2_with fail
  refine HNUM.out.mono ?_
  rintro r w1 ⟨rfl, hc1, hg1⟩
  simp only [u64V]
  have hh1 := HH.out.grown hg1 (fun e => by injection e with e; exact HGG.out e.symm)
  have ho1 := World.ownsRow.kept HT.out hg1 (.inr (own_low HT.out HGN.out))
  obtain ⟨b, o, hT, _, hcell⟩ := (ERow.of_own ho1).block (by rw [HM.out]; omega)
  have hcs := hcell N _ HS.out
  rw [HM.out] at hh1
  subst hT
  have y0 := hh1.cell 0
  have y2 := hh1.cell 2
  simp at y0 y2
  have HC1 := hid hc1
  have HG1 := hid hg1
  clear hc1 hg1 x0 hh1 ho1 hcell
  go_wp2_with fail
  go_ret
  exact ⟨rfl, HC1.out, HG1.out⟩
theorem ulater_any (tm : Int) (ht0 : 0 ≤ tm) (ht1 : tm < 18446744073709551616) (h : Cur 174 w K g xs p e) (hp : p ≤ xs.length) (hK : K ≤ g) (hb : ∀ x ∈ xs, 0 ≤ x ∧ x < 256) (hh : Held w G 105 #[.pointer (some ⟨g, 0, none⟩), vs, vt]) (hgG : g ≠ G) :
  Calls Tryz.prog 97 #[.pointer (some ⟨G, 0, none⟩), .int .u64 tm] w (Took u64V w K g xs (laterU xs tm p e)) := by
 have HNUM := hid (unum_any h hp hK hb)
 obtain ⟨⟨N, hN, _, hN64⟩, _, hq⟩ := nx_range (e := e) hb (m := m64) (by decide) hp
 unfold laterU
 generalize nx m64 xs p e = t at HNUM hN hq ⊢
 obtain ⟨Ni, q, e2⟩ := t
 simp only at hN hq ⊢
 subst hN
 have x0 := hh.cell 0
 simp at x0
 have HH := hid hh
 have HGG := hid hgG
 have hw1 : IntKind.u64.wrap (18446744073709551615 - tm) = 18446744073709551615 - tm := IntWalk.u64_in _ (by omega)
 have hw2 : IntKind.u64.wrap (tm + (N : Int)) = (tm + (N : Int)) % 18446744073709551616 := IntKind.wrap_u64 _
 unfold m64
 clear h hb hp hq hh hgG
 by_cases hlt : 18446744073709551615 - tm < (N : Int)
 ·rw [if_pos hlt]
  go_enter Tryz.func97, Tryz.ntmps97
  go_wp2_with fail
  refine HNUM.out.mono ?_
  rintro r w1 ⟨rfl, hc1, hg1⟩
  simp only [u64V]
  have hh1 := HH.out.grown hg1 (fun e => by injection e with e; exact HGG.out e.symm)
  have y0 := hh1.cell 0
  simp at y0
  have HST := hid (stop_any 8 hc1)
  have HG1 := hid hg1
  clear hc1 hg1 x0 hh1
  go_wp2_with fail
  refine HST.out.mono ?_
  rintro r w2 ⟨rfl, hc2, hg2⟩
  have HC2 := hid hc2
  have HG2 := hid (grown_trans HG1.out hg2)
  clear hc2 hg2
  go_wp2_with fail
  go_ret
  exact ⟨rfl, HC2.out, HG2.out⟩
 ·rw [if_neg hlt]
  go_enter Tryz.func97, Tryz.ntmps97
  go_wp2_with fail
  refine HNUM.out.mono ?_
  rintro r w1 ⟨rfl, hc1, hg1⟩
  simp only [u64V]
  have hh1 := HH.out.grown hg1 (fun e => by injection e with e; exact HGG.out e.symm)
  have y0 := hh1.cell 0
  simp at y0
  have HC1 := hid hc1
  have HG1 := hid hg1
  clear hc1 hg1 x0 hh1
  go_wp2_with fail
  go_ret
  exact ⟨rfl, HC1.out, HG1.out⟩
theorem ucount_any (h : Cur 174 w K g xs p e) (hp : p ≤ xs.length) (hK : K ≤ g) (hb : ∀ x ∈ xs, 0 ≤ x ∧ x < 256) (hh : Held w G 105 #[.pointer (some ⟨g, 0, none⟩), vs, vt]) (hgG : g ≠ G) :
  Calls Tryz.prog 95 #[.pointer (some ⟨G, 0, none⟩)] w (Took u64V w K g xs (countU xs p e)) := by
 have HNUM : Hid (Calls Tryz.prog 94 #[.pointer (some ⟨g, 0, none⟩), .int .u64 1024] w (Took u64V w K g xs (nx 1024 xs p e))) := hid (number_any 1024 h hp hK hb)
 obtain ⟨⟨N, hN, hN1, hN64⟩, _, hq⟩ := nx_range (e := e) hb (m := 1024) (by decide) hp
 unfold countU
 generalize nx 1024 xs p e = t at HNUM hN hq ⊢
 obtain ⟨Ni, q, e2⟩ := t
 simp only at hN hq ⊢
 subst hN
 have x0 := hh.cell 0
 simp at x0
 have HH := hid hh
 have HGG := hid hgG
 clear h hb hp hq hh hgG
 by_cases hz : N = 0
 ·subst hz
  rw [if_pos (show ((0 : Nat) : Int) = 0 from rfl)]
  go_enter Tryz.func95, Tryz.ntmps95
  go_wp2_with fail
  refine HNUM.out.mono ?_
  rintro r w1 ⟨rfl, hc1, hg1⟩
  simp only [u64V]
  have hh1 := HH.out.grown hg1 (fun e => by injection e with e; exact HGG.out e.symm)
  have y0 := hh1.cell 0
  simp at y0
  have HST := hid (stop_any 4 hc1)
  have HG1 := hid hg1
  clear hc1 hg1 x0 hh1
  go_wp2_with fail
  refine HST.out.mono ?_
  rintro r w2 ⟨rfl, hc2, hg2⟩
  have HC2 := hid hc2
  have HG2 := hid (grown_trans HG1.out hg2)
  clear hc2 hg2
  go_wp2_with fail
  go_ret
  exact ⟨rfl, HC2.out, HG2.out⟩
 ·rw [if_neg (by omega)]
  have hne : ((N : Int) == 0) = false := beq_eq_false_iff_ne.2 (by omega)
  have hn0 : ¬ (N : Int) = 0 := by omega
  clear hz
  go_enter Tryz.func95, Tryz.ntmps95
  go_wp2_with fail
  refine HNUM.out.mono ?_
  rintro r w1 ⟨rfl, hc1, hg1⟩
  simp only [u64V]
  have HC1 := hid hc1
  have HG1 := hid hg1
  clear hc1 hg1 x0
  go_wp2_with fail
  go_ret
  exact ⟨rfl, HC1.out, HG1.out⟩
theorem ustopped_any (h : Cur 174 w K g xs p e) (hh : Held w G 105 #[.pointer (some ⟨g, 0, none⟩), vs, vt]) :
  Calls Tryz.prog 99 #[.pointer (some ⟨G, 0, none⟩)] w fun r w' => r = .returned (.bool (decide (e ≠ 0))) ∧ w = w' := by
 have HE := hid (err_any h)
 have x0 := hh.cell 0
 simp at x0
 clear h hh
 by_cases he : e = 0
 ·subst he
  go_enter Tryz.func99, Tryz.ntmps99
  go_wp2_with fail
  refine HE.out.mono ?_
  rintro r w1 ⟨rfl, rfl⟩
  go_wp2_with fail
  go_ret
  exact ⟨rfl, rfl⟩
 ·have hne : (e != 0) = true := bne_iff_ne.2 he
  rw [decide_eq_true he]
  clear he
  go_enter Tryz.func99, Tryz.ntmps99
  go_wp2_with fail
  refine HE.out.mono ?_
  rintro r w1 ⟨rfl, rfl⟩
  go_wp2_with fail
  go_ret
  exact ⟨rfl, rfl⟩
theorem put_past {a b : World} {g : Nat} (h : a.grownBy b (some g)) {R : Nat} (hR : a.heap.size ≤ R) (i : Nat) (u : Value) : a.grownBy (b.setCell ⟨R, i, none⟩ u) (some g) := grown_past h (grown_put b R i u) (fun j e => by injection e with e; omega)
theorem uarg_any (t : Int) (h : Cur 174 w K g xs p e) (hp : p ≤ xs.length) (hK : K ≤ g) (hb : ∀ x ∈ xs, 0 ≤ x ∧ x < 256) (hh : Held w G 105 #[.pointer (some ⟨g, 0, none⟩), vs, vt]) (hgG : g ≠ G)
  (ht : w.ownsRow n 9 1 vt D.length (strVs D)) (hgn : g < n) (hDl : D.length ≤ 4096) :
  Calls Tryz.prog 153 #[.pointer (some ⟨G, 0, none⟩), .int .i64 t] w (Took Ag.val w K g xs (argU D t xs p e)) := by
 obtain ⟨w0, hw0⟩ : ∃ w0, w.alloc (.cells #[.int .i64 0, .int .i64 0, .string ⟨#[]⟩] 97) = w0 := ⟨_, rfl⟩
 have b0 : Below w.heap.size w w0 := by rw [← hw0]; exact (Below.refl _ _).alloc (Nat.le_refl _) _
 have h0 : Held w0 w.heap.size 97 #[.int .i64 0, .int .i64 0, .string ⟨#[]⟩] := by rw [← hw0]; exact heap_alloc_new w _
 have hc0 := h.below b0 hK
 have hh0 := hh.below b0 hh.lt
 have ht0 := own_below ht b0
 have hgl := h.lt
 have HH0 := hid h0
 have HG0 := hid (grown_below b0 (some g))
 have x0 := hh0.cell 0
 simp at x0
 have HGL := hid hgl
 unfold argU
 by_cases h1 : t = 1
 ·subst h1
  rw [if_pos rfl]
  have HS : Hid (Calls Tryz.prog 195 #[.pointer (some ⟨g, 0, none⟩)] w0 (Took i64V w0 K g xs (sx xs p e))) := hid (signed_any hc0 hp hK hb)
  clear h hp hb hh hgG ht hgn hc0 hh0 ht0 h0 b0 hgl
  generalize sx xs p e = u at HS ⊢
  obtain ⟨N, q, e2⟩ := u
  go_enter Tryz.func153, Tryz.ntmps153
  go_wp2_with fail
  refine HS.out.mono ?_
  rintro r w1 ⟨rfl, hc1, hg1⟩
  simp only [i64V]
  have hb1 := HH0.out.grown hg1 (fun e => by have := HGL.out; injection e with e; omega)
  obtain ⟨⟨f0, f1, f2⟩, c0, c1, c2⟩ := cG3 hb1
  simp at c0 c1 c2
  have HB1 := hid hb1
  have HC1 := hid hc1
  have HG1 := hid (grown_trans HG0.out hg1)
  clear hc1 hg1 hb1
  have hs : ∀ u0 u1 u2, Held (((w1.setCell ⟨w.heap.size, 0, none⟩ u0).setCell ⟨w.heap.size, 1, none⟩ u1).setCell ⟨w.heap.size, 2, none⟩ u2) w.heap.size 97 #[u0, u1, u2] := fun u0 u1 u2 => by simpa using ((HB1.out.put 0 u0).put 1 u1).put 2 u2
  have HCF := hid (fun u0 u1 u2 => ((HC1.out.grown (grown_put w1 w.heap.size 0 u0) (.inr HGL.out) hK).grown (grown_put (w1.setCell ⟨w.heap.size, 0, none⟩ u0) w.heap.size 1 u1) (.inr HGL.out) hK).grown (grown_put ((w1.setCell ⟨w.heap.size, 0, none⟩ u0).setCell ⟨w.heap.size, 1, none⟩ u1) w.heap.size 2 u2) (.inr HGL.out) hK)
  have HGF := hid (fun u0 u1 u2 => put_past (put_past (put_past HG1.out (Nat.le_refl _) 0 u0) (Nat.le_refl _) 1 u1) (Nat.le_refl _) 2 u2)
  obtain ⟨z0, z1, z2⟩ := cC3 (hs (.int .i64 1) (.int .i64 N) (.string ⟨#[]⟩))
  simp at z0 z1 z2
  go_wp2_with fail
  exact bodyPost_ret (v := .agg #[.int .i64 1, (.int .i64 N), (.string ⟨#[]⟩)]) (by simp [results, Tryz.results153, go_sem, z0, z1, z2]) rfl ⟨rfl, HCF.out _ _ _, HGF.out _ _ _⟩
 ·rw [if_neg h1]
  have hne : (t == 1) = false := beq_eq_false_iff_ne.2 h1
  clear h1
  have HS := hid (utext_any hc0 hp hK hb hh0 hgG ht0 hgn hDl)
  clear h hp hb hh hgG ht hgn hc0 hh0 ht0 h0 b0 hgl
  generalize txtU D xs p e = u at HS ⊢
  obtain ⟨N, q, e2⟩ := u
  go_enter Tryz.func153, Tryz.ntmps153
  go_wp2_with fail
  refine HS.out.mono ?_
  rintro r w1 ⟨rfl, hc1, hg1⟩
  simp only [txtV]
  have hb1 := HH0.out.grown hg1 (fun e => by have := HGL.out; injection e with e; omega)
  obtain ⟨⟨f0, f1, f2⟩, c0, c1, c2⟩ := cG3 hb1
  simp at c0 c1 c2
  have HB1 := hid hb1
  have HC1 := hid hc1
  have HG1 := hid (grown_trans HG0.out hg1)
  clear hc1 hg1 hb1
  have hs : ∀ u0 u1 u2, Held (((w1.setCell ⟨w.heap.size, 0, none⟩ u0).setCell ⟨w.heap.size, 1, none⟩ u1).setCell ⟨w.heap.size, 2, none⟩ u2) w.heap.size 97 #[u0, u1, u2] := fun u0 u1 u2 => by simpa using ((HB1.out.put 0 u0).put 1 u1).put 2 u2
  have HCF := hid (fun u0 u1 u2 => ((HC1.out.grown (grown_put w1 w.heap.size 0 u0) (.inr HGL.out) hK).grown (grown_put (w1.setCell ⟨w.heap.size, 0, none⟩ u0) w.heap.size 1 u1) (.inr HGL.out) hK).grown (grown_put ((w1.setCell ⟨w.heap.size, 0, none⟩ u0).setCell ⟨w.heap.size, 1, none⟩ u1) w.heap.size 2 u2) (.inr HGL.out) hK)
  have HGF := hid (fun u0 u1 u2 => put_past (put_past (put_past HG1.out (Nat.le_refl _) 0 u0) (Nat.le_refl _) 1 u1) (Nat.le_refl _) 2 u2)
  obtain ⟨z0, z1, z2⟩ := cC3 (hs (.int .i64 t) (.int .i64 0) (.string (strOfNums N)))
  simp at z0 z1 z2
  go_wp2_with fail
  exact bodyPost_ret (v := .agg #[.int .i64 t, (.int .i64 0), (.string (strOfNums N))]) (by simp [results, Tryz.results153, go_sem, z0, z1, z2]) rfl ⟨rfl, HCF.out _ _ _, HGF.out _ _ _⟩
end
section
variable {K g G n : Nat} {xs : List Int} {p : Nat} {e : Int} {w : World} {vs vt : Value}
theorem udict_any (h : Cur 174 w K g xs p e) (hp : p ≤ xs.length) (hK : K ≤ g) (hb : ∀ x ∈ xs, 0 ≤ x ∧ x < 256) (hh : Held w G 105 #[.pointer (some ⟨g, 0, none⟩), vs, vt]) (hgG : g ≠ G) :
  Calls Tryz.prog 96 #[.pointer (some ⟨G, 0, none⟩)] w fun r w' => (∃ A c, r = .returned (.slice A (dictU xs p e).1.length c) ∧ w'.ownsRow w.heap.size 9 1 (.slice A (dictU xs p e).1.length c) (dictU xs p e).1.length (strVs (dictU xs p e).1)) ∧
   Cur 174 w' K g xs (dictU xs p e).2.1 (dictU xs p e).2.2 ∧ w.grownBy w' (some g) := by
 obtain ⟨i0, hi, hz0, hz1, hz2⟩ := info_parts Tryz.infoStr15
 have HNUM : Hid (Calls Tryz.prog 94 #[.pointer (some ⟨g, 0, none⟩), .int .u64 4096] w (Took u64V w K g xs (nx 4096 xs p e))) := hid (number_any 4096 h hp hK hb)
 obtain ⟨⟨N, hN, hN1, hN64⟩, _, hq⟩ := nx_range (e := e) hb (m := 4096) (by decide) hp
 unfold dictU txsU
 generalize nx 4096 xs p e = t at HNUM hN hq ⊢
 obtain ⟨Ni, q, e2⟩ := t
 simp only at hN hq ⊢
 subst hN
 rw [Int.toNat_natCast]
 obtain ⟨F, hF⟩ : ∃ F : Nat → List (List Int) × Nat × Int, stepsU (fun _ s => tx xs s.1 s.2) (q, e2) = F := ⟨_, rfl⟩
 have HF0 := hid (show F 0 = ([], q, e2) by rw [← hF]; rfl)
 have HFS := hid (fun j => show F (j + 1) = ((F j).1 ++ [(tx xs (F j).2.1 (F j).2.2).1], (tx xs (F j).2.1 (F j).2.2).2) by rw [← hF]; rfl)
 have HFL := hid (fun j => show (F j).1.length = j by rw [← hF]; exact stepsU_length j)
 have HFP := hid (fun j => show (F j).2.1 ≤ xs.length by rw [← hF]; exact stepsU_inv (I := fun s : Nat × Int => s.1 ≤ xs.length) hq (fun j s h => (tx_range hb h).2) j)
 rw [hF]
 clear hF
 have x0 := hh.cell 0
 simp at x0
 have HH := hid hh
 have HGG := hid hgG
 have HBY := hid hb
 have HGL := hid h.lt
 clear h hb hp hq hh hgG
 go_enter Tryz.func96, Tryz.ntmps96
 go_wp2_with fail
 refine HNUM.out.mono ?_
 rintro r w1 ⟨rfl, hc1, hg1⟩
 simp only [u64V]
 have HC1 := hid (show Cur 174 w1 K g xs (F 0).2.1 (F 0).2.2 by rw [HF0.out]; exact hc1)
 have HG1 := hid hg1
 clear hc1 hg1 x0
 go_wp2_with fail
 go_loopg [9, 3] N (fun gk i v wr => ∃ (j : Nat) (A : Option Addr) (c : Nat), j ≤ N ∧ i = .int .u64 j ∧ v = .slice A j c ∧ Hid (N - j = gk) ∧ Hid (Cur 174 wr K g xs (F j).2.1 (F j).2.2) ∧ Hid (wr.ownsRow w.heap.size 9 1 (.slice A j c) j (strVs (F j).1)) ∧ Hid (w.grownBy wr (some g)))
 case atStart => exact ⟨0, none, 0, Nat.zero_le _, rfl, rfl, hid rfl, HC1, hid (by rw [HF0.out]; exact World.ownsRow_nil _ _ _ _), HG1⟩
 case round =>
  obtain ⟨j, A, c, hj, rfl, rfl, HGK, HC, HOW, HGR⟩ := hrel
  by_cases hlt : j < N
  ·have hhr := HH.out.grown HGR.out (fun e => by injection e with e; exact HGG.out e.symm)
   have y0 := hhr.cell 0
   simp at y0
   have HTX : Hid (Calls Tryz.prog 152 #[.pointer (some ⟨g, 0, none⟩), .int .i64 200] wr (Took txtV wr K g xs (tx xs (F j).2.1 (F j).2.2))) := hid (text_any 200 (by omega) (by omega) HC.out (HFP.out j) hK HBY.out)
   have hnext := HFS.out j
   generalize tx xs (F j).2.1 (F j).2.2 = t at HTX hnext
   obtain ⟨s, q3, e3⟩ := t
   simp only at hnext
   have HNX := hid hnext
   clear hnext hhr
   go_wp2_with fail
   refine HTX.out.mono ?_
   rintro r w2 ⟨rfl, hc2, hg2⟩
   simp only [txtV]
   have HC2 := hid hc2
   have HO2 := hid (World.ownsRow.kept HOW.out hg2 (.inr (own_low HOW.out HGL.out)))
   have HG2 := hid (grown_trans HGR.out hg2)
   clear hc2 hg2 y0
   go_wp2_with (at_builtin; refine wpList_append_own _ rfl _ _ 55 rfl w.heap.size 9 i0 (.string ⟨#[]⟩) 1 16 Tryz.underlying55 hi hz0 hz1 hz2 rfl (by decide) _ _ _ rfl (HO2.out.alloc _) ⟨w2.heap.size, 0, none⟩ 1 1 [.string (strOfNums s)] rfl rfl (cell_one_new _ _ _) (by simp [Value.oneCell']) (by simp only [maxLen]; omega) (by omega) (by have := HG2.out.size; simp; omega) ?_; intro v3 w3 hown3 hg3 hn3)
   have hlow : ∀ i, (Value.slice A j c).ownBlock = some i → w.heap.size ≤ i := fun i e => (World.ownsRow.lt HO2.out i e).1
   have HC3 := hid ((HC2.out.below ((Below.refl _ _).alloc (Nat.le_refl _) (.cells #[.string (strOfNums s)] 9)) hK).past hg3 hlow HGL.out hK)
   have HG3 := hid (grown_past (grown_trans HG2.out (grown_alloc w2 (.cells #[.string (strOfNums s)] 9) (some g))) hg3 hlow)
   have HEV := hid (show strVs (F j).1 ++ [.string (strOfNums s)] = strVs (F (j + 1)).1 by rw [HNX.out]; simp [strVs, strV])
   obtain ⟨A3, c3, rfl⟩ := own_form hown3
   have HO3 := hid hown3
   clear hown3 hg3 hn3 hlow
   go_wp2_with fail
   go_roundg (N - (j + 1))
   case measure => have := HGK.out; omega
   case rel => exact ⟨j + 1, A3, c3, by omega, by go_num, rfl, hid rfl, hid (by rw [HNX.out]; exact HC3.out), hid (by rw [← HEV.out]; exact HO3.out), HG3⟩
  ·obtain rfl : j = N := by omega
   go_wp2_with fail
   go_ret
   rw [HFL.out]
   exact ⟨⟨A, c, rfl, HOW.out⟩, HC.out, HGR.out⟩
end
theorem rbget_any (xs : List Int) (most : Int) (hm0 : -9223372036854775808 ≤ most) (hm1 : most ≤ 9223372036854775807) (w : World) (hb : ∀ x ∈ xs, 0 ≤ x ∧ x < 256) (hl : xs.length ≤ 1000000000) :
  Calls Tryz.prog 102 #[.string (strOfNums xs), .int .i64 most] w fun e w' => e = .returned (.tuple #[.string (strOfNums (getT most xs).1), .int .i64 (getT most xs).2.1, .int .i64 (getT most xs).2.2]) ∧ w = w' := by
 have hg := rget_any xs hb (by omega) w
 have hss : (strOfNums xs).size = xs.length := strOfNums_size xs
 by_cases he : (getI xs).2.2 = 0
 ·obtain ⟨n, s, hgi, h1, h2, h3, h4, h5⟩ := getI_ok xs hb he
  rw [hgi] at hg
  obtain ⟨M, hM, hMb⟩ : ∃ M : Nat, max most 0 = M ∧ M ≤ 9223372036854775807 := ⟨(max most 0).toNat, by omega, by omega⟩
  have key : ∀ m : Int, (m = most ∧ 0 ≤ most ∨ m = 0 ∧ most < 0) → m = M := fun m h => by omega
  by_cases hlim : M < n
  ·have ht : getT most xs = ([], 0, 6) := getT_limit hgi (by omega)
   rw [ht]
   have HG := hid hg; clear hg hgi ht he hb h4
   generalize strOfNums xs = ss at HG hss
   by_cases h0 : most < 0
   ·obtain rfl : M = 0 := by omega
    clear hM key
    go_enter Tryz.func102, Tryz.ntmps102
    go_wp2_with (go_at_call 14; refine HG.out.mono ?_; rintro e w1 ⟨rfl, rfl⟩)
    go_ret3
    exact ⟨rfl, rfl⟩
   ·obtain rfl : most = (M : Int) := by omega
    clear hM key
    go_enter Tryz.func102, Tryz.ntmps102
    go_wp2_with (go_at_call 14; refine HG.out.mono ?_; rintro e w1 ⟨rfl, rfl⟩)
    go_ret3
    exact ⟨rfl, rfl⟩
  ·by_cases hs : xs.length - s < n
   ·have ht : getT most xs = ([], 0, 2) := getT_short hgi (by omega) hs
    rw [ht]
    have HG := hid hg; clear hg hgi ht he hb h4
    generalize strOfNums xs = ss at HG hss
    obtain ⟨L, hL⟩ : ∃ L, xs.length = L := ⟨_, rfl⟩
    rw [hL] at hss hs h2 hl
    clear hL
    by_cases h0 : most < 0
    ·obtain rfl : M = 0 := by omega
     obtain rfl : n = 0 := by omega
     omega
    ·obtain rfl : most = (M : Int) := by omega
     clear hM key
     by_cases hn : L < n
     ·go_enter Tryz.func102, Tryz.ntmps102
      go_wp2_with (go_at_call 14; refine HG.out.mono ?_; rintro e w1 ⟨rfl, rfl⟩)
      go_ret3
      exact ⟨rfl, rfl⟩
     ·go_enter Tryz.func102, Tryz.ntmps102
      have hn2 : (L : Int) < (s : Int) + (n : Int) := by omega
      go_wp2_with (go_at_call 14; refine HG.out.mono ?_; rintro e w1 ⟨rfl, rfl⟩)
      go_ret3
      exact ⟨rfl, rfl⟩
   ·have ht : getT most xs = ((xs.drop s).take n, s + n, 0) := getT_ok hgi (by omega) hs
    rw [ht]
    have hcut : (strOfNums xs).extract s (s + n) = strOfNums ((xs.drop s).take n) := by rw [str_cut, List.drop_take]; congr 2; omega
    generalize strOfNums ((xs.drop s).take n) = cs at hcut
    have HG := hid hg; clear hg hgi ht he hb h4
    generalize strOfNums xs = ss at HG hss hcut
    obtain ⟨L, hL⟩ : ∃ L, xs.length = L := ⟨_, rfl⟩
    rw [hL] at hss hs h2 hl
    clear hL
    have i1 : (s : Int) + (n : Int) ≤ (L : Int) := by omega
    have i2 : (0 : Int) ≤ (s : Int) + (n : Int) := by omega
    have i3 : (s : Int) ≤ (s : Int) + (n : Int) := by omega
    have i4 : ((s : Int) + (n : Int)).toNat = s + n := by omega
    by_cases h0 : most < 0
    ·obtain rfl : M = 0 := by omega
     clear hM key
     go_enter Tryz.func102, Tryz.ntmps102
     go_wp2_with (go_at_call 14; refine HG.out.mono ?_; rintro e w1 ⟨rfl, rfl⟩)
     go_ret3
     exact ⟨rfl, rfl⟩
    ·obtain rfl : most = (M : Int) := by omega
     clear hM key
     go_enter Tryz.func102, Tryz.ntmps102
     go_wp2_with (go_at_call 14; refine HG.out.mono ?_; rintro e w1 ⟨rfl, rfl⟩)
     go_ret3
     exact ⟨rfl, rfl⟩
 ·have ht : getT most xs = ([], 0, (getI xs).2.2) := getT_err rfl he
  rw [ht]
  clear ht hb
  generalize (getI xs).2.2 = er at hg he
  have HG := hid hg; clear hg
  have hne : (er != 0) = true := by simpa using he
  clear he
  go_enter Tryz.func102, Tryz.ntmps102
  go_wp2_with (go_at_call 14; refine HG.out.mono ?_; rintro e w1 ⟨rfl, rfl⟩)
  go_ret3
  exact ⟨rfl, rfl⟩
theorem runfold_any (n : Int) (h1 : 0 ≤ n) (h2 : n ≤ 18446744073709551615) (w : World) :
  Calls Tryz.prog 154 #[.int .u64 n] w fun e w' => e = .returned (.int .i64 (unfoldI n)) ∧ w = w' := by
 by_cases hx : n % 2 = 0
 ·have e1 : unfoldI n = n / 2 := by unfold unfoldI; rw [if_neg (by omega)]
  have E1 := hid e1; clear e1
  have hb : (n % 2 == 0) = true := by simp [hx]
  clear hx
  go_enter Tryz.func154, Tryz.ntmps154
  go_wp2
  go_ret
  exact ⟨by rw [E1.out]; rfl, rfl⟩
 ·have e1 : unfoldI n = -(n / 2) - 1 := by unfold unfoldI; rw [if_pos (by omega)]; omega
  have E1 := hid e1; clear e1
  have hb : (n % 2 == 0) = false := by simp [hx]
  clear hx
  go_enter Tryz.func154, Tryz.ntmps154
  go_wp2
  go_ret
  exact ⟨by rw [E1.out]; rfl, rfl⟩
end Go.Proofs.YtimihhcidbeonaaGreat
