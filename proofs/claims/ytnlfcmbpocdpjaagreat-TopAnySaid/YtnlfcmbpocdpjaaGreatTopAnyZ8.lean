/-
  What the theorem of TopAny rests on, part 8 of 16.
-/
import Derived.WalkKit
import Derived.WalkSpells
import Derived.WalkLawsBesides
import Derived.LoopTactic
import Derived.Lib.Hide
import Derived.Outline
import Derived.Deep.RegionWith
import Derived.Deep.RegionHeld3
import Derived.Deep.QuietTactic
import Derived.BigQuiet
import Derived.Lib.SliceRun
import Derived.Deep.LoopGhost
import Derived.Laws.StructEq
import Derived.Test.YtnlfcmbpocdpjaaGreatTopAnyZ7
set_option maxRecDepth 100000
set_option maxHeartbeats 16000000
namespace Go.Proofs.YtnlfcmbpocdpjaaGreat
open Lib (hid)
open Go.RowKit
theorem below_drewN {B : Nat} {w w' : World} (h : Below B w w') (n : Nat) : Below B w (w'.drewN n) := ⟨h.os, h.tape, h.output, h.size, h.block⟩
theorem bget_any (A : Option Addr) (c : Nat) (xs : List Int) (most : Int) (hm0 : -9223372036854775808 ≤ most) (hm1 : most ≤ 9223372036854775807) (w : World) (hrow : Row w w.heap.size (.slice A xs.length c) xs) (hb : ∀ x ∈ xs, 0 ≤ x ∧ x < 256) :
  Calls Tryz.prog 131 #[.slice A xs.length c, .int .i64 most] w fun e W' => e = .returned (.tuple #[.string (strOfNums (getT most xs).1), .int .i64 (getT most xs).2.1, .int .i64 (getT most xs).2.2]) ∧ Below w.heap.size w W' := by
 have hg := get_any A c xs w hrow hb
 by_cases he : (getI xs).2.2 = 0
 ·obtain ⟨n, s, hgi, h1, h2, h3, h4, h5⟩ := getI_ok xs hb he
  rw [hgi] at hg
  obtain ⟨M, hM, hMb⟩ : ∃ M : Nat, max most 0 = M ∧ M ≤ 9223372036854775807 := ⟨(max most 0).toNat, by omega, by omega⟩
  have hsm : xs.length ≤ 9223372036854775807 ∧ xs.length ≤ c ∧ c ≤ 9223372036854775807 := by
   obtain ⟨_, _, hv, q1, q2, _, _⟩ := hrow
   injection hv with e1 e2 e3
   subst e3
   unfold maxLen at q2
   omega
  obtain ⟨s1, s2, s3⟩ := hsm
  by_cases hl : M < n
  ·have ht : getT most xs = ([], 0, 6) := getT_limit hgi (by omega)
   rw [ht]
   have HG := hid hg; clear hg hgi ht he hrow hb h4
   go_enter Tryz.func131, Tryz.ntmps131
   go_wp2_with (go_at_call 128; refine HG.out.mono ?_; rintro e w1 ⟨rfl, hb1⟩)
   go_ret3
   exact ⟨rfl, hb1⟩
  ·by_cases hs : xs.length - s < n
   ·have ht : getT most xs = ([], 0, 2) := getT_short hgi (by omega) hs
    rw [ht]
    have HG := hid hg; clear hg hgi ht he hrow hb h4
    go_enter Tryz.func131, Tryz.ntmps131
    go_wp2_with (go_at_call 128; refine HG.out.mono ?_; rintro e w1 ⟨rfl, hb1⟩)
    go_quiet (fail)
    go_wp2_with fail
    all_goals go_ret3
    all_goals exact ⟨rfl, below_drewN hb1 _⟩
   ·have ht : getT most xs = ((xs.drop s).take n, s + n, 0) := getT_ok hgi (by omega) hs
    rw [ht]
    have hr2 := (hrow.drop h2).take (k := n) (by simp; omega)
    have hl2 : ((xs.drop s).take n).length = n := by simp; omega
    rw [hl2] at hr2
    generalize (xs.drop s).take n = ys at hr2 hl2
    have HG := hid hg; clear hg hgi ht he hrow hb h4
    have HL2 := hid hl2; clear hl2
    by_cases hcs : c = s
    ·subst hcs
     rw [if_pos rfl, Nat.sub_self] at hr2
     obtain rfl : n = 0 := by omega
     have HR2 := hid hr2; clear hr2
     go_enter Tryz.func131, Tryz.ntmps131
     go_wp2_with (go_at_call 128; refine HG.out.mono ?_; rintro e w1 ⟨rfl, hb1⟩)
     go_quiet (fail)
     have hcv := (HR2.out.below (below_drewN hb1 nq)).convert (P := Tryz.prog) 22 5 9 Tryz.underlying22 Tryz.underlying5 Tryz.underlying9
     go_wp2_with fail
     go_ret3
     exact ⟨rfl, below_drewN hb1 _⟩
    ·rw [if_neg hcs] at hr2
     have HR2 := hid hr2; clear hr2
     go_enter Tryz.func131, Tryz.ntmps131
     go_wp2_with (go_at_call 128; refine HG.out.mono ?_; rintro e w1 ⟨rfl, hb1⟩)
     go_quiet (fail)
     generalize Option.map (fun x : Addr => x.add s) A = A2 at HR2 ⊢
     have hcv := (HR2.out.below (below_drewN hb1 nq)).convert (P := Tryz.prog) 22 5 9 Tryz.underlying22 Tryz.underlying5 Tryz.underlying9
     have i1 : (0 : Int) ≤ (n : Int) := by omega
     have i2 : (n : Int) ≤ ((c - s : Nat) : Int) := by omega
     go_wp2_with fail
     go_ret3
     exact ⟨rfl, below_drewN hb1 _⟩
 ·have ht : getT most xs = ([], 0, (getI xs).2.2) := getT_err rfl he
  rw [ht]
  clear ht hrow hb
  generalize (getI xs).2.2 = er at hg he
  have HG := hid hg; clear hg
  have hne : (er != 0) = true := by simpa using he
  clear he
  go_enter Tryz.func131, Tryz.ntmps131
  go_wp2_with (go_at_call 128; refine HG.out.mono ?_; rintro e w1 ⟨rfl, hb1⟩)
  go_ret3
  exact ⟨rfl, hb1⟩
def Copied (w : World) (xs : List Int) (e : Ending) (W' : World) : Prop :=
 ∃ A c, e = .returned (.slice A xs.length c) ∧ Row W' W'.heap.size (.slice A xs.length c) xs ∧ (∀ a, A = some a → w.heap.size ≤ a.block) ∧ Below w.heap.size w W'
theorem clone_any (A : Option Addr) (c : Nat) (xs : List Int) (hsm : xs.length ≤ 100000000000) (w : World) (hrow : Row w w.heap.size (.slice A xs.length c) xs) :
  Calls Tryz.prog 47 #[.slice A xs.length c] w (Copied w xs) := by
 obtain ⟨i0, hi, hz0, hz1, hz2⟩ := info_parts Tryz.infoU8
 cases A with
 | none =>
  obtain rfl : xs = [] := by
   obtain ⟨_, _, hv, _, _, _, h4⟩ := hrow
   injection hv with e1
   rcases Nat.eq_zero_or_pos xs.length with h | h
   ·exact List.eq_nil_of_length_eq_zero h
   ·obtain ⟨b, o, e2, _⟩ := h4 h
    rw [e2] at e1
    cases e1
  obtain rfl : c = 0 := by
   obtain ⟨_, _, hv, _, _, h3, _⟩ := hrow
   injection hv with e1 _ e3
   rw [e3]; exact h3 e1.symm
  have heq : ∀ W : World, (binOp .eql 22 (.slice none 0 0) (.slice none 0 0)).run Tryz.prog W = .ok (.bool true) W := fun W => Lib.run_eql_slice_nil W 22 5 none 0 0 0 0 Tryz.underlying22
  go_enter Tryz.func47, Tryz.ntmps47
  go_wp2_with fail
  go_ret
  exact ⟨none, 0, rfl, Row.nil _ _, by simp, Below.refl _ _⟩
 | some ad =>
  have HR := hid hrow; clear hrow
  have heq : ∀ W : World, (binOp .eql 22 (.slice (some ad) xs.length c) (.slice none 0 0)).run Tryz.prog W = .ok (.bool false) W := fun W => Lib.run_eql_slice_nil W 22 5 (some ad) xs.length c 0 0 Tryz.underlying22
  go_enter Tryz.func47, Tryz.ntmps47
  go_wp2_with (at_builtin; refine wpList_append_row _ rfl _ _ 22 rfl w.heap.size 5 i0 (.int .u8 0) Tryz.underlying22 hi hz0 hz1 hz2 rfl (.slice (some ⟨w.heap.size, 0, none⟩) 0 0) 0 [] (by rfl) (own_none1 _ _ _ (Nat.le_refl _)) w.heap.size _ xs rfl (HR.out.below ((Below.refl _ _).alloc (Nat.le_refl _) _)) (by omega) (by simp) ?_; intro v2 w2 hown2 hg2 hn2)
  go_ret
  have hne : v2 ≠ .slice none 0 0 := fun h => by have := (hn2.1 h).1; simp at this
  rw [Nat.zero_add, List.nil_append] at hown2
  obtain ⟨g, cap, rfl⟩ := ownsRow_some hown2 hne
  have hr := Row.of_own hown2
  refine ⟨_, _, rfl, hr, fun a ha => ?_, ((Below.refl _ _).alloc (Nat.le_refl _) _).grown hg2 (by simp) (fun k hk => ?_)⟩
  ·injection ha with ha
   subst ha
   exact (hown2.lt g rfl).1
  ·simp [Value.ownBlock] at hk
   omega
def Fresh (w : World) (xs : List Int) (e : Ending) (W' : World) : Prop :=
 ∃ g, e = .returned (.pointer (some ⟨g, 0, none⟩)) ∧ w.heap.size ≤ g ∧ Cur 159 W' w.heap.size g xs 0 0 ∧ Below w.heap.size w W'
theorem new_any (A : Option Addr) (c : Nat) (xs : List Int) (hsm : xs.length ≤ 100000000000) (w : World) (hrow : Row w w.heap.size (.slice A xs.length c) xs) :
  Calls Tryz.prog 54 #[.slice A xs.length c] w (Fresh w xs) := by
 have HC := hid (clone_any A c xs hsm w hrow); clear hrow
 go_enter Tryz.func54, Tryz.ntmps54
 go_wp2_with fail
 refine HC.out.mono ?_
 rintro e w1 ⟨A1, c1, rfl, hr1, hK1, hb1⟩
 go_wp2_with fail
 go_ret
 refine ⟨w1.heap.size, rfl, hb1.size, ⟨A1, c1, heap_alloc_new w1 _, hr1.below ((Below.refl _ _).alloc (Nat.le_refl _) _), hK1⟩, hb1.alloc hb1.size _⟩
def stopI (e q : Int) : Int := if e = 0 then q else e
theorem stopI_zero (q : Int) : stopI 0 q = q := rfl
theorem stopI_kept {e : Int} (h : e ≠ 0) (q : Int) : stopI e q = e := if_neg h
section
variable {K g : Nat} {xs : List Int} {p : Nat} {e : Int} {w : World}
theorem err_any (h : Cur 159 w K g xs p e) :
  Calls Tryz.prog 59 #[.pointer (some ⟨g, 0, none⟩)] w fun r w' => r = .returned (.int .i64 e) ∧ w = w' := by
 obtain ⟨A, c, c0, c1, c2, f1, f2, hr, _, _⟩ := h.cells
 clear h hr
 go_enter Tryz.func59, Tryz.ntmps59
 go_wp2_with fail
 go_ret
 exact ⟨rfl, rfl⟩
theorem stop_any (q : Int) (h : Cur 159 w K g xs p e) :
  Calls Tryz.prog 57 #[.pointer (some ⟨g, 0, none⟩), .int .i64 q] w fun r w' => r = .returned (.tuple #[]) ∧ Cur 159 w' K g xs p (stopI e q) ∧ w.grownBy w' (some g) := by
 obtain ⟨A, c, c0, c1, c2, f1, f2, hr, _, _⟩ := h.cells
 have HC := hid h; clear h hr
 by_cases he : e = 0
 ·subst he
  go_enter Tryz.func57, Tryz.ntmps57
  go_wp2_with fail
  go_end0
  exact ⟨rfl, HC.out.err q, grown_put _ _ _ _⟩
 ·have hb : (e == 0) = false := beq_eq_false_iff_ne.2 he
  go_enter Tryz.func57, Tryz.ntmps57
  go_wp2_with fail
  go_end0
  exact ⟨rfl, by rw [stopI_kept he]; exact HC.out, World.grownBy.refl _ _⟩
end
def Took {α : Type} (f : α → Value) (w : World) (K g : Nat) (xs : List Int) (t : α × Nat × Int) (r : Ending) (w' : World) : Prop :=
 r = .returned (f t.1) ∧ Cur 159 w' K g xs t.2.1 t.2.2 ∧ w.grownBy w' (some g)
def Found {α : Type} (f : α → Value) (w : World) (t : α × Nat × Int) (r : Ending) (w' : World) : Prop :=
 r = .returned (.tuple #[f t.1, .int .i64 t.2.1, .int .i64 t.2.2]) ∧ Below w.heap.size w w'
def u8V (n : Int) : Value := .int .u8 n
def u64V (n : Int) : Value := .int .u64 n
def i64V (n : Int) : Value := .int .i64 n
def txtV (t : List Int) : Value := .string (strOfNums t)
theorem Cur.rest {w : World} {g : Nat} {A : Option Addr} {c : Nat} {xs : List Int} {p : Nat} (h : Row w g (.slice A xs.length c) xs) (hg : g ≤ w.heap.size) (hp : p ≤ xs.length) :
  Row w w.heap.size (.slice (if c = p then A else Option.map (fun x => x.add p) A) (xs.length - p) (c - p)) (xs.drop p) := by
 have := (h.drop hp).more hg
 rwa [List.length_drop] at this
theorem grown_drew {a b : World} {row : Option Nat} (h : a.drew.grownBy b row) : a.grownBy b row := ⟨h.os, h.tape, h.output, h.size, h.block⟩
theorem text1_any (A : Option Addr) (c : Nat) (ys : List Int) (most : Int) (hm0 : -9223372036854775808 ≤ most) (hm1 : most ≤ 9223372036854775807) (q : Nat) (w : World) (hrow : Row w w.heap.size (.slice A ys.length c) ys) (hb : ∀ x ∈ ys, 0 ≤ x ∧ x < 256) (hq : w.cell? ⟨q, 0, none⟩ = some (.int .i64 most)) :
  Calls Tryz.prog 130 #[.slice A ys.length c, .pointer (some ⟨q, 0, none⟩)] w (Found txtV w (getT most ys)) := by
 have hg := bget_any A c ys most hm0 hm1 w hrow hb
 clear hrow hb
 generalize getT most ys = t at hg
 obtain ⟨n, s, er⟩ := t
 simp only at hg
 have HG := hid hg; clear hg
 go_enter Tryz.func130, Tryz.ntmps130
 go_wp2_with fail
 refine HG.out.mono ?_
 rintro e w1 ⟨rfl, hb1⟩
 go_wp2_with fail
 go_ret3
 exact ⟨rfl, hb1⟩
theorem take_t_any {K g : Nat} {xs : List Int} {p : Nat} {e : Int} {w : World} (most : Int) (hm0 : -9223372036854775808 ≤ most) (hm1 : most ≤ 9223372036854775807) (q : Nat) (h : Cur 159 w K g xs p e) (hp : p ≤ xs.length) (hK : K ≤ g) (hb : ∀ x ∈ xs, 0 ≤ x ∧ x < 256) (hq : w.cell? ⟨q, 0, none⟩ = some (.int .i64 most)) :
  Calls Tryz.prog 129 #[.pointer (some ⟨g, 0, none⟩), .func (.func 130) #[] #[.pointer (some ⟨q, 0, none⟩)]] w (Took txtV w K g xs (tk [] p e (getT most (xs.drop p)))) := by
 obtain ⟨A, c, c0, c1, c2, f1, f2, hr, hl, hc⟩ := h.cells
 have hg := h.lt
 by_cases he : e = 0
 ·subst he
  have hrest := Cur.rest (w := w.drew) (p := p) (hr.keep (fun _ _ => rfl)) (Nat.le_of_lt hg) hp
  have hfits := (getT_fits most (xs.drop p) (drop_bytes hb p)).1
  rw [List.length_drop] at hfits
  have hcall := text1_any _ _ (xs.drop p) most hm0 hm1 q w.drew (by rw [List.length_drop]; exact hrest) (drop_bytes hb p) hq
  rw [List.length_drop] at hcall
  clear hrest hr hb
  generalize getT most (xs.drop p) = t at hfits hcall
  obtain ⟨v, s, er⟩ := t
  have HC := hid h; clear h
  have i0 : (0 : Int) ≤ (p : Int) := by omega
  have i1 : (p : Int) ≤ (xs.length : Int) := by omega
  rcases Nat.decEq c p with hcp | hcp
  ·rw [if_neg hcp] at hcall
   have HCALL := hid hcall; clear hcall
   by_cases her : er = 0
   ·subst her
    have hs : s ≤ xs.length - p := hfits rfl
    clear hfits
    rw [tk_ok rfl]
    go_enter Tryz.func129, Tryz.ntmps129
    go_wp2_with fail
    go_region_held3 (fun w' => w'.cell? ⟨g, 0, none⟩ = some (.slice A xs.length c) ∧ w'.cell? ⟨g, 1, none⟩ = some (.int .i64 p)) (first | go_keep | (refine ⟨(hb1.cell (p := ⟨g, 0, none⟩) hg).trans c0, (hb1.cell (p := ⟨g, 1, none⟩) hg).trans c1⟩))
     (first | ((with_reducible refine HCALL.out.mono ?_); rintro r w1 ⟨rfl, hb1⟩))
    have hc1 : Cur 159 w1 K g xs p 0 := (HC.out.keep (w' := w.drew) (fun _ _ _ => rfl) hK).below hb1 hK
    obtain ⟨A1, c', d0, d1, d2, k1, k2, _, _, _⟩ := hc1.cells
    have HC1 := hid hc1; clear hc1
    go_wp2_with fail
    go_ret
    refine ⟨rfl, ?_, grown_trans (grown_drew (grown_below (a := w.drew) hb1 _)) (grown_put _ _ _ _)⟩
    have hat := HC1.out.at_ (p + s)
    rw [Int.natCast_add] at hat
    exact hat
   ·have hne : (er != 0) = true := by simpa using her
    clear hfits
    rw [tk_err her]
    have hst : stopI 0 er = er := rfl
    have HST := hid hst; clear hst
    go_enter Tryz.func129, Tryz.ntmps129
    go_wp2_with fail
    go_region_held3 (fun w' => w'.cell? ⟨g, 0, none⟩ = some (.slice A xs.length c) ∧ w'.cell? ⟨g, 1, none⟩ = some (.int .i64 p)) (first | go_keep | (refine ⟨(hb1.cell (p := ⟨g, 0, none⟩) hg).trans c0, (hb1.cell (p := ⟨g, 1, none⟩) hg).trans c1⟩))
     (first | ((with_reducible refine HCALL.out.mono ?_); rintro r w1 ⟨rfl, hb1⟩))
    have HC1 : Hid (Cur 159 w1 K g xs p 0) := (HC.out.keep (w' := w.drew) (fun _ _ _ => rfl) hK).below hb1 hK
    go_wp2_with fail
    refine (stop_any er HC1.out).mono ?_
    rintro r w2 ⟨rfl, hc2, hg2⟩
    rw [HST.out] at hc2
    have HC2 := hid hc2; clear hc2
    go_wp2_with fail
    go_ret
    exact ⟨rfl, HC2.out, grown_trans (grown_drew (grown_below (a := w.drew) hb1 _)) hg2⟩
  ·have hcp' := hcp.symm
   subst hcp'
   rw [if_pos rfl, Nat.sub_self, Nat.sub_eq_zero_of_le hl] at hcall
   have HCALL := hid hcall; clear hcall hcp
   by_cases her : er = 0
   ·subst her
    have hs : s ≤ xs.length - p := hfits rfl
    clear hfits
    rw [tk_ok rfl]
    go_enter Tryz.func129, Tryz.ntmps129
    go_wp2_with fail
    go_region_held3 (fun w' => w'.cell? ⟨g, 0, none⟩ = some (.slice A xs.length p) ∧ w'.cell? ⟨g, 1, none⟩ = some (.int .i64 p)) (first | go_keep | (refine ⟨(hb1.cell (p := ⟨g, 0, none⟩) hg).trans c0, (hb1.cell (p := ⟨g, 1, none⟩) hg).trans c1⟩))
     (first | ((with_reducible refine HCALL.out.mono ?_); rintro r w1 ⟨rfl, hb1⟩))
    have hc1 : Cur 159 w1 K g xs p 0 := (HC.out.keep (w' := w.drew) (fun _ _ _ => rfl) hK).below hb1 hK
    obtain ⟨A1, c', d0, d1, d2, k1, k2, _, _, _⟩ := hc1.cells
    have HC1 := hid hc1; clear hc1
    go_wp2_with fail
    go_ret
    refine ⟨rfl, ?_, grown_trans (grown_drew (grown_below (a := w.drew) hb1 _)) (grown_put _ _ _ _)⟩
    have hat := HC1.out.at_ (p + s)
    rw [Int.natCast_add] at hat
    exact hat
   ·have hne : (er != 0) = true := by simpa using her
    clear hfits
    rw [tk_err her]
    have hst : stopI 0 er = er := rfl
    have HST := hid hst; clear hst
    go_enter Tryz.func129, Tryz.ntmps129
    go_wp2_with fail
    go_region_held3 (fun w' => w'.cell? ⟨g, 0, none⟩ = some (.slice A xs.length p) ∧ w'.cell? ⟨g, 1, none⟩ = some (.int .i64 p)) (first | go_keep | (refine ⟨(hb1.cell (p := ⟨g, 0, none⟩) hg).trans c0, (hb1.cell (p := ⟨g, 1, none⟩) hg).trans c1⟩))
     (first | ((with_reducible refine HCALL.out.mono ?_); rintro r w1 ⟨rfl, hb1⟩))
    have HC1 : Hid (Cur 159 w1 K g xs p 0) := (HC.out.keep (w' := w.drew) (fun _ _ _ => rfl) hK).below hb1 hK
    go_wp2_with fail
    refine (stop_any er HC1.out).mono ?_
    rintro r w2 ⟨rfl, hc2, hg2⟩
    rw [HST.out] at hc2
    have HC2 := hid hc2; clear hc2
    go_wp2_with fail
    go_ret
    exact ⟨rfl, HC2.out, grown_trans (grown_drew (grown_below (a := w.drew) hb1 _)) hg2⟩
 ·rw [tk_stopped he]
  have hne : (e != 0) = true := by simpa using he
  have HC := hid h; clear h hr
  go_enter Tryz.func129, Tryz.ntmps129
  go_wp2_with fail
  go_ret
  exact ⟨rfl, HC.out, World.grownBy.refl _ _⟩
section
variable {K g : Nat} {xs : List Int} {p : Nat} {e : Int} {w : World}
theorem grown_alloc (w : World) (o : Obj) (row : Option Nat) : w.grownBy (w.alloc o) row := grown_below ((Below.refl _ _).alloc (Nat.le_refl _) o) row
theorem text_any (most : Int) (hm0 : -9223372036854775808 ≤ most) (hm1 : most ≤ 9223372036854775807) (h : Cur 159 w K g xs p e) (hp : p ≤ xs.length) (hK : K ≤ g) (hb : ∀ x ∈ xs, 0 ≤ x ∧ x < 256) :
  Calls Tryz.prog 88 #[.pointer (some ⟨g, 0, none⟩), .int .i64 most] w (Took txtV w K g xs (tk [] p e (getT most (xs.drop p)))) := by
 have h1 := h.below ((Below.refl _ _).alloc (Nat.le_refl _) (.cells #[.int .i64 most] 3)) hK
 have HT := hid (take_t_any most hm0 hm1 w.heap.size h1 hp hK hb (by simp [World.cell?_alloc_new])); clear h h1 hb
 go_enter Tryz.func88, Tryz.ntmps88
 go_wp2_with fail
 refine HT.out.mono ?_
 rintro r w1 ⟨rfl, hc1, hg1⟩
 go_wp2_with fail
 go_ret
 exact ⟨rfl, hc1, grown_trans (grown_alloc _ _ _) hg1⟩
end
theorem number1_any (A : Option Addr) (c : Nat) (ys : List Int) (most : Int) (q : Nat) (w : World) (hrow : Row w w.heap.size (.slice A ys.length c) ys) (hb : ∀ x ∈ ys, 0 ≤ x ∧ x < 256) (hq : w.cell? ⟨q, 0, none⟩ = some (.int .u64 most)) :
  Calls Tryz.prog 127 #[.slice A ys.length c, .pointer (some ⟨q, 0, none⟩)] w (Found u64V w (getN most ys)) := by
 have hql : q < w.heap.size := World.block_lt_of_cell? w ⟨q, 0, none⟩ hq
 have hg := get_any A c ys w hrow hb
 clear hrow hb
 unfold getN
 generalize getI ys = t at hg
 obtain ⟨n, s, er⟩ := t
 simp only at hg
 have HG := hid hg; clear hg
 by_cases he : er = 0
 ·subst he
  by_cases hlt : most < n
  ·rw [if_pos ⟨rfl, hlt⟩]
   go_enter Tryz.func127, Tryz.ntmps127
   go_wp2_with fail
   refine HG.out.mono ?_
   rintro e w1 ⟨rfl, hb1⟩
   have hq1 : w1.cell? ⟨q, 0, none⟩ = some (.int .u64 most) := (hb1.cell (p := ⟨q, 0, none⟩) hql).trans hq
   go_wp2_with fail
   go_ret3
   exact ⟨rfl, hb1⟩
  ·rw [if_neg (fun h => hlt h.2)]
   go_enter Tryz.func127, Tryz.ntmps127
   go_wp2_with fail
   refine HG.out.mono ?_
   rintro e w1 ⟨rfl, hb1⟩
   have hq1 : w1.cell? ⟨q, 0, none⟩ = some (.int .u64 most) := (hb1.cell (p := ⟨q, 0, none⟩) hql).trans hq
   go_wp2_with fail
   go_ret3
   exact ⟨rfl, hb1⟩
 ·have hne : (er == 0) = false := beq_eq_false_iff_ne.2 he
  rw [if_neg (fun h => he h.1)]
  go_enter Tryz.func127, Tryz.ntmps127
  go_wp2_with fail
  refine HG.out.mono ?_
  rintro e w1 ⟨rfl, hb1⟩
  go_wp2_with fail
  go_ret3
  exact ⟨rfl, hb1⟩
theorem take_n_any {K g : Nat} {xs : List Int} {p : Nat} {e : Int} {w : World} (most : Int) (q : Nat) (h : Cur 159 w K g xs p e) (hp : p ≤ xs.length) (hK : K ≤ g) (hb : ∀ x ∈ xs, 0 ≤ x ∧ x < 256) (hq : w.cell? ⟨q, 0, none⟩ = some (.int .u64 most)) :
  Calls Tryz.prog 126 #[.pointer (some ⟨g, 0, none⟩), .func (.func 127) #[] #[.pointer (some ⟨q, 0, none⟩)]] w (Took u64V w K g xs (tk 0 p e (getN most (xs.drop p)))) := by
 obtain ⟨A, c, c0, c1, c2, f1, f2, hr, hl, hc⟩ := h.cells
 have hg := h.lt
 by_cases he : e = 0
 ·subst he
  have hrest := Cur.rest (w := w.drew) (p := p) (hr.keep (fun _ _ => rfl)) (Nat.le_of_lt hg) hp
  have hfits := (getN_fits most (xs.drop p) (drop_bytes hb p)).1
  rw [List.length_drop] at hfits
  have hcall := number1_any _ _ (xs.drop p) most q w.drew (by rw [List.length_drop]; exact hrest) (drop_bytes hb p) hq
  rw [List.length_drop] at hcall
  clear hrest hr hb
  generalize getN most (xs.drop p) = t at hfits hcall
  obtain ⟨v, s, er⟩ := t
  have HC := hid h; clear h
  have i0 : (0 : Int) ≤ (p : Int) := by omega
  have i1 : (p : Int) ≤ (xs.length : Int) := by omega
  rcases Nat.decEq c p with hcp | hcp
  ·rw [if_neg hcp] at hcall
   have HCALL := hid hcall; clear hcall
   by_cases her : er = 0
   ·subst her
    have hs : s ≤ xs.length - p := hfits rfl
    clear hfits
    rw [tk_ok rfl]
    go_enter Tryz.func126, Tryz.ntmps126
    go_wp2_with fail
    go_region_held3 (fun w' => w'.cell? ⟨g, 0, none⟩ = some (.slice A xs.length c) ∧ w'.cell? ⟨g, 1, none⟩ = some (.int .i64 p)) (first | go_keep | (refine ⟨(hb1.cell (p := ⟨g, 0, none⟩) hg).trans c0, (hb1.cell (p := ⟨g, 1, none⟩) hg).trans c1⟩))
     (first | ((with_reducible refine HCALL.out.mono ?_); rintro r w1 ⟨rfl, hb1⟩))
    have hc1 : Cur 159 w1 K g xs p 0 := (HC.out.keep (w' := w.drew) (fun _ _ _ => rfl) hK).below hb1 hK
    obtain ⟨A1, c', d0, d1, d2, k1, k2, _, _, _⟩ := hc1.cells
    have HC1 := hid hc1; clear hc1
    go_wp2_with fail
    go_ret
    refine ⟨rfl, ?_, grown_trans (grown_drew (grown_below (a := w.drew) hb1 _)) (grown_put _ _ _ _)⟩
    have hat := HC1.out.at_ (p + s)
    rw [Int.natCast_add] at hat
    exact hat
   ·have hne : (er != 0) = true := by simpa using her
    clear hfits
    rw [tk_err her]
    have hst : stopI 0 er = er := rfl
    have HST := hid hst; clear hst
    go_enter Tryz.func126, Tryz.ntmps126
    go_wp2_with fail
    go_region_held3 (fun w' => w'.cell? ⟨g, 0, none⟩ = some (.slice A xs.length c) ∧ w'.cell? ⟨g, 1, none⟩ = some (.int .i64 p)) (first | go_keep | (refine ⟨(hb1.cell (p := ⟨g, 0, none⟩) hg).trans c0, (hb1.cell (p := ⟨g, 1, none⟩) hg).trans c1⟩))
     (first | ((with_reducible refine HCALL.out.mono ?_); rintro r w1 ⟨rfl, hb1⟩))
    have HC1 : Hid (Cur 159 w1 K g xs p 0) := (HC.out.keep (w' := w.drew) (fun _ _ _ => rfl) hK).below hb1 hK
    go_wp2_with fail
    refine (stop_any er HC1.out).mono ?_
    rintro r w2 ⟨rfl, hc2, hg2⟩
    rw [HST.out] at hc2
    have HC2 := hid hc2; clear hc2
    go_wp2_with fail
    go_ret
    exact ⟨rfl, HC2.out, grown_trans (grown_drew (grown_below (a := w.drew) hb1 _)) hg2⟩
  ·have hcp' := hcp.symm
   subst hcp'
   rw [if_pos rfl, Nat.sub_self, Nat.sub_eq_zero_of_le hl] at hcall
   have HCALL := hid hcall; clear hcall hcp
   by_cases her : er = 0
   ·subst her
    have hs : s ≤ xs.length - p := hfits rfl
    clear hfits
    rw [tk_ok rfl]
    go_enter Tryz.func126, Tryz.ntmps126
    go_wp2_with fail
    go_region_held3 (fun w' => w'.cell? ⟨g, 0, none⟩ = some (.slice A xs.length p) ∧ w'.cell? ⟨g, 1, none⟩ = some (.int .i64 p)) (first | go_keep | (refine ⟨(hb1.cell (p := ⟨g, 0, none⟩) hg).trans c0, (hb1.cell (p := ⟨g, 1, none⟩) hg).trans c1⟩))
     (first | ((with_reducible refine HCALL.out.mono ?_); rintro r w1 ⟨rfl, hb1⟩))
    have hc1 : Cur 159 w1 K g xs p 0 := (HC.out.keep (w' := w.drew) (fun _ _ _ => rfl) hK).below hb1 hK
    obtain ⟨A1, c', d0, d1, d2, k1, k2, _, _, _⟩ := hc1.cells
    have HC1 := hid hc1; clear hc1
    go_wp2_with fail
    go_ret
    refine ⟨rfl, ?_, grown_trans (grown_drew (grown_below (a := w.drew) hb1 _)) (grown_put _ _ _ _)⟩
    have hat := HC1.out.at_ (p + s)
    rw [Int.natCast_add] at hat
    exact hat
   ·have hne : (er != 0) = true := by simpa using her
    clear hfits
    rw [tk_err her]
    have hst : stopI 0 er = er := rfl
    have HST := hid hst; clear hst
    go_enter Tryz.func126, Tryz.ntmps126
    go_wp2_with fail
    go_region_held3 (fun w' => w'.cell? ⟨g, 0, none⟩ = some (.slice A xs.length p) ∧ w'.cell? ⟨g, 1, none⟩ = some (.int .i64 p)) (first | go_keep | (refine ⟨(hb1.cell (p := ⟨g, 0, none⟩) hg).trans c0, (hb1.cell (p := ⟨g, 1, none⟩) hg).trans c1⟩))
     (first | ((with_reducible refine HCALL.out.mono ?_); rintro r w1 ⟨rfl, hb1⟩))
    have HC1 : Hid (Cur 159 w1 K g xs p 0) := (HC.out.keep (w' := w.drew) (fun _ _ _ => rfl) hK).below hb1 hK
    go_wp2_with fail
    refine (stop_any er HC1.out).mono ?_
    rintro r w2 ⟨rfl, hc2, hg2⟩
    rw [HST.out] at hc2
    have HC2 := hid hc2; clear hc2
    go_wp2_with fail
    go_ret
    exact ⟨rfl, HC2.out, grown_trans (grown_drew (grown_below (a := w.drew) hb1 _)) hg2⟩
 ·rw [tk_stopped he]
  have hne : (e != 0) = true := by simpa using he
  have HC := hid h; clear h hr
  go_enter Tryz.func126, Tryz.ntmps126
  go_wp2_with fail
  go_ret
  exact ⟨rfl, HC.out, World.grownBy.refl _ _⟩
section
variable {K g : Nat} {xs : List Int} {p : Nat} {e : Int} {w : World}
theorem number_any (most : Int) (h : Cur 159 w K g xs p e) (hp : p ≤ xs.length) (hK : K ≤ g) (hb : ∀ x ∈ xs, 0 ≤ x ∧ x < 256) :
  Calls Tryz.prog 87 #[.pointer (some ⟨g, 0, none⟩), .int .u64 most] w (Took u64V w K g xs (tk 0 p e (getN most (xs.drop p)))) := by
 have h1 := h.below ((Below.refl _ _).alloc (Nat.le_refl _) (.cells #[.int .u64 most] 52)) hK
 have HT := hid (take_n_any most w.heap.size h1 hp hK hb (by simp [World.cell?_alloc_new])); clear h h1 hb
 go_enter Tryz.func87, Tryz.ntmps87
 go_wp2_with fail
 refine HT.out.mono ?_
 rintro r w1 ⟨rfl, hc1, hg1⟩
 go_wp2_with fail
 go_ret
 exact ⟨rfl, hc1, grown_trans (grown_alloc _ _ _) hg1⟩
end
theorem unfold_any (n : Int) (h1 : 0 ≤ n) (h2 : n ≤ 18446744073709551615) (w : World) :
  Calls Tryz.prog 189 #[.int .u64 n] w fun e w' => e = .returned (.int .i64 (unfoldI n)) ∧ w = w' := by
 by_cases hx : n % 2 = 1
 ·have e1 : unfoldI n = -1 - n / 2 := by unfold unfoldI; rw [if_pos hx]
  have E1 := hid e1; clear e1
  have hb : (n % 2 == 1) = true := by simp [hx]
  clear hx
  go_enter Tryz.func189, Tryz.ntmps189
  go_wp2
  go_ret
  exact ⟨by rw [E1.out]; rfl, rfl⟩
 ·have e1 : unfoldI n = n / 2 := by unfold unfoldI; rw [if_neg hx]
  have E1 := hid e1; clear e1
  have hb : (n % 2 == 1) = false := by simp [hx]
  clear hx
  go_enter Tryz.func189, Tryz.ntmps189
  go_wp2
  go_ret
  exact ⟨by rw [E1.out]; rfl, rfl⟩
theorem signed1_any (A : Option Addr) (c : Nat) (ys : List Int) (w : World) (hrow : Row w w.heap.size (.slice A ys.length c) ys) (hb : ∀ x ∈ ys, 0 ≤ x ∧ x < 256) :
  Calls Tryz.prog 188 #[.slice A ys.length c] w (Found i64V w (getS ys)) := by
 have hg := get_any A c ys w hrow hb
 obtain ⟨r1, r2⟩ := getI_range ys hb
 clear hrow hb
 unfold getS
 generalize getI ys = t at hg r1 r2
 obtain ⟨n, s, er⟩ := t
 simp only at hg r1 r2
 have HU := hid (fun W => unfold_any n r1 r2 W)
 have HG := hid hg; clear hg r1 r2
 go_enter Tryz.func188, Tryz.ntmps188
 go_wp2_with fail
 refine HG.out.mono ?_
 rintro e w1 ⟨rfl, hb1⟩
 go_wp2_with fail
 refine (HU.out _).mono ?_
 rintro e w2 ⟨rfl, rfl⟩
 go_wp2_with fail
 go_ret3
 exact ⟨rfl, hb1⟩
theorem take_s_any {K g : Nat} {xs : List Int} {p : Nat} {e : Int} {w : World} (h : Cur 159 w K g xs p e) (hp : p ≤ xs.length) (hK : K ≤ g) (hb : ∀ x ∈ xs, 0 ≤ x ∧ x < 256) :
  Calls Tryz.prog 187 #[.pointer (some ⟨g, 0, none⟩), .func (.func 188) #[] #[]] w (Took i64V w K g xs (tk 0 p e (getS (xs.drop p)))) := by
 obtain ⟨A, c, c0, c1, c2, f1, f2, hr, hl, hc⟩ := h.cells
 have hg := h.lt
 by_cases he : e = 0
 ·subst he
  have hrest := Cur.rest (w := w.drew) (p := p) (hr.keep (fun _ _ => rfl)) (Nat.le_of_lt hg) hp
  have hfits := (getS_fits (xs.drop p) (drop_bytes hb p)).1
  rw [List.length_drop] at hfits
  have hcall := signed1_any _ _ (xs.drop p) w.drew (by rw [List.length_drop]; exact hrest) (drop_bytes hb p)
  rw [List.length_drop] at hcall
  clear hrest hr hb
  generalize getS (xs.drop p) = t at hfits hcall
  obtain ⟨v, s, er⟩ := t
  have HC := hid h; clear h
  have i0 : (0 : Int) ≤ (p : Int) := by omega
  have i1 : (p : Int) ≤ (xs.length : Int) := by omega
  rcases Nat.decEq c p with hcp | hcp
  ·rw [if_neg hcp] at hcall
   have HCALL := hid hcall; clear hcall
   by_cases her : er = 0
   ·subst her
    have hs : s ≤ xs.length - p := hfits rfl
    clear hfits
    rw [tk_ok rfl]
    go_enter Tryz.func187, Tryz.ntmps187
    go_wp2_with fail
    go_region_held3 (fun w' => w'.cell? ⟨g, 0, none⟩ = some (.slice A xs.length c) ∧ w'.cell? ⟨g, 1, none⟩ = some (.int .i64 p)) (first | go_keep | (refine ⟨(hb1.cell (p := ⟨g, 0, none⟩) hg).trans c0, (hb1.cell (p := ⟨g, 1, none⟩) hg).trans c1⟩))
     (first | ((with_reducible refine HCALL.out.mono ?_); rintro r w1 ⟨rfl, hb1⟩))
    have hc1 : Cur 159 w1 K g xs p 0 := (HC.out.keep (w' := w.drew) (fun _ _ _ => rfl) hK).below hb1 hK
    obtain ⟨A1, c', d0, d1, d2, k1, k2, _, _, _⟩ := hc1.cells
    have HC1 := hid hc1; clear hc1
    go_wp2_with fail
    go_ret
    refine ⟨rfl, ?_, grown_trans (grown_drew (grown_below (a := w.drew) hb1 _)) (grown_put _ _ _ _)⟩
    have hat := HC1.out.at_ (p + s)
    rw [Int.natCast_add] at hat
    exact hat
   ·have hne : (er != 0) = true := by simpa using her
    clear hfits
    rw [tk_err her]
    have hst : stopI 0 er = er := rfl
    have HST := hid hst; clear hst
    go_enter Tryz.func187, Tryz.ntmps187
    go_wp2_with fail
    go_region_held3 (fun w' => w'.cell? ⟨g, 0, none⟩ = some (.slice A xs.length c) ∧ w'.cell? ⟨g, 1, none⟩ = some (.int .i64 p)) (first | go_keep | (refine ⟨(hb1.cell (p := ⟨g, 0, none⟩) hg).trans c0, (hb1.cell (p := ⟨g, 1, none⟩) hg).trans c1⟩))
     (first | ((with_reducible refine HCALL.out.mono ?_); rintro r w1 ⟨rfl, hb1⟩))
    have HC1 : Hid (Cur 159 w1 K g xs p 0) := (HC.out.keep (w' := w.drew) (fun _ _ _ => rfl) hK).below hb1 hK
    go_wp2_with fail
    refine (stop_any er HC1.out).mono ?_
    rintro r w2 ⟨rfl, hc2, hg2⟩
    rw [HST.out] at hc2
    have HC2 := hid hc2; clear hc2
    go_wp2_with fail
    go_ret
    exact ⟨rfl, HC2.out, grown_trans (grown_drew (grown_below (a := w.drew) hb1 _)) hg2⟩
  ·have hcp' := hcp.symm
   subst hcp'
   rw [if_pos rfl, Nat.sub_self, Nat.sub_eq_zero_of_le hl] at hcall
   have HCALL := hid hcall; clear hcall hcp
   by_cases her : er = 0
   ·subst her
    have hs : s ≤ xs.length - p := hfits rfl
    clear hfits
    rw [tk_ok rfl]
    go_enter Tryz.func187, Tryz.ntmps187
    go_wp2_with fail
    go_region_held3 (fun w' => w'.cell? ⟨g, 0, none⟩ = some (.slice A xs.length p) ∧ w'.cell? ⟨g, 1, none⟩ = some (.int .i64 p)) (first | go_keep | (refine ⟨(hb1.cell (p := ⟨g, 0, none⟩) hg).trans c0, (hb1.cell (p := ⟨g, 1, none⟩) hg).trans c1⟩))
     (first | ((with_reducible refine HCALL.out.mono ?_); rintro r w1 ⟨rfl, hb1⟩))
    have hc1 : Cur 159 w1 K g xs p 0 := (HC.out.keep (w' := w.drew) (fun _ _ _ => rfl) hK).below hb1 hK
    obtain ⟨A1, c', d0, d1, d2, k1, k2, _, _, _⟩ := hc1.cells
    have HC1 := hid hc1; clear hc1
    go_wp2_with fail
    go_ret
    refine ⟨rfl, ?_, grown_trans (grown_drew (grown_below (a := w.drew) hb1 _)) (grown_put _ _ _ _)⟩
    have hat := HC1.out.at_ (p + s)
    rw [Int.natCast_add] at hat
    exact hat
   ·have hne : (er != 0) = true := by simpa using her
    clear hfits
    rw [tk_err her]
    have hst : stopI 0 er = er := rfl
    have HST := hid hst; clear hst
    go_enter Tryz.func187, Tryz.ntmps187
    go_wp2_with fail
    go_region_held3 (fun w' => w'.cell? ⟨g, 0, none⟩ = some (.slice A xs.length p) ∧ w'.cell? ⟨g, 1, none⟩ = some (.int .i64 p)) (first | go_keep | (refine ⟨(hb1.cell (p := ⟨g, 0, none⟩) hg).trans c0, (hb1.cell (p := ⟨g, 1, none⟩) hg).trans c1⟩))
     (first | ((with_reducible refine HCALL.out.mono ?_); rintro r w1 ⟨rfl, hb1⟩))
    have HC1 : Hid (Cur 159 w1 K g xs p 0) := (HC.out.keep (w' := w.drew) (fun _ _ _ => rfl) hK).below hb1 hK
    go_wp2_with fail
    refine (stop_any er HC1.out).mono ?_
    rintro r w2 ⟨rfl, hc2, hg2⟩
    rw [HST.out] at hc2
    have HC2 := hid hc2; clear hc2
    go_wp2_with fail
    go_ret
    exact ⟨rfl, HC2.out, grown_trans (grown_drew (grown_below (a := w.drew) hb1 _)) hg2⟩
 ·rw [tk_stopped he]
  have hne : (e != 0) = true := by simpa using he
  have HC := hid h; clear h hr
  go_enter Tryz.func187, Tryz.ntmps187
  go_wp2_with fail
  go_ret
  exact ⟨rfl, HC.out, World.grownBy.refl _ _⟩
section
variable {K g : Nat} {xs : List Int} {p : Nat} {e : Int} {w : World}
theorem signed_any (h : Cur 159 w K g xs p e) (hp : p ≤ xs.length) (hK : K ≤ g) (hb : ∀ x ∈ xs, 0 ≤ x ∧ x < 256) :
  Calls Tryz.prog 160 #[.pointer (some ⟨g, 0, none⟩)] w (Took i64V w K g xs (tk 0 p e (getS (xs.drop p)))) := by
 have HT := hid (take_s_any h hp hK hb); clear h hb
 go_enter Tryz.func160, Tryz.ntmps160
 go_wp2_with fail
 refine HT.out.mono ?_
 rintro r w1 ⟨rfl, hc1, hg1⟩
 go_wp2_with fail
 go_ret
 exact ⟨rfl, hc1, hg1⟩
end
set_option linter.unusedVariables false
theorem Tryz.infoStr15 : (Tryz.prog.info? 9).map (fun i => (i.zero, i.size, i.bytes)) = some (some (.string ⟨#[]⟩), 1, 16) := by kernel_rfl
section
variable {K g G n : Nat} {xs : List Int} {D : List (List Int)} {p : Nat} {e : Int} {w : World} {vs vt : Value}
theorem unum_any (h : Cur 159 w K g xs p e) (hp : p ≤ xs.length) (hK : K ≤ g) (hb : ∀ x ∈ xs, 0 ≤ x ∧ x < 256) :
  Calls Tryz.prog 87 #[.pointer (some ⟨g, 0, none⟩), .int .u64 18446744073709551615] w (Took u64V w K g xs (nx m64 xs p e)) := number_any 18446744073709551615 h hp hK hb
theorem utext_any (h : Cur 159 w K g xs p e) (hp : p ≤ xs.length) (hK : K ≤ g) (hb : ∀ x ∈ xs, 0 ≤ x ∧ x < 256) (hh : Held w G 127 #[.pointer (some ⟨g, 0, none⟩), vs, vt]) (hgG : g ≠ G)
  (ht : w.ownsRow n 9 1 vt D.length (strVs D)) (hgn : g < n) (hDl : D.length ≤ 4096) :
  Calls Tryz.prog 161 #[.pointer (some ⟨G, 0, none⟩)] w (Took txtV w K g xs (txtU D xs p e)) := by
 have HNUM := hid (unum_any h hp hK hb)
 obtain ⟨⟨N, hN, _, hN64⟩, _, hq⟩ := nx_range (e := e) hb (m := m64) (by decide) hp
 unfold txtU
 generalize nx m64 xs p e = t at HNUM hN hq ⊢
 obtain ⟨Ni, q, e2⟩ := t
 simp only at hN hq ⊢
 subst hN
 rw [Int.toNat_natCast]
 obtain ⟨T, ct, rfl⟩ := own_form ht
 have x0 := hh.cell 0
 simp at x0
 have HH := hid hh
 have HT := hid ht
 have HGG := hid hgG
 have HGN := hid hgn
 obtain ⟨m, hm⟩ : ∃ m, D.length = m := ⟨_, rfl⟩
 have HM := hid hm
 rw [hm] at hDl ⊢
 clear h hb hp hq hh ht hgG hgn hm
 by_cases hlt : m ≤ N
 ·rw [if_pos (by omega)]
  have hli : (m : Int) ≤ (N : Int) := by omega
  have hcv : IntKind.u64.wrap (m : Int) = (m : Int) := IntWalk.u64_in _ (by omega)
  clear hlt
  go_enter Tryz.func161, Tryz.ntmps161
  go_wp2_with fail
  refine HNUM.out.mono ?_
  rintro r w1 ⟨rfl, hc1, hg1⟩
  simp only [u64V]
  have hh1 := HH.out.grown hg1 (fun e => by injection e with e; exact HGG.out e.symm)
  rw [HM.out] at hh1
  have y0 := hh1.cell 0
  have y2 := hh1.cell 2
  simp at y0 y2
  have HST := hid (stop_any 10 hc1)
  have HG1 := hid hg1
  clear hc1 hg1 x0 hh1
  go_wp2_with fail
  refine HST.out.mono ?_
  rintro r w2 ⟨rfl, hc2, hg2⟩
  have HC2 := hid hc2
  have HG2 := hid (grown_trans HG1.out hg2)
  clear hc2 hg2
  go_wp2_with fail
  go_ret
  exact ⟨rfl, HC2.out, HG2.out⟩
 ·rw [if_neg (by omega)]
  have hli : ¬ (m : Int) ≤ (N : Int) := by omega
  have hli2 : (N : Int) < (m : Int) := by omega
  have hlt2 : N < m := by omega
  have hcv : IntKind.u64.wrap (m : Int) = (m : Int) := IntWalk.u64_in _ (by omega)
  obtain ⟨s, hs⟩ : ∃ s, D[N]? = some s := ⟨_, List.getElem?_eq_getElem (by rw [HM.out]; exact hlt2)⟩
  rw [show D.getD N [] = s by simp [List.getD, hs]]
  have HS := hid (strVs_at D hs)
  clear hlt hs
  go_enter Tryz.func161, Tryz.ntmps161
  go_wp2_with fail
  refine HNUM.out.mono ?_
  rintro r w1 ⟨rfl, hc1, hg1⟩
  simp only [u64V]
  have hh1 := HH.out.grown hg1 (fun e => by injection e with e; exact HGG.out e.symm)
  have ho1 := World.ownsRow.kept HT.out hg1 (.inr (own_low HT.out HGN.out))
  obtain ⟨b, o, hT, _, hcell⟩ := (ERow.of_own ho1).block (by rw [HM.out]; omega)
  have hcs := hcell N _ HS.out
  rw [HM.out] at hh1
  subst hT
  have y0 := hh1.cell 0
  have y2 := hh1.cell 2
  simp at y0 y2
  have HC1 := hid hc1
  have HG1 := hid hg1
  clear hc1 hg1 x0 hh1 ho1 hcell
  go_wp2_with fail
  go_ret
  exact ⟨rfl, HC1.out, HG1.out⟩
theorem ulater_any (tm : Int) (ht0 : 0 ≤ tm) (ht1 : tm < 18446744073709551616) (h : Cur 159 w K g xs p e) (hp : p ≤ xs.length) (hK : K ≤ g) (hb : ∀ x ∈ xs, 0 ≤ x ∧ x < 256) (hh : Held w G 127 #[.pointer (some ⟨g, 0, none⟩), vs, vt]) (hgG : g ≠ G) :
  Calls Tryz.prog 97 #[.pointer (some ⟨G, 0, none⟩), .int .u64 tm] w (Took u64V w K g xs (laterU xs tm p e)) := by
 have HNUM := hid (unum_any h hp hK hb)
 obtain ⟨⟨N, hN, _, hN64⟩, _, hq⟩ := nx_range (e := e) hb (m := m64) (by decide) hp
 unfold laterU
 generalize nx m64 xs p e = t at HNUM hN hq ⊢
 obtain ⟨Ni, q, e2⟩ := t
 simp only at hN hq ⊢
 subst hN
 have x0 := hh.cell 0
 simp at x0
 have HH := hid hh
 have HGG := hid hgG
 have hw1 : IntKind.u64.wrap (18446744073709551615 - tm) = 18446744073709551615 - tm := IntWalk.u64_in _ (by omega)
 have hw2 : IntKind.u64.wrap (tm + (N : Int)) = (tm + (N : Int)) % 18446744073709551616 := IntKind.wrap_u64 _
 unfold m64
 clear h hb hp hq hh hgG
 by_cases hlt : 18446744073709551615 - tm < (N : Int)
 ·rw [if_pos hlt]
  go_enter Tryz.func97, Tryz.ntmps97
  go_wp2_with fail
  refine HNUM.out.mono ?_
  rintro r w1 ⟨rfl, hc1, hg1⟩
  simp only [u64V]
  have hh1 := HH.out.grown hg1 (fun e => by injection e with e; exact HGG.out e.symm)
  have y0 := hh1.cell 0
  simp at y0
  have HST := hid (stop_any 8 hc1)
  have HG1 := hid hg1
  clear hc1 hg1 x0 hh1
  go_wp2_with fail
  refine HST.out.mono ?_
  rintro r w2 ⟨rfl, hc2, hg2⟩
  have HC2 := hid hc2
  have HG2 := hid (grown_trans HG1.out hg2)
  clear hc2 hg2
  go_wp2_with fail
  go_ret
  exact ⟨rfl, HC2.out, HG2.out⟩
 ·rw [if_neg hlt]
  go_enter Tryz.func97, Tryz.ntmps97
  go_wp2_with fail
  refine HNUM.out.mono ?_
  rintro r w1 ⟨rfl, hc1, hg1⟩
  simp only [u64V]
  have hh1 := HH.out.grown hg1 (fun e => by injection e with e; exact HGG.out e.symm)
  have y0 := hh1.cell 0
  simp at y0
  have HC1 := hid hc1
  have HG1 := hid hg1
  clear hc1 hg1 x0 hh1
  go_wp2_with fail
  go_ret
  exact ⟨rfl, HC1.out, HG1.out⟩
theorem ucount_any (h : Cur 159 w K g xs p e) (hp : p ≤ xs.length) (hK : K ≤ g) (hb : ∀ x ∈ xs, 0 ≤ x ∧ x < 256) (hh : Held w G 127 #[.pointer (some ⟨g, 0, none⟩), vs, vt]) (hgG : g ≠ G) :
  Calls Tryz.prog 95 #[.pointer (some ⟨G, 0, none⟩)] w (Took u64V w K g xs (countU xs p e)) := by
 have HNUM : Hid (Calls Tryz.prog 87 #[.pointer (some ⟨g, 0, none⟩), .int .u64 1024] w (Took u64V w K g xs (nx 1024 xs p e))) := hid (number_any 1024 h hp hK hb)
 obtain ⟨⟨N, hN, hN1, hN64⟩, _, hq⟩ := nx_range (e := e) hb (m := 1024) (by decide) hp
 unfold countU
 generalize nx 1024 xs p e = t at HNUM hN hq ⊢
 obtain ⟨Ni, q, e2⟩ := t
 simp only at hN hq ⊢
 subst hN
 have x0 := hh.cell 0
 simp at x0
 have HH := hid hh
 have HGG := hid hgG
 clear h hb hp hq hh hgG
 by_cases hz : N = 0
 ·subst hz
  rw [if_pos (show ((0 : Nat) : Int) = 0 from rfl)]
  go_enter Tryz.func95, Tryz.ntmps95
  go_wp2_with fail
  refine HNUM.out.mono ?_
  rintro r w1 ⟨rfl, hc1, hg1⟩
  simp only [u64V]
  have hh1 := HH.out.grown hg1 (fun e => by injection e with e; exact HGG.out e.symm)
  have y0 := hh1.cell 0
  simp at y0
  have HST := hid (stop_any 4 hc1)
  have HG1 := hid hg1
  clear hc1 hg1 x0 hh1
  go_wp2_with fail
  refine HST.out.mono ?_
  rintro r w2 ⟨rfl, hc2, hg2⟩
  have HC2 := hid hc2
  have HG2 := hid (grown_trans HG1.out hg2)
  clear hc2 hg2
  go_wp2_with fail
  go_ret
  exact ⟨rfl, HC2.out, HG2.out⟩
 ·rw [if_neg (by omega)]
  have hne : ((N : Int) == 0) = false := beq_eq_false_iff_ne.2 (by omega)
  have hn0 : ¬ (N : Int) = 0 := by omega
  clear hz
  go_enter Tryz.func95, Tryz.ntmps95
  go_wp2_with fail
  refine HNUM.out.mono ?_
  rintro r w1 ⟨rfl, hc1, hg1⟩
  simp only [u64V]
  have HC1 := hid hc1
  have HG1 := hid hg1
  clear hc1 hg1 x0
  go_wp2_with fail
  go_ret
  exact ⟨rfl, HC1.out, HG1.out⟩
theorem ustopped_any (h : Cur 159 w K g xs p e) (hh : Held w G 127 #[.pointer (some ⟨g, 0, none⟩), vs, vt]) :
  Calls Tryz.prog 99 #[.pointer (some ⟨G, 0, none⟩)] w fun r w' => r = .returned (.bool (decide (e ≠ 0))) ∧ w = w' := by
 have HE := hid (err_any h)
 have x0 := hh.cell 0
 simp at x0
 clear h hh
 by_cases he : e = 0
 ·subst he
  go_enter Tryz.func99, Tryz.ntmps99
  go_wp2_with fail
  refine HE.out.mono ?_
  rintro r w1 ⟨rfl, rfl⟩
  go_wp2_with fail
  go_ret
  exact ⟨rfl, rfl⟩
 ·have hne : (e != 0) = true := bne_iff_ne.2 he
  rw [decide_eq_true he]
  clear he
  go_enter Tryz.func99, Tryz.ntmps99
  go_wp2_with fail
  refine HE.out.mono ?_
  rintro r w1 ⟨rfl, rfl⟩
  go_wp2_with fail
  go_ret
  exact ⟨rfl, rfl⟩
theorem put_past {a b : World} {g : Nat} (h : a.grownBy b (some g)) {R : Nat} (hR : a.heap.size ≤ R) (i : Nat) (u : Value) : a.grownBy (b.setCell ⟨R, i, none⟩ u) (some g) := grown_past h (grown_put b R i u) (fun j e => by injection e with e; omega)
theorem uarg_any (t : Int) (h : Cur 159 w K g xs p e) (hp : p ≤ xs.length) (hK : K ≤ g) (hb : ∀ x ∈ xs, 0 ≤ x ∧ x < 256) (hh : Held w G 127 #[.pointer (some ⟨g, 0, none⟩), vs, vt]) (hgG : g ≠ G)
  (ht : w.ownsRow n 9 1 vt D.length (strVs D)) (hgn : g < n) (hDl : D.length ≤ 4096) :
  Calls Tryz.prog 134 #[.pointer (some ⟨G, 0, none⟩), .int .i64 t] w (Took Ag.val w K g xs (argU D t xs p e)) := by
 obtain ⟨w0, hw0⟩ : ∃ w0, w.alloc (.cells #[.int .i64 0, .int .i64 0, .string ⟨#[]⟩] 135) = w0 := ⟨_, rfl⟩
 have b0 : Below w.heap.size w w0 := by rw [← hw0]; exact (Below.refl _ _).alloc (Nat.le_refl _) _
 have h0 : Held w0 w.heap.size 135 #[.int .i64 0, .int .i64 0, .string ⟨#[]⟩] := by rw [← hw0]; exact heap_alloc_new w _
 have hc0 := h.below b0 hK
 have hh0 := hh.below b0 hh.lt
 have ht0 := own_below ht b0
 have hgl := h.lt
 have HH0 := hid h0
 have HG0 := hid (grown_below b0 (some g))
 have x0 := hh0.cell 0
 simp at x0
 have HGL := hid hgl
 unfold argU
 by_cases h1 : t = 1
 ·subst h1
  rw [if_pos rfl]
  have HS : Hid (Calls Tryz.prog 160 #[.pointer (some ⟨g, 0, none⟩)] w0 (Took i64V w0 K g xs (sx xs p e))) := hid (signed_any hc0 hp hK hb)
  clear h hp hb hh hgG ht hgn hc0 hh0 ht0 h0 b0 hgl
  generalize sx xs p e = u at HS ⊢
  obtain ⟨N, q, e2⟩ := u
  go_enter Tryz.func134, Tryz.ntmps134
  go_wp2_with fail
  refine HS.out.mono ?_
  rintro r w1 ⟨rfl, hc1, hg1⟩
  simp only [i64V]
  have hb1 := HH0.out.grown hg1 (fun e => by have := HGL.out; injection e with e; omega)
  obtain ⟨⟨f0, f1, f2⟩, c0, c1, c2⟩ := cG3 hb1
  simp at c0 c1 c2
  have HB1 := hid hb1
  have HC1 := hid hc1
  have HG1 := hid (grown_trans HG0.out hg1)
  clear hc1 hg1 hb1
  have hs : ∀ u0 u1 u2, Held (((w1.setCell ⟨w.heap.size, 0, none⟩ u0).setCell ⟨w.heap.size, 1, none⟩ u1).setCell ⟨w.heap.size, 2, none⟩ u2) w.heap.size 135 #[u0, u1, u2] := fun u0 u1 u2 => by simpa using ((HB1.out.put 0 u0).put 1 u1).put 2 u2
  have HCF := hid (fun u0 u1 u2 => ((HC1.out.grown (grown_put w1 w.heap.size 0 u0) (.inr HGL.out) hK).grown (grown_put (w1.setCell ⟨w.heap.size, 0, none⟩ u0) w.heap.size 1 u1) (.inr HGL.out) hK).grown (grown_put ((w1.setCell ⟨w.heap.size, 0, none⟩ u0).setCell ⟨w.heap.size, 1, none⟩ u1) w.heap.size 2 u2) (.inr HGL.out) hK)
  have HGF := hid (fun u0 u1 u2 => put_past (put_past (put_past HG1.out (Nat.le_refl _) 0 u0) (Nat.le_refl _) 1 u1) (Nat.le_refl _) 2 u2)
  obtain ⟨z0, z1, z2⟩ := cC3 (hs (.int .i64 1) (.int .i64 N) (.string ⟨#[]⟩))
  simp at z0 z1 z2
  go_wp2_with fail
  exact bodyPost_ret (v := .agg #[.int .i64 1, (.int .i64 N), (.string ⟨#[]⟩)]) (by simp [results, Tryz.results134, go_sem, z0, z1, z2]) rfl ⟨rfl, HCF.out _ _ _, HGF.out _ _ _⟩
 ·rw [if_neg h1]
  have hne : (t == 1) = false := beq_eq_false_iff_ne.2 h1
  clear h1
  have HS := hid (utext_any hc0 hp hK hb hh0 hgG ht0 hgn hDl)
  clear h hp hb hh hgG ht hgn hc0 hh0 ht0 h0 b0 hgl
  generalize txtU D xs p e = u at HS ⊢
  obtain ⟨N, q, e2⟩ := u
  go_enter Tryz.func134, Tryz.ntmps134
  go_wp2_with fail
  refine HS.out.mono ?_
  rintro r w1 ⟨rfl, hc1, hg1⟩
  simp only [txtV]
  have hb1 := HH0.out.grown hg1 (fun e => by have := HGL.out; injection e with e; omega)
  obtain ⟨⟨f0, f1, f2⟩, c0, c1, c2⟩ := cG3 hb1
  simp at c0 c1 c2
  have HB1 := hid hb1
  have HC1 := hid hc1
  have HG1 := hid (grown_trans HG0.out hg1)
  clear hc1 hg1 hb1
  have hs : ∀ u0 u1 u2, Held (((w1.setCell ⟨w.heap.size, 0, none⟩ u0).setCell ⟨w.heap.size, 1, none⟩ u1).setCell ⟨w.heap.size, 2, none⟩ u2) w.heap.size 135 #[u0, u1, u2] := fun u0 u1 u2 => by simpa using ((HB1.out.put 0 u0).put 1 u1).put 2 u2
  have HCF := hid (fun u0 u1 u2 => ((HC1.out.grown (grown_put w1 w.heap.size 0 u0) (.inr HGL.out) hK).grown (grown_put (w1.setCell ⟨w.heap.size, 0, none⟩ u0) w.heap.size 1 u1) (.inr HGL.out) hK).grown (grown_put ((w1.setCell ⟨w.heap.size, 0, none⟩ u0).setCell ⟨w.heap.size, 1, none⟩ u1) w.heap.size 2 u2) (.inr HGL.out) hK)
  have HGF := hid (fun u0 u1 u2 => put_past (put_past (put_past HG1.out (Nat.le_refl _) 0 u0) (Nat.le_refl _) 1 u1) (Nat.le_refl _) 2 u2)
  obtain ⟨z0, z1, z2⟩ := cC3 (hs (.int .i64 t) (.int .i64 0) (.string (strOfNums N)))
  simp at z0 z1 z2
  go_wp2_with fail
  exact bodyPost_ret (v := .agg #[.int .i64 t, (.int .i64 0), (.string (strOfNums N))]) (by simp [results, Tryz.results134, go_sem, z0, z1, z2]) rfl ⟨rfl, HCF.out _ _ _, HGF.out _ _ _⟩
end
section
variable {K g G n : Nat} {xs : List Int} {p : Nat} {e : Int} {w : World} {vs vt : Value}
theorem udict_any (h : Cur 159 w K g xs p e) (hp : p ≤ xs.length) (hK : K ≤ g) (hb : ∀ x ∈ xs, 0 ≤ x ∧ x < 256) (hh : Held w G 127 #[.pointer (some ⟨g, 0, none⟩), vs, vt]) (hgG : g ≠ G) :
  Calls Tryz.prog 96 #[.pointer (some ⟨G, 0, none⟩)] w fun r w' => (∃ A c, r = .returned (.slice A (dictU xs p e).1.length c) ∧ w'.ownsRow w.heap.size 9 1 (.slice A (dictU xs p e).1.length c) (dictU xs p e).1.length (strVs (dictU xs p e).1)) ∧
   Cur 159 w' K g xs (dictU xs p e).2.1 (dictU xs p e).2.2 ∧ w.grownBy w' (some g) := by
 obtain ⟨i0, hi, hz0, hz1, hz2⟩ := info_parts Tryz.infoStr15
 have HNUM : Hid (Calls Tryz.prog 87 #[.pointer (some ⟨g, 0, none⟩), .int .u64 4096] w (Took u64V w K g xs (nx 4096 xs p e))) := hid (number_any 4096 h hp hK hb)
 obtain ⟨⟨N, hN, hN1, hN64⟩, _, hq⟩ := nx_range (e := e) hb (m := 4096) (by decide) hp
 unfold dictU txsU
 generalize nx 4096 xs p e = t at HNUM hN hq ⊢
 obtain ⟨Ni, q, e2⟩ := t
 simp only at hN hq ⊢
 subst hN
 rw [Int.toNat_natCast]
 obtain ⟨F, hF⟩ : ∃ F : Nat → List (List Int) × Nat × Int, stepsU (fun _ s => tx xs s.1 s.2) (q, e2) = F := ⟨_, rfl⟩
 have HF0 := hid (show F 0 = ([], q, e2) by rw [← hF]; rfl)
 have HFS := hid (fun j => show F (j + 1) = ((F j).1 ++ [(tx xs (F j).2.1 (F j).2.2).1], (tx xs (F j).2.1 (F j).2.2).2) by rw [← hF]; rfl)
 have HFL := hid (fun j => show (F j).1.length = j by rw [← hF]; exact stepsU_length j)
 have HFP := hid (fun j => show (F j).2.1 ≤ xs.length by rw [← hF]; exact stepsU_inv (I := fun s : Nat × Int => s.1 ≤ xs.length) hq (fun j s h => (tx_range hb h).2) j)
 rw [hF]
 clear hF
 have x0 := hh.cell 0
 simp at x0
 have HH := hid hh
 have HGG := hid hgG
 have HBY := hid hb
 have HGL := hid h.lt
 clear h hb hp hq hh hgG
 go_enter Tryz.func96, Tryz.ntmps96
 go_wp2_with fail
 refine HNUM.out.mono ?_
 rintro r w1 ⟨rfl, hc1, hg1⟩
 simp only [u64V]
 have HC1 := hid (show Cur 159 w1 K g xs (F 0).2.1 (F 0).2.2 by rw [HF0.out]; exact hc1)
 have HG1 := hid hg1
 clear hc1 hg1 x0
 go_wp2_with fail
 go_loopg [9, 3] N (fun gk i v wr => ∃ (j : Nat) (A : Option Addr) (c : Nat), j ≤ N ∧ i = .int .u64 j ∧ v = .slice A j c ∧ Hid (N - j = gk) ∧ Hid (Cur 159 wr K g xs (F j).2.1 (F j).2.2) ∧ Hid (wr.ownsRow w.heap.size 9 1 (.slice A j c) j (strVs (F j).1)) ∧ Hid (w.grownBy wr (some g)))
 case atStart => exact ⟨0, none, 0, Nat.zero_le _, rfl, rfl, hid rfl, HC1, hid (by rw [HF0.out]; exact World.ownsRow_nil _ _ _ _), HG1⟩
 case round =>
  obtain ⟨j, A, c, hj, rfl, rfl, HGK, HC, HOW, HGR⟩ := hrel
  by_cases hlt : j < N
  ·have hhr := HH.out.grown HGR.out (fun e => by injection e with e; exact HGG.out e.symm)
   have y0 := hhr.cell 0
   simp at y0
   have HTX : Hid (Calls Tryz.prog 88 #[.pointer (some ⟨g, 0, none⟩), .int .i64 200] wr (Took txtV wr K g xs (tx xs (F j).2.1 (F j).2.2))) := hid (text_any 200 (by omega) (by omega) HC.out (HFP.out j) hK HBY.out)
   have hnext := HFS.out j
   generalize tx xs (F j).2.1 (F j).2.2 = t at HTX hnext
   obtain ⟨s, q3, e3⟩ := t
   simp only at hnext
   have HNX := hid hnext
   clear hnext hhr
   go_wp2_with fail
   refine HTX.out.mono ?_
   rintro r w2 ⟨rfl, hc2, hg2⟩
   simp only [txtV]
   have HC2 := hid hc2
   have HO2 := hid (World.ownsRow.kept HOW.out hg2 (.inr (own_low HOW.out HGL.out)))
   have HG2 := hid (grown_trans HGR.out hg2)
   clear hc2 hg2 y0
   go_wp2_with (at_builtin; refine wpList_append_own _ rfl _ _ 62 rfl w.heap.size 9 i0 (.string ⟨#[]⟩) 1 16 Tryz.underlying62 hi hz0 hz1 hz2 rfl (by decide) _ _ _ rfl (HO2.out.alloc _) ⟨w2.heap.size, 0, none⟩ 1 1 [.string (strOfNums s)] rfl rfl (cell_one_new _ _ _) (by simp [Value.oneCell']) (by simp only [maxLen]; omega) (by omega) (by have := HG2.out.size; simp; omega) ?_; intro v3 w3 hown3 hg3 hn3)
   have hlow : ∀ i, (Value.slice A j c).ownBlock = some i → w.heap.size ≤ i := fun i e => (World.ownsRow.lt HO2.out i e).1
   have HC3 := hid ((HC2.out.below ((Below.refl _ _).alloc (Nat.le_refl _) (.cells #[.string (strOfNums s)] 9)) hK).past hg3 hlow HGL.out hK)
   have HG3 := hid (grown_past (grown_trans HG2.out (grown_alloc w2 (.cells #[.string (strOfNums s)] 9) (some g))) hg3 hlow)
   have HEV := hid (show strVs (F j).1 ++ [.string (strOfNums s)] = strVs (F (j + 1)).1 by rw [HNX.out]; simp [strVs, strV])
   obtain ⟨A3, c3, rfl⟩ := own_form hown3
   have HO3 := hid hown3
   clear hown3 hg3 hn3 hlow
   go_wp2_with fail
   go_roundg (N - (j + 1))
   case measure => have := HGK.out; omega
   case rel => exact ⟨j + 1, A3, c3, by omega, by go_num, rfl, hid rfl, hid (by rw [HNX.out]; exact HC3.out), hid (by rw [← HEV.out]; exact HO3.out), HG3⟩
  ·obtain rfl : j = N := by omega
   go_wp2_with fail
   go_ret
   rw [HFL.out]
   exact ⟨⟨A, c, rfl, HOW.out⟩, HC.out, HGR.out⟩
end
theorem byte1_any (A : Option Addr) (c : Nat) (ys : List Int) (w : World) (hrow : Row w w.heap.size (.slice A ys.length c) ys) :
  Calls Tryz.prog 156 #[.slice A ys.length c] w (Found u8V w (getB ys)) := by
 cases ys with
 | nil =>
  clear hrow
  go_enter Tryz.func156, Tryz.ntmps156
  go_wp2_with fail
  go_ret3
  exact ⟨rfl, Below.refl _ _⟩
 | cons y r =>
  obtain ⟨A', c', hv, _, _, _, h4⟩ := hrow
  injection hv with e1 _ e3
  subst e1 e3
  obtain ⟨b, o, rfl, _, hc⟩ := h4 (by simp)
  have hc0 := hc 0 (by simp)
  simp at hc0
  clear hc h4
  have hl : (r.length : Int) + 1 ≠ 0 := by omega
  have hl2 : ((r.length : Int) + 1 == 0) = false := beq_eq_false_iff_ne.2 hl
  have hl3 : (0 : Int) < (r.length : Int) + 1 := by omega
  have hl4 : 0 < r.length + 1 := by omega
  go_enter Tryz.func156, Tryz.ntmps156
  go_wp2_with fail
  go_ret3
  exact ⟨rfl, Below.refl _ _⟩
theorem take_b_any {K g : Nat} {xs : List Int} {p : Nat} {e : Int} {w : World} (h : Cur 159 w K g xs p e) (hp : p ≤ xs.length) (hK : K ≤ g) (_hb : ∀ x ∈ xs, 0 ≤ x ∧ x < 256) :
  Calls Tryz.prog 155 #[.pointer (some ⟨g, 0, none⟩), .func (.func 156) #[] #[]] w (Took u8V w K g xs (tk 0 p e (getB (xs.drop p)))) := by
 obtain ⟨A, c, c0, c1, c2, f1, f2, hr, hl, hc⟩ := h.cells
 have hg := h.lt
 by_cases he : e = 0
 ·subst he
  have hrest := Cur.rest (w := w.drew) (p := p) (hr.keep (fun _ _ => rfl)) (Nat.le_of_lt hg) hp
  have hfits := (getB_fits (xs.drop p)).1
  rw [List.length_drop] at hfits
  have hcall := byte1_any _ _ (xs.drop p) w.drew (by rw [List.length_drop]; exact hrest)
  rw [List.length_drop] at hcall
  clear hrest hr _hb
  generalize getB (xs.drop p) = t at hfits hcall
  obtain ⟨v, s, er⟩ := t
  have HC := hid h; clear h
  have i0 : (0 : Int) ≤ (p : Int) := by omega
  have i1 : (p : Int) ≤ (xs.length : Int) := by omega
  rcases Nat.decEq c p with hcp | hcp
  ·rw [if_neg hcp] at hcall
   have HCALL := hid hcall; clear hcall
   by_cases her : er = 0
   ·subst her
    have hs : s ≤ xs.length - p := hfits rfl
    clear hfits
    rw [tk_ok rfl]
    go_enter Tryz.func155, Tryz.ntmps155
    go_wp2_with fail
    go_region_held3 (fun w' => w'.cell? ⟨g, 0, none⟩ = some (.slice A xs.length c) ∧ w'.cell? ⟨g, 1, none⟩ = some (.int .i64 p)) (first | go_keep | (refine ⟨(hb1.cell (p := ⟨g, 0, none⟩) hg).trans c0, (hb1.cell (p := ⟨g, 1, none⟩) hg).trans c1⟩))
     (first | ((with_reducible refine HCALL.out.mono ?_); rintro r w1 ⟨rfl, hb1⟩))
    have hc1 : Cur 159 w1 K g xs p 0 := (HC.out.keep (w' := w.drew) (fun _ _ _ => rfl) hK).below hb1 hK
    obtain ⟨A1, c', d0, d1, d2, k1, k2, _, _, _⟩ := hc1.cells
    have HC1 := hid hc1; clear hc1
    go_wp2_with fail
    go_ret
    refine ⟨rfl, ?_, grown_trans (grown_drew (grown_below (a := w.drew) hb1 _)) (grown_put _ _ _ _)⟩
    have hat := HC1.out.at_ (p + s)
    rw [Int.natCast_add] at hat
    exact hat
   ·have hne : (er != 0) = true := by simpa using her
    clear hfits
    rw [tk_err her]
    have hst : stopI 0 er = er := rfl
    have HST := hid hst; clear hst
    go_enter Tryz.func155, Tryz.ntmps155
    go_wp2_with fail
    go_region_held3 (fun w' => w'.cell? ⟨g, 0, none⟩ = some (.slice A xs.length c) ∧ w'.cell? ⟨g, 1, none⟩ = some (.int .i64 p)) (first | go_keep | (refine ⟨(hb1.cell (p := ⟨g, 0, none⟩) hg).trans c0, (hb1.cell (p := ⟨g, 1, none⟩) hg).trans c1⟩))
     (first | ((with_reducible refine HCALL.out.mono ?_); rintro r w1 ⟨rfl, hb1⟩))
    have HC1 : Hid (Cur 159 w1 K g xs p 0) := (HC.out.keep (w' := w.drew) (fun _ _ _ => rfl) hK).below hb1 hK
    go_wp2_with fail
    refine (stop_any er HC1.out).mono ?_
    rintro r w2 ⟨rfl, hc2, hg2⟩
    rw [HST.out] at hc2
    have HC2 := hid hc2; clear hc2
    go_wp2_with fail
    go_ret
    exact ⟨rfl, HC2.out, grown_trans (grown_drew (grown_below (a := w.drew) hb1 _)) hg2⟩
  ·have hcp' := hcp.symm
   subst hcp'
   rw [if_pos rfl, Nat.sub_self, Nat.sub_eq_zero_of_le hl] at hcall
   have HCALL := hid hcall; clear hcall hcp
   by_cases her : er = 0
   ·subst her
    have hs : s ≤ xs.length - p := hfits rfl
    clear hfits
    rw [tk_ok rfl]
    go_enter Tryz.func155, Tryz.ntmps155
    go_wp2_with fail
    go_region_held3 (fun w' => w'.cell? ⟨g, 0, none⟩ = some (.slice A xs.length p) ∧ w'.cell? ⟨g, 1, none⟩ = some (.int .i64 p)) (first | go_keep | (refine ⟨(hb1.cell (p := ⟨g, 0, none⟩) hg).trans c0, (hb1.cell (p := ⟨g, 1, none⟩) hg).trans c1⟩))
     (first | ((with_reducible refine HCALL.out.mono ?_); rintro r w1 ⟨rfl, hb1⟩))
    have hc1 : Cur 159 w1 K g xs p 0 := (HC.out.keep (w' := w.drew) (fun _ _ _ => rfl) hK).below hb1 hK
    obtain ⟨A1, c', d0, d1, d2, k1, k2, _, _, _⟩ := hc1.cells
    have HC1 := hid hc1; clear hc1
    go_wp2_with fail
    go_ret
    refine ⟨rfl, ?_, grown_trans (grown_drew (grown_below (a := w.drew) hb1 _)) (grown_put _ _ _ _)⟩
    have hat := HC1.out.at_ (p + s)
    rw [Int.natCast_add] at hat
    exact hat
   ·have hne : (er != 0) = true := by simpa using her
    clear hfits
    rw [tk_err her]
    have hst : stopI 0 er = er := rfl
    have HST := hid hst; clear hst
    go_enter Tryz.func155, Tryz.ntmps155
    go_wp2_with fail
    go_region_held3 (fun w' => w'.cell? ⟨g, 0, none⟩ = some (.slice A xs.length p) ∧ w'.cell? ⟨g, 1, none⟩ = some (.int .i64 p)) (first | go_keep | (refine ⟨(hb1.cell (p := ⟨g, 0, none⟩) hg).trans c0, (hb1.cell (p := ⟨g, 1, none⟩) hg).trans c1⟩))
     (first | ((with_reducible refine HCALL.out.mono ?_); rintro r w1 ⟨rfl, hb1⟩))
    have HC1 : Hid (Cur 159 w1 K g xs p 0) := (HC.out.keep (w' := w.drew) (fun _ _ _ => rfl) hK).below hb1 hK
    go_wp2_with fail
    refine (stop_any er HC1.out).mono ?_
    rintro r w2 ⟨rfl, hc2, hg2⟩
    rw [HST.out] at hc2
    have HC2 := hid hc2; clear hc2
    go_wp2_with fail
    go_ret
    exact ⟨rfl, HC2.out, grown_trans (grown_drew (grown_below (a := w.drew) hb1 _)) hg2⟩
 ·rw [tk_stopped he]
  have hne : (e != 0) = true := by simpa using he
  have HC := hid h; clear h hr
  go_enter Tryz.func155, Tryz.ntmps155
  go_wp2_with fail
  go_ret
  exact ⟨rfl, HC.out, World.grownBy.refl _ _⟩
section
variable {K g : Nat} {xs : List Int} {p : Nat} {e : Int} {w : World}
theorem byte_any (h : Cur 159 w K g xs p e) (hp : p ≤ xs.length) (hK : K ≤ g) (hb : ∀ x ∈ xs, 0 ≤ x ∧ x < 256) :
  Calls Tryz.prog 122 #[.pointer (some ⟨g, 0, none⟩)] w (Took u8V w K g xs (tk 0 p e (getB (xs.drop p)))) := by
 have HT := hid (take_b_any h hp hK hb); clear h hb
 go_enter Tryz.func122, Tryz.ntmps122
 go_wp2_with fail
 refine HT.out.mono ?_
 rintro r w1 ⟨rfl, hc1, hg1⟩
 go_wp2_with fail
 go_ret
 exact ⟨rfl, hc1, hg1⟩
end
section
variable {K g : Nat} {xs : List Int} {p : Nat} {e : Int} {w : World}
theorem left_any (h : Cur 159 w K g xs p e) (hp : p ≤ xs.length) :
  Calls Tryz.prog 90 #[.pointer (some ⟨g, 0, none⟩)] w fun r w' => r = .returned (.int .i64 ((xs.length - p : Nat) : Int)) ∧ ∃ n, w' = w.drewN n := by
 obtain ⟨A, c, c0, c1, c2, f1, f2, hr, hl, hc⟩ := h.cells
 clear h hr
 have hv : (((xs.length - p : Nat) : Nat) : Int) = (xs.length : Int) - (p : Int) := by omega
 rw [hv]
 clear hv
 generalize xs.length = L at *
 have hw : IntKind.i64.wrap ((L : Int) - (p : Int)) = (L : Int) - (p : Int) := IntWalk.i64_in _ (by omega)
 go_enter Tryz.func90, Tryz.ntmps90
 go_wp2_with fail
 go_quiet (fail)
 go_wp2_with fail
 go_ret
 exact ⟨rfl, _, rfl⟩
end
def doneI (n p : Nat) (e : Int) : Bool × Int := if e = 0 then if p < n then (false, 4) else (true, 0) else (false, e)
theorem done_any {K g : Nat} {xs : List Int} {p : Nat} {e : Int} {w : World} (h : Cur 159 w K g xs p e) (hp : p ≤ xs.length) (hK : K ≤ g) :
  Calls Tryz.prog 56 #[.pointer (some ⟨g, 0, none⟩)] w fun r w' => r = .returned (.bool (doneI xs.length p e).1) ∧ Cur 159 w' K g xs p (doneI xs.length p e).2 ∧ w.grownBy w' (some g) := by
 have HC := hid h; clear h
 by_cases hlt : p < xs.length
 ·have hl0 : (0 : Int) < ((xs.length - p : Nat) : Int) := by omega
  have hl1 : 0 < xs.length - p := by omega
  have hd : doneI xs.length p e = (false, stopI e 4) := by
   unfold doneI stopI
   by_cases he : e = 0
   ·rw [if_pos he, if_pos he, if_pos hlt]
   ·rw [if_neg he, if_neg he]
  have hne : (stopI e 4 == 0) = false := by
   unfold stopI
   split
   ·rfl
   ·exact beq_eq_false_iff_ne.2 ‹_›
  obtain ⟨e2, he2⟩ : ∃ e2, stopI e 4 = e2 := ⟨_, rfl⟩
  rw [hd, he2]
  rw [he2] at hne
  have HE := hid he2; clear he2 hd
  go_enter Tryz.func56, Tryz.ntmps56
  go_wp2_with fail
  refine (left_any HC.out hp).mono ?_
  rintro r w1 ⟨rfl, n1, rfl⟩
  have HC1 : Hid (Cur 159 (w.drewN n1) K g xs p e) := HC.out.keep (fun _ _ _ => rfl) hK
  go_wp2_with fail
  refine (stop_any 4 HC1.out).mono ?_
  rintro r w2 ⟨rfl, hc2, hg2⟩
  rw [HE.out] at hc2
  obtain ⟨A, c, c0, c1, c2, f1, f2, hr, _, _⟩ := hc2.cells
  have HC2 := hid hc2; clear hc2 hr
  go_wp2_with fail
  go_ret
  exact ⟨rfl, HC2.out, ⟨hg2.os, hg2.tape, hg2.output, hg2.size, hg2.block⟩⟩
 ·have hz : xs.length - p = 0 := by omega
  have hd : doneI xs.length p e = (e == 0, e) := by
   unfold doneI
   by_cases he : e = 0
   ·rw [if_pos he, if_neg hlt, he]; rfl
   ·rw [if_neg he, beq_eq_false_iff_ne.2 he]
  rw [hd]
  clear hd
  obtain ⟨A, c, c0, c1, c2, f1, f2, hr, _, _⟩ := HC.out.cells
  clear hr
  have hl := left_any HC.out hp
  rw [hz] at hl
  have HL := hid hl; clear hl hz
  go_enter Tryz.func56, Tryz.ntmps56
  go_wp2_with fail
  refine HL.out.mono ?_
  rintro r w1 ⟨rfl, n1, rfl⟩
  go_wp2_with fail
  go_ret
  exact ⟨rfl, HC.out.keep (fun _ _ _ => rfl) hK, grown_drewN (World.grownBy.refl _ _) n1⟩
theorem bargs_any {K g n : Nat} {xs : List Int} {p : Nat} {e : Int} {w : World} (h : Cur 159 w K g xs p e) (hp : p ≤ xs.length) (hK : K ≤ g) (hb : ∀ x ∈ xs, 0 ≤ x ∧ x < 256) (hnw : n ≤ w.heap.size) :
  Calls Tryz.prog 89 #[.agg #[.pointer (some ⟨g, 0, none⟩)]] w fun r w' => ∃ A c, r = .returned (.slice A (argsC xs p e).1.length c) ∧ w'.ownsRow n 3 1 (.slice A (argsC xs p e).1.length c) (argsC xs p e).1.length ((argsC xs p e).1.map (.int .i64)) ∧
   Cur 159 w' K g xs (argsC xs p e).2.1 (argsC xs p e).2.2 ∧ w.grownBy w' (some g) := by
 obtain ⟨i0, hi, hz0, hz1, hz2⟩ := info_parts Tryz.infoIntB
 have h1 := h.below ((Below.refl _ _).alloc (Nat.le_refl _) (.cells #[.pointer (some ⟨g, 0, none⟩)] 121)) hK
 have HNUM := hid (number_any 8 h1 hp hK hb)
 obtain ⟨⟨N, hN, hN8⟩, _, hq⟩ := tkN_range (e := e) hb 8 hp
 have hN : (tk 0 p e (getN 8 (xs.drop p))).1 = (N : Int) := hN
 have hq : (tk 0 p e (getN 8 (xs.drop p))).2.1 ≤ xs.length := hq
 unfold argsC
 generalize tk 0 p e (getN 8 (xs.drop p)) = t at HNUM hN hq ⊢
 obtain ⟨Ni, q, e2⟩ := t
 simp only at hN hq ⊢
 subst hN
 rw [Int.toNat_natCast]
 have HBX0 := hid (show Held (w.alloc (.cells #[.pointer (some ⟨g, 0, none⟩)] 121)) w.heap.size 121 #[.pointer (some ⟨g, 0, none⟩)] from heap_alloc_new w _)
 have HLE := hid (fun j => stB_le (xs := xs) (e := e2) hq j)
 have HL := hid (stB_length (xs := xs) (p := q) (e := e2) N)
 have HBY0 := hid hb
 have HGL := hid h.lt
 clear h h1 hb hp hq
 go_enter Tryz.func89, Tryz.ntmps89
 go_wp2_with fail
 refine HNUM.out.mono ?_
 rintro r w1 ⟨rfl, hc1, hg1⟩
 simp only [u64V]
 have HC1 := hid hc1
 have HBX1 := hid (HBX0.out.grown hg1 (fun e => by have := HGL.out; injection e with e; omega))
 have HG1 := hid (grown_trans (grown_alloc w (.cells #[.pointer (some ⟨g, 0, none⟩)] 121) (some g)) hg1)
 clear hc1 hg1
 go_wp2_with fail
 go_loopg [7, 3] N (fun gk i v wr => ∃ (j : Nat) (A : Option Addr) (c : Nat), j ≤ N ∧ i = .int .u64 j ∧ v = .slice A j c ∧ Hid (N - j = gk) ∧ Hid (Cur 159 wr K g xs (stB xs q e2 j).2.1 (stB xs q e2 j).2.2) ∧ Hid (Held wr w.heap.size 121 #[.pointer (some ⟨g, 0, none⟩)]) ∧ Hid (wr.ownsRow (w.heap.size + 1) 3 1 (.slice A j c) j ((stB xs q e2 j).1.map (.int .i64))) ∧ Hid (w.grownBy wr (some g)))
 case atStart => exact ⟨0, none, 0, Nat.zero_le _, rfl, rfl, hid rfl, HC1, HBX1, hid (World.ownsRow_nil _ _ _ _), HG1⟩
 case round =>
  obtain ⟨j, A, c, hj, rfl, rfl, HGK, HC, HBX, HOW, HGR⟩ := hrel
  by_cases hlt : j < N
  ·have hbox := HBX.out.cell 0
   simp at hbox
   have HBY := hid (byte_any HC.out (HLE.out j).2 hK HBY0.out)
   have hby := tkB_byte HBY0.out (stB xs q e2 j).2.1 (stB xs q e2 j).2.2
   have hnext : stB xs q e2 (j + 1) = ((stB xs q e2 j).1 ++ [(tk 0 (stB xs q e2 j).2.1 (stB xs q e2 j).2.2 (getB (xs.drop (stB xs q e2 j).2.1))).1], (tk 0 (stB xs q e2 j).2.1 (stB xs q e2 j).2.2 (getB (xs.drop (stB xs q e2 j).2.1))).2) := rfl
   generalize tk 0 (stB xs q e2 j).2.1 (stB xs q e2 j).2.2 (getB (xs.drop (stB xs q e2 j).2.1)) = t at HBY hby hnext
   obtain ⟨y, q3, e3⟩ := t
   simp only at hby hnext
   obtain ⟨y0, y1⟩ := hby
   have HNX := hid hnext
   have hws := HBX.out.lt
   clear hnext
   go_wp2_with fail
   refine HBY.out.mono ?_
   rintro r w2 ⟨rfl, hc2, hg2⟩
   simp only [u8V]
   have HC2 := hid hc2
   have HO2 := hid (World.ownsRow.kept HOW.out hg2 (.inr (own_low HOW.out (by have := HGL.out; omega))))
   have HBX2 := hid (HBX.out.grown hg2 (fun e => by have := HGL.out; injection e with e; omega))
   have HG2 := hid (grown_trans HGR.out hg2)
   have hs2 := HBX2.out.lt
   clear hc2 hg2 hbox
   go_wp2_with (at_builtin; refine wpList_append_own _ rfl _ _ 56 rfl (w.heap.size + 1) 3 i0 (.int .i64 0) 1 8 Tryz.underlying56 hi hz0 hz1 hz2 rfl (by decide) _ _ _ rfl (HO2.out.alloc _) ⟨w2.heap.size, 0, none⟩ 1 1 [.int .i64 y] rfl rfl (cell_one_new _ _ _) (by simp [Value.oneCell']) (by simp only [maxLen]; omega) (by omega) (by simp; omega) ?_; intro v3 w3 hown3 hg3 hn3)
   have hlow : ∀ i, (Value.slice A j c).ownBlock = some i → w.heap.size + 1 ≤ i := fun i e => (World.ownsRow.lt HO2.out i e).1
   have HC3 := hid ((HC2.out.below ((Below.refl _ _).alloc (Nat.le_refl _) (.cells #[.int .i64 y] 3)) hK).past hg3 hlow (by have := HGL.out; omega) hK)
   have HBX3 := hid ((HBX2.out.below ((Below.refl _ _).alloc (Nat.le_refl _) (.cells #[.int .i64 y] 3)) hs2).grown hg3 (fun e => by have := hlow _ e.symm; omega))
   have HG3 := hid (grown_past (grown_trans HG2.out (grown_alloc w2 (.cells #[.int .i64 y] 3) (some g))) hg3 (fun i e => by have := hlow i e; omega))
   have HEV := hid (show (stB xs q e2 j).1.map (Value.int .i64) ++ [.int .i64 y] = (stB xs q e2 (j + 1)).1.map (.int .i64) by rw [HNX.out]; simp)
   obtain ⟨A3, c3, rfl⟩ := own_form hown3
   have HO3 := hid hown3
   clear hown3 hg3 hn3 hlow
   go_wp2_with fail
   go_roundg (N - (j + 1))
   case measure => have := HGK.out; omega
   case rel => exact ⟨j + 1, A3, c3, by omega, by go_num, rfl, hid rfl, hid (by rw [HNX.out]; exact HC3.out), HBX3, hid (by rw [← HEV.out]; exact HO3.out), HG3⟩
  ·obtain rfl : j = N := by omega
   go_wp2_with fail
   go_ret
   rw [HL.out]
   exact ⟨A, c, rfl, own_base HOW.out (by omega), HC.out, HGR.out⟩
theorem OwnA.kept {w w' : World} {n m : Nat} {d : Pd} (h : OwnA w n d) (hg : w.grownBy w' (some m)) (hm : m < n) : OwnA w' n d := World.ownsRow.kept h hg (.inr (own_low h hm))
theorem OwnP.kept {w w' : World} {n m : Nat} {v : Value} {es : List Pd} (h : OwnP w n v es) (hg : w.grownBy w' (some m)) (hm : m < n) : OwnP w' n v es :=
 ⟨World.ownsRow.kept h.1 hg (.inr (own_low h.1 hm)), fun d hd => ⟨(h.2 d hd).1.kept hg hm, (h.2 d hd).2⟩⟩
theorem bpreds_any {K g n : Nat} {xs : List Int} {w : World} (h : Cur 159 w K g xs 0 0) (hK : K ≤ g) (hb : ∀ x ∈ xs, 0 ≤ x ∧ x < 256) (hl : xs.length ≤ 100000000000) (hnw : n ≤ w.heap.size) :
  Calls Tryz.prog 55 #[.agg #[.pointer (some ⟨g, 0, none⟩)]] w fun r w' => (∃ A c es, r = .returned (.slice A es.length c) ∧ OwnP w' n (.slice A es.length c) es ∧ es.map (·.p) = (predsC xs).1) ∧
   Cur 159 w' K g xs (predsC xs).2.1 (predsC xs).2.2 ∧ w.grownBy w' (some g) := by
 obtain ⟨i1, hi1, hy0, hy1, hy2⟩ := info_parts Tryz.infoPred
 have h1 := h.below ((Below.refl _ _).alloc (Nat.le_refl _) (.cells #[.pointer (some ⟨g, 0, none⟩)] 121)) hK
 have hnum := number_any 64 h1 (Nat.zero_le _) hK hb
 obtain ⟨⟨N, hN, hN8⟩, _, hq⟩ := tkN_range (e := 0) hb 64 (Nat.zero_le xs.length)
 have hN : (tk 0 0 0 (getN 64 (xs.drop 0))).1 = (N : Int) := hN
 have hq : (tk 0 0 0 (getN 64 (xs.drop 0))).2.1 ≤ xs.length := hq
 rw [List.drop_zero] at hnum hN hq
 have HNUM := hid hnum
 unfold predsC
 generalize tk 0 0 0 (getN 64 xs) = t at HNUM hN hq ⊢
 obtain ⟨Ni, q, e2⟩ := t
 simp only at hN hq ⊢
 subst hN
 rw [Int.toNat_natCast]
 have HBX0 := hid (show Held (w.alloc (.cells #[.pointer (some ⟨g, 0, none⟩)] 121)) w.heap.size 121 #[.pointer (some ⟨g, 0, none⟩)] from heap_alloc_new w _)
 have HLE := hid (fun j => stP_le (xs := xs) (e := e2) hb hq j)
 have HPL := hid (fun (p : Nat) (e : Int) (hp : p ≤ xs.length) => predC_le (e := e) hb hp)
 have HTL := hid (fun (p : Nat) (e : Int) (hp : p ≤ xs.length) => (tkT_le (e := e) hb 32 hp).2)
 have HBY0 := hid hb
 have HGL := hid h.lt
 clear h h1 hnum hb hq
 go_enter Tryz.func55, Tryz.ntmps55
 go_wp2_with fail
 refine HNUM.out.mono ?_
 rintro r w1 ⟨rfl, hc1, hg1⟩
 simp only [u64V]
 have HC1 := hid hc1
 have HBX1 := hid (HBX0.out.grown hg1 (fun e => by have := HGL.out; injection e with e; omega))
 have HG1 := hid (grown_trans (grown_alloc w (.cells #[.pointer (some ⟨g, 0, none⟩)] 121) (some g)) hg1)
 clear hc1 hg1
 go_wp2_with fail
 go_loopg [8, 3] N (fun gk i v wr => ∃ (j : Nat) (A : Option Addr) (c : Nat) (es : List Pd), j ≤ N ∧ i = .int .u64 j ∧ v = .slice A es.length c ∧ Hid (N - j = gk) ∧ Hid (Cur 159 wr K g xs (stP xs q e2 j).2.1 (stP xs q e2 j).2.2) ∧ Hid (Held wr w.heap.size 121 #[.pointer (some ⟨g, 0, none⟩)]) ∧ Hid (OwnP wr (w.heap.size + 1) (.slice A es.length c) es) ∧ Hid (es.map (·.p) = (stP xs q e2 j).1) ∧ Hid (w.grownBy wr (some g)))
 case atStart => exact ⟨0, none, 0, [], Nat.zero_le _, rfl, rfl, hid rfl, HC1, HBX1, hid (OwnP.nil _ _), hid rfl, HG1⟩
 case round =>
  obtain ⟨j, A, c, es, hj, rfl, rfl, HGK, HC, HBX, HOW, HES, HGR⟩ := hrel
  by_cases hlt : j < N
  ·have hbox := HBX.out.cell 0
   simp at hbox
   obtain ⟨hle, hjl⟩ := HLE.out j
   have HEL := hid (show es.length = j by have := congrArg List.length HES.out; rw [hjl, List.length_map] at this; exact this)
   have hnext : stP xs q e2 (j + 1) = ((stP xs q e2 j).1 ++ [(predC xs (stP xs q e2 j).2.1 (stP xs q e2 j).2.2).1], (predC xs (stP xs q e2 j).2.1 (stP xs q e2 j).2.2).2) := rfl
   generalize (stP xs q e2 j).2.1 = p0 at HC hle hnext
   generalize (stP xs q e2 j).2.2 = e0 at HC hnext
   have hpc := HPL.out p0 e0 hle
   have htl := HTL.out p0 e0 hle
   have HTX := hid (text_any 32 (by omega) (by omega) HC.out hle hK HBY0.out)
   have HAR0 := hid (fun (W : World) (hc : Cur 159 W K g xs (tk [] p0 e0 (getT 32 (xs.drop p0))).2.1 (tk [] p0 e0 (getT 32 (xs.drop p0))).2.2) (hn : w.heap.size + 1 ≤ W.heap.size) => bargs_any (n := w.heap.size + 1) hc htl hK HBY0.out hn)
   unfold predC at hnext hpc
   generalize tk [] p0 e0 (getT 32 (xs.drop p0)) = t at HTX HAR0 hnext hpc
   obtain ⟨s, p1, e1⟩ := t
   simp only at HAR0 hnext hpc
   generalize argsC xs p1 e1 = u at HAR0 hnext hpc
   obtain ⟨ts, p2, e3⟩ := u
   simp only at HAR0 hnext hpc
   obtain ⟨_, hsl, htn, hsb, htb⟩ := hpc
   have HNX := hid hnext
   have HFT := hid (fun (A : Option Addr) (c : Nat) => show (⟨⟨s, ts⟩, A, c⟩ : Pd).Fits from ⟨by unfold maxLen; simp only; omega, hsb, fun x hx => by have := htb x hx; omega⟩)
   have hws := HBX.out.lt
   clear hnext hsb htb
   go_wp2_with fail
   refine HTX.out.mono ?_
   rintro r w2 ⟨rfl, hc2, hg2⟩
   simp only [txtV]
   have hbx2 := HBX.out.grown hg2 (fun e => by have := HGL.out; injection e with e; omega)
   have hs2 := hbx2.lt
   have hbox2 := hbx2.cell 0
   simp at hbox2
   have HC2 := hid (HAR0.out w2 hc2 (by omega))
   have HO2 := hid (HOW.out.kept hg2 (by have := HGL.out; omega))
   have HBX2 := hid hbx2
   have HG2 := hid (grown_trans HGR.out hg2)
   clear hc2 hg2 hbox hbx2
   go_wp2_with fail
   refine HC2.out.mono ?_
   rintro r w3 ⟨A2, c2, rfl, hoa, hc3, hg3⟩
   have hbx3 := HBX2.out.grown hg3 (fun e => by have := HGL.out; injection e with e; omega)
   have hs3 := hbx3.lt
   have HC3 := hid hc3
   have HO3 := hid (HO2.out.kept hg3 (by have := HGL.out; omega))
   have HA3 := hid (show OwnA w3 (w.heap.size + 1) ⟨⟨s, ts⟩, A2, c2⟩ from hoa)
   have HBX3 := hid hbx3
   have HG3 := hid (grown_trans HG2.out hg3)
   clear hc3 hg3 hoa hbox2 hbx3
   go_wp2_with (at_builtin; refine wpList_append_pred (by rfl) (.tmp 13) (.tmp 18) 24 (by rfl) i1 _ Tryz.underlying24 hi1 hy0 hy1 hy2 rfl (w.heap.size + 1) (.slice A es.length c) es (by rfl) (HO3.out.below ((Below.refl _ _).alloc (Nat.le_refl _) _)) ⟨w3.heap.size, 0, none⟩ 1 ⟨⟨s, ts⟩, A2, c2⟩ (by rfl) (by go_simp) (by go_simp) (HA3.out.below ((Below.refl _ _).alloc (Nat.le_refl _) _)) (HFT.out A2 c2) (by have := HEL.out; omega) (by simp; omega) ?_; intro v5 w5 hO5 hg5)
   have hlow : ∀ i, (Value.slice A es.length c).ownBlock = some i → w.heap.size + 1 ≤ i := fun i e => (World.ownsRow.lt HO3.out.1 i e).1
   have HC5 := hid ((HC3.out.below ((Below.refl _ _).alloc (Nat.le_refl _) (.cells #[.string (strOfNums s), .slice A2 ts.length c2] 58)) hK).past hg5 hlow (by have := HGL.out; omega) hK)
   have HBX5 := hid ((HBX3.out.below ((Below.refl _ _).alloc (Nat.le_refl _) (.cells #[.string (strOfNums s), .slice A2 ts.length c2] 58)) hs3).grown hg5 (fun e => by have := hlow _ e.symm; omega))
   have HG5 := hid (grown_past (grown_trans HG3.out (grown_alloc w3 (.cells #[.string (strOfNums s), .slice A2 ts.length c2] 58) (some g))) hg5 (fun i e => by have := hlow i e; omega))
   have HEV := hid (show (es ++ [(⟨⟨s, ts⟩, A2, c2⟩ : Pd)]).map (·.p) = (stP xs q e2 (j + 1)).1 by rw [HNX.out, List.map_append, HES.out]; rfl)
   obtain ⟨A5, c5, ev, _, _⟩ := hO5.form
   have HO5 := hid hO5
   subst ev
   clear hO5 hg5 hlow
   generalize es ++ [(⟨⟨s, ts⟩, A2, c2⟩ : Pd)] = es5 at HO5 HEV ⊢
   go_wp2_with fail
   go_roundg (N - (j + 1))
   case measure => have := HGK.out; omega
   case rel => exact ⟨j + 1, A5, c5, es5, by omega, by go_num, rfl, hid rfl, hid (by rw [HNX.out]; exact HC5.out), HBX5, HO5, HEV, HG5⟩
  ·obtain rfl : j = N := by omega
   go_wp2_with fail
   go_ret
   exact ⟨⟨A, c, es, rfl, HOW.out.base (by omega), HES.out⟩, HC.out, HGR.out⟩
def SigGot (n : Nat) (r : List Pr × Int) (e : Ending) (w' : World) : Prop := ∃ A c es, e = .returned (.tuple #[.slice A es.length c, .int .i64 r.2]) ∧ OwnP w' n (.slice A es.length c) es ∧ es.map (·.p) = r.1
theorem sig_bad {n : Nat} {r : List Pr × Int} {k : Int} {e : Ending} {w' : World} (hr : r = ([], k)) (he : e = .returned (.tuple #[.slice none 0 0, .int .i64 k])) : SigGot n r e w' := by
 subst hr
 exact ⟨none, 0, [], he, OwnP.nil _ _, rfl⟩
theorem bsget_any (A : Option Addr) (c : Nat) (xs : List Int) (hl : xs.length ≤ 1000000000) (hb : ∀ x ∈ xs, 0 ≤ x ∧ x < 256) (w : World) (hrow : Row w w.heap.size (.slice A xs.length c) xs) :
  Calls Tryz.prog 29 #[.slice A xs.length c] w fun e w' => SigGot w.heap.size (getSig xs) e w' ∧ Below w.heap.size w w' := by
 rw [← getC_eq hb]
 have HNEW := hid (new_any A c xs (by omega) w hrow)
 have HPR := hid (fun (g n : Nat) (W : World) (h : Cur 159 W w.heap.size g xs 0 0) (hK : w.heap.size ≤ g) (hn : n ≤ W.heap.size) => bpreds_any (n := n) h hK hb (by omega) hn)
 have hple := predsC_le hb
 unfold getC
 generalize predsC xs = t at HPR hple ⊢
 obtain ⟨l, p, er⟩ := t
 simp only at hple HPR ⊢
 have hbad : er ≠ 0 ∨ p < xs.length → (doneI xs.length p er).1 = false ∧ (doneI xs.length p er).2 ≠ 0 ∧ (if endC xs.length p er (checkP l) = 0 then (l, 0) else ([], endC xs.length p er (checkP l))) = (([] : List Pr), (doneI xs.length p er).2) := by
  intro h
  unfold doneI endC
  by_cases h0 : er = 0
  ·have h1 : p < xs.length := h.resolve_left (fun q => q h0)
   simp [h0, h1]
  ·simp [h0]
 have hok : ¬ (er ≠ 0 ∨ p < xs.length) → doneI xs.length p er = (true, 0) ∧ er = 0 ∧ endC xs.length p er (checkP l) = checkP l := by
  intro h
  have h0 : er = 0 := Classical.byContradiction fun q => h (.inl q)
  have h1 : ¬ p < xs.length := fun q => h (.inr q)
  unfold doneI endC
  simp [h0, h1]
 generalize hn : w.heap.size = n at HPR ⊢
 have HN := hid hn
 have HB0 := hid hb
 clear hn hrow hb
 by_cases hway : er ≠ 0 ∨ p < xs.length
 ·obtain ⟨q1, q2, q3⟩ := hbad hway
  rw [q3]
  clear hok hbad hway q3
  have HDN := hid (fun (g : Nat) (W : World) (h : Cur 159 W n g xs p er) (hK : n ≤ g) => done_any h hple hK)
  generalize doneI xs.length p er = dn at HDN q1 q2 ⊢
  obtain ⟨d1, d2⟩ := dn
  simp only at q1 q2 ⊢
  subst q1
  have hne : (d2 != 0) = true := bne_iff_ne.2 q2
  clear q2
  go_enter Tryz.func29, Tryz.ntmps29
  go_wp2_with fail
  refine HNEW.out.mono ?_
  rintro e w1 ⟨g, rfl, hwg, hc1, hb1⟩
  rw [HN.out] at hwg hc1 hb1
  have hn1 := hb1.size
  rw [HN.out] at hn1
  have hgl := hc1.lt
  obtain ⟨w2, hw2⟩ : ∃ w2, w1.alloc (.cells #[.pointer (some ⟨g, 0, none⟩)] 121) = w2 := ⟨_, rfl⟩
  have b2 : Below w1.heap.size w1 w2 := by rw [← hw2]; exact (Below.refl _ _).alloc (Nat.le_refl _) _
  have s2 : w2.heap.size = w1.heap.size + 1 := by rw [← hw2]; simp
  have h2 : Held w2 w1.heap.size 121 #[.pointer (some ⟨g, 0, none⟩)] := by rw [← hw2]; exact heap_alloc_new w1 _
  have HBX2 := hid h2
  have HC2 := hid (HPR.out g (w1.heap.size + 1) w2 (hc1.below b2 hwg) hwg (by omega))
  have HB2 := hid (hb1.trans (b2.mono hn1))
  have hbox2 := h2.cell 0
  simp at hbox2
  clear h2 b2 hc1 hb1
  go_wp2_with fail
  refine HC2.out.mono ?_
  rintro e w3 ⟨⟨A3, c3, es, rfl, ho3, he3⟩, hc3, hg3⟩
  have hbx3 := HBX2.out.grown hg3 (fun e => by injection e with e; omega)
  have hbox3 := hbx3.cell 0
  simp at hbox3
  have HBX3 := hid hbx3
  have HB3 := hid (HB2.out.grown hg3 (by omega) (fun j e => by injection e with e; omega))
  have HD := hid (HDN.out g w3 hc3 hwg)
  clear hbox2 hbx3 hc3 hg3 ho3 he3
  go_wp2_with fail
  refine HD.out.mono ?_
  rintro e w4 ⟨rfl, hc4, hg4⟩
  have hbx4 := HBX3.out.grown hg4 (fun e => by injection e with e; omega)
  have hbox4 := hbx4.cell 0
  simp at hbox4
  have HB4 := hid (HB3.out.grown hg4 (by have := HB3.out.size; rw [HN.out] at this; exact this) (fun j e => by injection e with e; omega))
  have HE := hid (err_any hc4)
  clear hbox3 hbx4 hc4 hg4
  go_wp2_with fail
  refine HE.out.mono ?_
  rintro e w5 ⟨rfl, rfl⟩
  go_wp2_with fail
  go_ret2
  exact ⟨sig_bad rfl rfl, HB4.out⟩
 ·obtain ⟨q1, rfl, q3⟩ := hok hway
  rw [q3]
  clear hok hbad hway q3
  have HDN := hid (fun (g : Nat) (W : World) (h : Cur 159 W n g xs p 0) (hK : n ≤ g) => done_any h hple hK)
  rw [q1] at HDN
  clear q1
  obtain ⟨ck, hck⟩ : ∃ ck, checkP l = ck := ⟨_, rfl⟩
  have HCK := hid (fun (A : Option Addr) (c : Nat) (ds : List Pd) (W : World) (h : PredRow W W.heap.size (.slice A ds.length c) ds) (e : ds.map (·.p) = l) => (show Calls Tryz.prog 58 #[.slice A ds.length c] W fun e w' => e = .returned (.int .i64 ck) ∧ Below W.heap.size W w' by rw [← hck, ← e]; exact scheck_any A c ds W h))
  rw [hck]
  clear hck
  go_enter Tryz.func29, Tryz.ntmps29
  go_wp2_with fail
  refine HNEW.out.mono ?_
  rintro e w1 ⟨g, rfl, hwg, hc1, hb1⟩
  rw [HN.out] at hwg hc1 hb1
  have hn1 := hb1.size
  rw [HN.out] at hn1
  have hgl := hc1.lt
  obtain ⟨w2, hw2⟩ : ∃ w2, w1.alloc (.cells #[.pointer (some ⟨g, 0, none⟩)] 121) = w2 := ⟨_, rfl⟩
  have b2 : Below w1.heap.size w1 w2 := by rw [← hw2]; exact (Below.refl _ _).alloc (Nat.le_refl _) _
  have s2 : w2.heap.size = w1.heap.size + 1 := by rw [← hw2]; simp
  have h2 : Held w2 w1.heap.size 121 #[.pointer (some ⟨g, 0, none⟩)] := by rw [← hw2]; exact heap_alloc_new w1 _
  have HBX2 := hid h2
  have HC2 := hid (HPR.out g (w1.heap.size + 1) w2 (hc1.below b2 hwg) hwg (by omega))
  have HB2 := hid (hb1.trans (b2.mono hn1))
  have hbox2 := h2.cell 0
  simp at hbox2
  clear h2 b2 hc1 hb1
  go_wp2_with fail
  refine HC2.out.mono ?_
  rintro e w3 ⟨⟨A3, c3, es, rfl, ho3, he3⟩, hc3, hg3⟩
  have hbx3 := HBX2.out.grown hg3 (fun e => by injection e with e; omega)
  have hbox3 := hbx3.cell 0
  simp at hbox3
  have HBX3 := hid hbx3
  have HB3 := hid (HB2.out.grown hg3 (by omega) (fun j e => by injection e with e; omega))
  have HD := hid (HDN.out g w3 hc3 hwg)
  have HO3 := hid ho3
  have HES := hid he3
  clear hbox2 hbx3 hc3 hg3 ho3 he3
  go_wp2_with fail
  refine HD.out.mono ?_
  rintro e w4 ⟨rfl, hc4, hg4⟩
  have hbx4 := HBX3.out.grown hg4 (fun e => by injection e with e; omega)
  have hbox4 := hbx4.cell 0
  simp at hbox4
  have hb4 := HB3.out.grown hg4 (by have := HB3.out.size; rw [HN.out] at this; exact this) (fun j e => by injection e with e; omega)
  have ho4 := HO3.out.kept hg4 (by omega)
  have hs4 := hbx4.lt
  have HB4 := hid hb4
  have HC4 := hid hc4
  have HO4 := hid ho4
  have HBX4 := hid hbx4
  have HKEEP := hid (fun (W : World) (h : Below w4.heap.size w4 W) => (show W.cell? ⟨w1.heap.size, 0, none⟩ = some (.pointer (some ⟨g, 0, none⟩)) from by have e := (hbx4.below h (by omega)).cell 0; simpa using e))
  have HCK4 := hid (fun (W : World) (h : Below w4.heap.size w4 W) => HCK.out A3 c3 es W ((ho4.below h).fresh).1 HES.out)
  clear hbox3 hc4 hg4 hb4 ho4 hbx4
  go_wp2_with fail
  go_region_held3 (fun W => W.cell? ⟨w1.heap.size, 0, none⟩ = some (.pointer (some ⟨g, 0, none⟩)))
   (first | exact HKEEP.out _ (Below.refl _ _) | exact HKEEP.out _ (Below.refl _ _).drew | exact HKEEP.out _ b5 | exact hbox6)
   (first
    | (go_at_call 58; (with_reducible refine (HCK4.out _ (by first | exact Below.refl _ _ | exact (Below.refl _ _).drew)).mono ?_); rintro r w5 ⟨rfl, hb5⟩; have b5 : Below w4.heap.size w4 w5 := (Below.refl _ _).drew.trans hb5)
    | (go_at_call 57; (with_reducible refine (stop_any ck (HC4.out.below b5 hwg)).mono ?_); rintro r w6 ⟨rfl, hc6, hg6⟩; have hbx6 := (HBX4.out.below b5 hs4).grown hg6 (fun e => by injection e with e; omega); have hbox6 : w6.cell? ⟨w1.heap.size, 0, none⟩ = some (.pointer (some ⟨g, 0, none⟩)) := by { have e := hbx6.cell 0; simpa using e }))
  rw [stopI_zero] at hc6
  have HE := hid (err_any hc6)
  have HO6 := hid ((HO4.out.below b5).kept hg6 (by omega))
  have HB6 := hid ((HB4.out.trans (b5.mono (by have := HB4.out.size; rw [HN.out] at this; exact this))).grown hg6 (by have := (HB4.out.trans (b5.mono (by have := HB4.out.size; rw [HN.out] at this; exact this))).size; rw [HN.out] at this; exact this) (fun j e => by injection e with e; omega))
  by_cases hz : ck = 0
  ·subst hz
   go_wp2_with fail
   refine HE.out.mono ?_
   rintro e w7 ⟨rfl, rfl⟩
   go_wp2_with fail
   go_ret2
   exact ⟨⟨A3, c3, es, rfl, HO6.out.base (by omega), HES.out⟩, HB6.out⟩
  ·have hne : (ck != 0) = true := bne_iff_ne.2 hz
   have HZ := hid hz
   clear hz
   go_wp2_with fail
   refine HE.out.mono ?_
   rintro e w7 ⟨rfl, rfl⟩
   go_wp2_with fail
   go_ret2
   exact ⟨sig_bad rfl rfl, HB6.out⟩
theorem rsigsame_any (A1 : Option Addr) (c1 : Nat) (ds1 : List Pd) (A2 : Option Addr) (c2 : Nat) (ds2 : List Pd) (w : World) (hrow1 : PredRow w w.heap.size (.slice A1 ds1.length c1) ds1) (hrow2 : PredRow w w.heap.size (.slice A2 ds2.length c2) ds2) :
  Calls Tryz.prog 13 #[.slice A1 ds1.length c1, .slice A2 ds2.length c2] w fun e w' => e = .returned (.bool (decide (ds1.map (·.p) = ds2.map (·.p)))) ∧ Below w.heap.size w w' := by
 obtain ⟨_, hc1, hc2⟩ : ∃ _ : True, ds1.length ≤ c1 ∧ c1 ≤ 9223372036854775807 := by
  obtain ⟨A', c', hv, q1, q2⟩ := hrow1.form
  injection hv with _ _ e3
  exact ⟨trivial, by omega, by omega⟩
 obtain ⟨_, hc3, hc4⟩ : ∃ _ : True, ds2.length ≤ c2 ∧ c2 ≤ 9223372036854775807 := by
  obtain ⟨A', c', hv, q1, q2⟩ := hrow2.form
  injection hv with _ _ e3
  exact ⟨trivial, by omega, by omega⟩
 by_cases hl : ds1.length = ds2.length
 ·have hyes := fun h => decide_eq_true (prs_ext (l := ds1.map (·.p)) (m := ds2.map (·.p)) (by simpa using hl) h)
  have hno := fun (i : Nat) (h : (ds1.map (·.p)).getD i default ≠ (ds2.map (·.p)).getD i default) => decide_eq_false (p := ds1.map (·.p) = ds2.map (·.p)) (fun e => h (by rw [e]))
  generalize decide (ds1.map (·.p) = ds2.map (·.p)) = R at hyes hno ⊢
  have HY := hid hyes
  have HN := hid hno
  have HR1 := hid hrow1
  have HR2 := hid hrow2
  clear hyes hno hrow1 hrow2
  rw [← hl] at hc3
  have HL := hid hl
  rw [← hl] at HR2 ⊢
  clear hl
  obtain ⟨N, hN⟩ : ∃ N, ds1.length = N := ⟨_, rfl⟩
  have HN1 := hid hN
  rw [hN] at HR1 HR2 hc1 hc3 HL ⊢
  clear hN
  go_enter Tryz.func13, Tryz.ntmps13
  go_wp2_with fail
  go_loopg [5] N (fun gk i wr => ∃ k : Nat, k ≤ N ∧ i = .int .i64 k ∧ Hid (N - k = gk) ∧ Hid (∀ j, j < k → (ds1.map (·.p)).getD j default = (ds2.map (·.p)).getD j default) ∧ Below w.heap.size w wr)
  case atStart => exact ⟨0, Nat.zero_le _, rfl, hid rfl, hid (fun j h => absurd h (Nat.not_lt_zero _)), Below.refl _ _⟩
  case round =>
   obtain ⟨k, hk, rfl, HGK, HJ, hbw⟩ := hrel
   by_cases hlt : k < N
   ·obtain ⟨d1, hd1⟩ : ∃ d, ds1[k]? = some d := ⟨_, List.getElem?_eq_getElem (by rw [HN1.out]; exact hlt)⟩
    obtain ⟨d2, hd2⟩ : ∃ d, ds2[k]? = some d := ⟨_, List.getElem?_eq_getElem (by rw [← HL.out]; exact hlt)⟩
    obtain ⟨b1, o1, rfl, hb1, x0, x1, hir1, hfit1, ha1, ha2⟩ := (HR1.out.below hbw).at hd1
    obtain ⟨b2, o2, rfl, hb2, y0, y1, hir2, hfit2, ha3, ha4⟩ := (HR2.out.below hbw).at hd2
    have e1 := getD_pr (at_pr hd1)
    have e2 := getD_pr (at_pr hd2)
    have hno := HN.out k
    rw [e1, e2] at hno
    have hst := fun (h : d1.p = d2.p) => step_lt (P := fun j => (ds1.map (·.p)).getD j default = (ds2.map (·.p)).getD j default) HJ.out (by rw [e1, e2]; exact h)
    have hf1 := hfit1.2.1
    have hf2 := hfit2.2.1
    clear e1 e2 hd1 hd2 hfit1 hfit2
    obtain ⟨⟨nm1, as1⟩, B1, e1⟩ := d1
    obtain ⟨⟨nm2, as2⟩, B2, e2⟩ := d2
    simp only at x0 x1 y0 y1 hir1 hir2 ha1 ha2 ha3 ha4 hno hst hf1 hf2
    by_cases hnm : nm1 = nm2
    ·subst hnm
     by_cases hal : as1.length = as2.length
     ·have hne : ((as1.length : Int) != (as2.length : Int)) = false := by rw [hal]; simp
      have HNO := hid (fun m (h : as1.getD m 0 ≠ as2.getD m 0) => hno (fun e => h (by injection e with _ e; rw [e])))
      have HST := hid (fun h => hst (by rw [args_ext hal h]))
      have HI1 := hid (fun W (h : Below w.heap.size wr W) => hir1.below h)
      have HI2 := hid (fun W (h : Below w.heap.size wr W) => hir2.below h)
      have hxx := fun W (h : Below w.heap.size wr W) => (h.cell (p := ⟨b1, o1 + k * 2 + 1, none⟩) hb1).trans x1
      have hyy := fun W (h : Below w.heap.size wr W) => (h.cell (p := ⟨b2, o2 + k * 2 + 1, none⟩) hb2).trans y1
      have HXX := hid hxx
      have HYY := hid hyy
      have HBW := hid hbw
      clear hno hst hf1 hf2 hir1 hir2 hxx hyy hbw
      rw [← hal] at ha3
      have HAL := hid hal
      clear hal
      have hlen2 : as2.length = as1.length := HAL.out.symm
      rw [hlen2] at y1 hne HI2 HYY
      clear hlen2
      go_wp2_with fail
      go_quiet (fail)
      go_wp2_with fail
      go_loopg [6] as1.length (fun gm i wr2 => ∃ m : Nat, m ≤ as1.length ∧ i = .int .i64 m ∧ Hid (as1.length - m = gm) ∧ Hid (∀ j, j < m → as1.getD j 0 = as2.getD j 0) ∧ Below w.heap.size wr wr2)
      case atStart => exact ⟨0, Nat.zero_le _, rfl, hid rfl, hid (fun j h => absurd h (Nat.not_lt_zero _)), drewN_low _ _ _⟩
      case round =>
       obtain ⟨m, hm, rfl, HGM, HI, hbw2⟩ := hrel
       have x1' := HXX.out _ hbw2
       have y1' := HYY.out _ hbw2
       by_cases hml : m < as1.length
       ·obtain ⟨q1, r1, rfl, hq1, t1⟩ := (HI1.out _ hbw2).at hml
        obtain ⟨q2, r2, rfl, hq2, t2⟩ := (HI2.out _ hbw2).at (by rw [← HAL.out]; exact hml)
        by_cases he : as1.getD m 0 = as2.getD m 0
        ·have HI3 := hid (step_lt (P := fun j => as1.getD j 0 = as2.getD j 0) HI.out he)
         rw [he] at t1
         generalize as2.getD m 0 = t at t1 t2
         have HB2 := hid hbw2
         clear he hbw2 x1 y1
         go_wp2_with fail
         go_quiet (fail)
         go_wp2_with fail
         go_roundg (as1.length - (m + 1))
         case measure => have := HGM.out; omega
         case rel => exact ⟨m + 1, by omega, by go_num, hid rfl, HI3, HB2.out.trans (drewN_low _ _ _)⟩
        ·have HR := hid (HNO.out m he)
         generalize as1.getD m 0 = s1 at t1 he
         generalize as2.getD m 0 = s2 at t2 he
         have hse : (s1 != s2) = true := bne_iff_ne.2 he
         have HB2 := hid hbw2
         clear he hbw2 x1 y1
         go_wp2_with fail
         go_quiet (fail)
         go_wp2_with fail
         go_ret
         exact ⟨by rw [HR.out]; rfl, (HBW.out.trans HB2.out).trans (drewN_low _ _ _)⟩
       ·obtain rfl : m = as1.length := by omega
        have HJ2 := hid (HST.out HI.out)
        have HB2 := hid hbw2
        clear hbw2 x1 y1
        go_wp2_with fail
        go_roundg (N - (k + 1))
        case measure => have := HGK.out; omega
        case rel => exact ⟨k + 1, by omega, by go_num, hid rfl, HJ2, HBW.out.trans HB2.out⟩
     ·have hR := hno (fun h => hal (by injection h with _ h; rw [h]))
      have hne : ((as1.length : Int) != (as2.length : Int)) = true := bne_iff_ne.2 (by omega)
      have HR := hid hR
      clear hno hst hf1 hf2 hR hir1 hir2
      have HBW := hid hbw
      clear hbw
      go_wp2_with fail
      go_quiet (fail)
      go_wp2_with fail
      go_ret
      exact ⟨by rw [HR.out]; rfl, HBW.out.trans (drewN_low _ _ _)⟩
    ·have hR := hno (fun h => hnm (by injection h))
     have hne := str_ne hf1 hf2 hnm
     have HR := hid hR
     clear hno hst hf1 hf2 hR hir1 hir2 hnm
     have HBW := hid hbw
     clear hbw
     go_wp2_with fail
     go_quiet (fail)
     go_wp2_with fail
     go_ret
     exact ⟨by rw [HR.out]; rfl, HBW.out.trans (drewN_low _ _ _)⟩
   ·obtain rfl : k = N := by omega
    have HR := hid (HY.out (fun i hi => HJ.out i (by rw [List.length_map, HN1.out] at hi; exact hi)))
    go_wp2_with fail
    go_ret
    exact ⟨by rw [HR.out]; rfl, hbw⟩
 ·have hlb : ((ds1.length : Int) != (ds2.length : Int)) = true := bne_iff_ne.2 (by omega)
  have hf : decide (ds1.map (·.p) = ds2.map (·.p)) = false := decide_eq_false (fun e => hl (by have := congrArg List.length e; simpa using this))
  rw [hf]
  clear hf
  go_enter Tryz.func13, Tryz.ntmps13
  go_wp2_with fail
  go_ret
  exact ⟨rfl, Below.refl _ _⟩
theorem lst_ext {α : Type} [Inhabited α] {l m : List α} (hl : l.length = m.length) (h : ∀ i, i < l.length → l.getD i default = m.getD i default) : l = m := by
 refine List.ext_getElem hl fun i h1 h2 => ?_
 have := h i h1
 simpa [List.getD, List.getElem?_eq_getElem h1, List.getElem?_eq_getElem h2] using this
theorem part_num (w : World) (t : TypeId) (k k' : IntKind) (cs : Array Value) (i : Nat) (x : Int) (ht : Tryz.prog.underlying t = some (.int k')) (hi : cs[i]? = some (.int k x)) : (part t cs i).run Tryz.prog w = .ok (.int k x) w := by
 unfold part isAgg
 simp [run_underlying ht, hi, Result.andThen]
theorem arg_eq (w : World) (a b : Int) (s : ByteArray) (a' b' : Int) (s' : ByteArray) : (Op.equal 135 (.agg #[.int .i64 a, .int .i64 b, .string s]) (.agg #[.int .i64 a', .int .i64 b', .string s'])).run Tryz.prog w = .ok (a == a' && (b == b' && s.toList == s'.toList)) w := by
 unfold Op.equal
 rw [show Op.maxDepth = 9998 + 1 + 1 from rfl, run_equalIn_struct (P := Tryz.prog) w _ 135 _ _ (by kernel_rfl) (by kernel_rfl)]
 simp [Program.fieldsOf, Tryz.underlying135, Op.eqFields]
 rw [part_num w 3 .i64 .i64 _ 0 a Tryz.underlying3 rfl, Result.andThen_ok, part_num w 3 .i64 .i64 _ 0 a' Tryz.underlying3 rfl, Result.andThen_ok, show (9999 : Nat) = 9998 + 1 from rfl, run_equalIn_int (P := Tryz.prog) w 9998 3 .i64 .i64 a a' Tryz.underlying3, Result.andThen_ok]
 cases h : a == a' with
 | false => simp
 | true =>
  simp
  rw [part_num w 2 .i64 .i64 _ 1 b Tryz.underlying2 rfl, Result.andThen_ok, part_num w 2 .i64 .i64 _ 1 b' Tryz.underlying2 rfl, Result.andThen_ok, show (9999 : Nat) = 9998 + 1 from rfl, run_equalIn_int (P := Tryz.prog) w 9998 2 .i64 .i64 b b' Tryz.underlying2, Result.andThen_ok]
  cases h : b == b' with
  | false => simp
  | true =>
   simp
   rw [part_str w 9 _ 2 s Tryz.underlying9 rfl, Result.andThen_ok, part_str w 9 _ 2 s' Tryz.underlying9 rfl, Result.andThen_ok, show (9999 : Nat) = 9998 + 1 from rfl, run_equalIn_string (P := Tryz.prog) w 9998 9 s s' Tryz.underlying9, Result.andThen_ok]
   cases s.toList == s'.toList <;> simp
theorem ag_eq_dec {x y : Ag} (hx : x.Fits) (hy : y.Fits) : (x.t == y.t && (x.n == y.n && (strOfNums x.s).toList == (strOfNums y.s).toList)) = decide (x = y) := by
 obtain ⟨a, b, s⟩ := x
 obtain ⟨a', b', s'⟩ := y
 rw [str_eq_dec hx.2.1 hy.2.1]
 by_cases h1 : a = a' <;> by_cases h2 : b = b' <;> by_cases h3 : s = s' <;> simp [h1, h2, h3]
theorem run_neq_arg (w : World) {x y : Ag} (hx : x.Fits) (hy : y.Fits) :
  (binOp .neq 135 (.agg #[.int .i64 x.t, .int .i64 x.n, .string (strOfNums x.s)]) (.agg #[.int .i64 y.t, .int .i64 y.n, .string (strOfNums y.s)])).run Tryz.prog w = .ok (.bool (!decide (x = y))) w := by
 have h := arg_eq w x.t x.n (strOfNums x.s) y.t y.n (strOfNums y.s)
 rw [ag_eq_dec hx hy] at h
 simp only [binOp, Sem.run_bind, h, Result.andThen_ok, Sem.run_pure]
theorem ev_eq_dec (a b : Em) : decide (a.e = b.e) = (decide (a.p = b.p) && decide (a.args = b.args)) := by
 obtain ⟨p, l, _, _⟩ := a
 obtain ⟨q, m, _, _⟩ := b
 by_cases h1 : p = q <;> by_cases h2 : l = m <;> simp [Em.e, h1, h2]
theorem pn_eq_dec (a b : Pm) : decide (a.p = b.p) = (decide (a.tm = b.tm) && decide (a.evs.map (·.e) = b.evs.map (·.e))) := by
 obtain ⟨p, l, _, _⟩ := a
 obtain ⟨q, m, _, _⟩ := b
 by_cases h1 : p = q <;> by_cases h2 : l.map (·.e) = m.map (·.e) <;> simp [Pm.p, h1, h2]
end Go.Proofs.YtnlfcmbpocdpjaaGreat
