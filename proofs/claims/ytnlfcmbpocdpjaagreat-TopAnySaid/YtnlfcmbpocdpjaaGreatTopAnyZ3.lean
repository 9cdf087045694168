/-
  What the theorem of TopAny rests on, part 3 of 16.
-/
import Derived.Carry
import Derived.Deep.RegionHeld3
import Derived.RangeFuncCalls
import Derived.RangeFuncBound
import Derived.Shelf.Abstract
import Derived.OwnWalkIn
import Derived.TacticsInMore
import Derived.LoopNIn
import Derived.LoopIn
import Derived.Lib.Hide
import Derived.Outline
import Derived.BigQuiet
import Derived.Test.YtnlfcmbpocdpjaaGreatRows
import Derived.Test.YtnlfcmbpocdpjaaGreatTopAnyZ2
set_option maxRecDepth 100000
set_option maxHeartbeats 16000000
namespace Go.Proofs.YtnlfcmbpocdpjaaGreat
open Lib (hid)
open Go.RowKit
theorem dig_any (c : Int) (w : World) : Calls Tryz.prog 132 #[.int .u8 c] w fun e w' => e = .returned (.bool (inB c 48 57)) ∧ w = w' := by
 by_cases h1 : 48 ≤ c
 ·by_cases h2 : c ≤ 57
  ·have e : inB c 48 57 = true := by simp [inB, h1, h2]
   rw [e]
   go_enter Tryz.func132, Tryz.ntmps132
   go_wp2_with fail
   go_ret
   exact ⟨rfl, rfl⟩
  ·have e : inB c 48 57 = false := by simp [inB, h2]
   rw [e]
   go_enter Tryz.func132, Tryz.ntmps132
   go_wp2_with fail
   go_ret
   exact ⟨rfl, rfl⟩
 ·have e : inB c 48 57 = false := by simp [inB, h1]
  rw [e]
  go_enter Tryz.func132, Tryz.ntmps132
  go_wp2_with fail
  go_ret
  exact ⟨rfl, rfl⟩
def letB (c : Int) : Bool := inB c 65 90 || inB c 97 122 || decide (c = 95)
theorem nameB_parts (c : Int) : nameB c = (inB c 48 57 || letB c) := by
 unfold nameB letB
 cases inB c 65 90 <;> cases inB c 97 122 <;> cases inB c 48 57 <;> cases decide (c = 95) <;> rfl
theorem let_any (c : Int) (w : World) : Calls Tryz.prog 133 #[.int .u8 c] w fun e w' => e = .returned (.bool (letB c)) ∧ w = w' := by
 have h95 : ∀ b, decide (c = 95) = b → (c == 95) = b := fun b h => by rw [← h]; rfl
 by_cases a1 : 65 ≤ c <;> by_cases a2 : c ≤ 90 <;> by_cases a3 : 97 ≤ c <;> by_cases a4 : c ≤ 122 <;> first
  | (exfalso; omega)
  | (have e : letB c = true := by simp [letB, inB, a1, a2, a3, a4]
     rw [e]
     clear h95 e
     go_enter Tryz.func133, Tryz.ntmps133
     go_wp2_with fail
     go_ret
     exact ⟨rfl, rfl⟩)
  | (cases a5 : decide (c = 95) with
     | true =>
      have e : letB c = true := by simp [letB, a5]
      have h := h95 _ a5
      rw [e]
      clear h95 e a5
      go_enter Tryz.func133, Tryz.ntmps133
      go_wp2_with fail
      go_ret
      exact ⟨rfl, rfl⟩
     | false =>
      have e : letB c = false := by simp [letB, inB, a1, a2, a3, a4, a5]
      have h := h95 _ a5
      rw [e]
      clear h95 e a5
      go_enter Tryz.func133, Tryz.ntmps133
      go_wp2_with fail
      go_ret
      exact ⟨rfl, rfl⟩)
theorem sname_is (xs : List Int) (hb : ∀ x ∈ xs, 0 ≤ x ∧ x < 256) (hl : xs.length ≤ 9223372036854775807) (w : World) :
  Calls Tryz.prog 92 #[.string (strOfNums xs)] w fun e w' => e = .returned (.bool (okName xs)) ∧ w = w' := by
 have hsz := strOfNums_size xs
 by_cases h0 : xs = []
 ·subst h0
  have e : okName [] = false := rfl
  rw [e]
  clear e
  go_enter Tryz.func92, Tryz.ntmps92
  go_wp2_with fail
  go_ret
  exact ⟨rfl, rfl⟩
 ·have hpos : 0 < xs.length := by cases xs with | nil => exact absurd rfl h0 | cons _ _ => simp
  have hnz : ((xs.length : Int) == 0) = false := beq_eq_false_iff_ne.2 (by omega)
  clear h0
  by_cases h32 : 32 < xs.length
  ·have h32i : (32 : Int) < (xs.length : Int) := by omega
   have e : okName xs = false := by simp [okName, show ¬ xs.length ≤ 32 by omega]
   rw [e]
   clear e
   go_enter Tryz.func92, Tryz.ntmps92
   go_wp2_with fail
   go_ret
   exact ⟨rfl, rfl⟩
  ·have hat0 := str_at xs hb 0 hpos (by omega)
   have hle : (xs.length : Int) ≤ 32 := by omega
   obtain ⟨y, hy⟩ : ∃ y, xs.getD 0 0 = y := ⟨_, rfl⟩
   rw [hy] at hat0
   cases hd : inB y 48 57 with
   | true =>
    have e : okName xs = false := by unfold okName; rw [hy, hd]; simp
    rw [e]
    clear e hy
    have HI := hid (fun w => dig_any y w)
    rw [hd] at HI
    clear hd
    go_enter Tryz.func92, Tryz.ntmps92
    go_wp2_with fail
    refine (HI.out _).mono ?_
    rintro e w1 ⟨rfl, rfl⟩
    go_wp2_with fail
    go_ret
    exact ⟨rfl, rfl⟩
   | false =>
    have HOK := hid (show okName xs = xs.all nameB by unfold okName; rw [hy, hd]; simp [hpos, show xs.length ≤ 32 by omega])
    have HI := hid (fun w => dig_any y w)
    rw [hd] at HI
    clear hd hy
    have HB := hid hb
    clear hb
    go_enter Tryz.func92, Tryz.ntmps92
    go_wp2_with fail
    refine (HI.out _).mono ?_
    rintro e w1 ⟨rfl, rfl⟩
    clear hat0
    go_wp2_with fail
    go_loopw [19] (fun i wr => ∃ k : Nat, k ≤ xs.length ∧ i = .int .i64 k ∧ Hid (∀ j, j < k → nameB (xs.getD j 0) = true) ∧ w = wr) (fun i _ => xs.length - (intOf i).toNat)
    case atStart => exact ⟨0, Nat.zero_le _, rfl, hid (fun j h => absurd h (Nat.not_lt_zero _)), rfl⟩
    case round =>
     obtain ⟨k, hk, rfl, HJ, rfl⟩ := hrel
     by_cases hlt : k < xs.length
     ·have hat := str_at xs HB.out k hlt (by omega)
      obtain ⟨z, hz⟩ : ∃ z, xs.getD k 0 = z := ⟨_, rfl⟩
      rw [hz] at hat
      have HZ := hid hz
      clear hz
      have H1 := hid (fun w => dig_any z w)
      have H2 := hid (fun w => let_any z w)
      have hall : nameB z = true → Hid (∀ j, j < k + 1 → nameB (xs.getD j 0) = true) := fun h => hid (step_lt (P := fun j => nameB (xs.getD j 0) = true) HJ.out (by rw [HZ.out]; exact h))
      cases h1 : inB z 48 57 with
      | true =>
       have HJ2 := hall (by rw [nameB_parts, h1]; rfl)
       rw [h1] at H1
       clear h1 hall
       go_wp2_with fail
       refine (H1.out _).mono ?_
       rintro e w1 ⟨rfl, rfl⟩
       go_wp2_with fail
       go_roundw
       case rel => exact ⟨k + 1, by omega, by go_num, HJ2, trivial⟩
       case measure => simp [intOf]; omega
      | false =>
       cases h2 : letB z with
       | true =>
        have HJ2 := hall (by rw [nameB_parts, h1, h2]; rfl)
        rw [h1] at H1
        rw [h2] at H2
        clear h1 h2 hall
        go_wp2_with fail
        refine (H1.out _).mono ?_
        rintro e w1 ⟨rfl, rfl⟩
        go_wp2_with fail
        refine (H2.out _).mono ?_
        rintro e w1 ⟨rfl, rfl⟩
        go_wp2_with fail
        go_roundw
        case rel => exact ⟨k + 1, by omega, by go_num, HJ2, trivial⟩
        case measure => simp [intOf]; omega
       | false =>
        have hn : nameB z = false := by rw [nameB_parts, h1, h2]; rfl
        have HE := hid (HOK.out.trans (show xs.all nameB = false from by
         rw [← Bool.not_eq_true, List.all_eq_true]
         intro h
         have := h z (by rw [← HZ.out, List.getD, List.getElem?_eq_getElem hlt]; simp)
         rw [hn] at this
         cases this))
        rw [h1] at H1
        rw [h2] at H2
        clear h1 h2 hall hn
        go_wp2_with fail
        refine (H1.out _).mono ?_
        rintro e w1 ⟨rfl, rfl⟩
        go_wp2_with fail
        refine (H2.out _).mono ?_
        rintro e w1 ⟨rfl, rfl⟩
        go_wp2_with fail
        go_ret
        exact ⟨by rw [HE.out]; rfl, rfl⟩
     ·obtain rfl : k = xs.length := by omega
      have e : xs.all nameB = true := nameB_all HJ.out
      have HE := hid (HOK.out.trans e)
      clear e
      go_wp2_with fail
      go_ret
      exact ⟨by rw [HE.out]; rfl, rfl⟩
theorem sname_any : NameC := fun xs w hb hl => (sname_is xs hb hl w).mono fun _ _ h => ⟨h.1, h.2 ▸ Below.refl _ _⟩
def whyA (ts : List Int) : Int := if 8 < ts.length then 6 else if ts.all (fun t => inB t 1 2) = false then 7 else 0
theorem whyP_args {l : List Pr} {i : Nat} {p : Pr} (hp : l[i]? = some p) (h1 : okName p.name = true) (h2 : ¬ findP l p.name < i) : whyP l i = whyA p.args := by
 unfold whyP whyA
 rw [getD_pr hp, if_neg (by rw [h1]; simp [h2])]
theorem whyA_7 {ts : List Int} (h : ¬ 8 < ts.length) {m : Nat} (hm : m < ts.length) (h4 : inB (ts.getD m 0) 1 2 = false) : whyA ts = 7 := by
 unfold whyA
 rw [if_neg h, if_pos]
 rw [← Bool.not_eq_true, List.all_eq_true]
 intro h
 have := h (ts.getD m 0) (by rw [List.getD, List.getElem?_eq_getElem hm]; simp)
 rw [h4] at this
 cases this
theorem whyA_0 {ts : List Int} (h : ¬ 8 < ts.length) (h4 : ∀ m, m < ts.length → inB (ts.getD m 0) 1 2 = true) : whyA ts = 0 := by
 unfold whyA
 rw [if_neg h, if_neg]
 rw [Bool.not_eq_false, List.all_eq_true]
 intro x hx
 obtain ⟨k, hk, e⟩ := List.getElem_of_mem hx
 have := h4 k hk
 rw [List.getD, List.getElem?_eq_getElem hk] at this
 simpa [e] using this
theorem sargs_any (A : Option Addr) (c : Nat) (ts : List Int) (w : World) (hrow : IRow w w.heap.size (.slice A ts.length c) ts) :
  Calls Tryz.prog 94 #[.slice A ts.length c] w fun e w' => e = .returned (.int .i64 (whyA ts)) ∧ w = w' := by
 by_cases h5 : 8 < ts.length
 ·have h5i : (8 : Int) < (ts.length : Int) := by omega
  rw [show whyA ts = 6 from if_pos h5]
  clear hrow
  go_enter Tryz.func94, Tryz.ntmps94
  go_wp2_with fail
  go_ret
  exact ⟨rfl, rfl⟩
 ·have HW7 := hid (fun m hm h4 => @whyA_7 ts h5 m hm h4)
  have HW0 := hid (fun h4 => @whyA_0 ts h5 h4)
  have h5i : (ts.length : Int) ≤ 8 := by omega
  have HIR := hid hrow
  clear h5 hrow
  generalize whyA ts = R at HW7 HW0 ⊢
  go_enter Tryz.func94, Tryz.ntmps94
  go_wp2_with fail
  go_loopg [10] ts.length (fun gm i wr => ∃ m : Nat, m ≤ ts.length ∧ i = .int .i64 m ∧ Hid (ts.length - m = gm) ∧ Hid (∀ j, j < m → inB (ts.getD j 0) 1 2 = true) ∧ w = wr)
  case atStart => exact ⟨0, Nat.zero_le _, rfl, hid rfl, hid (fun j h => absurd h (Nat.not_lt_zero _)), rfl⟩
  case round =>
   obtain ⟨m, hm, rfl, HGM, HI, rfl⟩ := hrel
   by_cases hml : m < ts.length
   ·obtain ⟨b2, o2, rfl, hb2, ht⟩ := HIR.out.at hml
    obtain ⟨t, hT⟩ : ∃ t, ts.getD m 0 = t := ⟨_, rfl⟩
    rw [hT] at ht
    cases h6 : inB t 1 2 with
    | true =>
     have HI2 := hid (step_lt (P := fun j => inB (ts.getD j 0) 1 2 = true) HI.out (by rw [hT]; exact h6))
     obtain ⟨t1, t2⟩ : 1 ≤ t ∧ t ≤ 2 := by simpa [inB] using h6
     clear h6 hT
     rcases (by omega : t = 1 ∨ t = 2) with rfl | rfl
     ·go_wp2_with fail
      go_roundg (ts.length - (m + 1))
      case measure => have := HGM.out; omega
      case rel => exact ⟨m + 1, by omega, by go_num, hid rfl, HI2, rfl⟩
     ·go_wp2_with fail
      go_roundg (ts.length - (m + 1))
      case measure => have := HGM.out; omega
      case rel => exact ⟨m + 1, by omega, by go_num, hid rfl, HI2, rfl⟩
    | false =>
     have HR := hid (HW7.out m hml (by rw [hT]; exact h6))
     have hn12 : t ≠ 1 ∧ t ≠ 2 := by
      refine ⟨fun e => ?_, fun e => ?_⟩ <;> subst e <;> simp [inB] at h6
     have hn1 : (t != 1) = true := bne_iff_ne.2 hn12.1
     have hn2 : (t != 2) = true := bne_iff_ne.2 hn12.2
     clear h6 hT hn12
     go_wp2_with fail
     go_ret
     exact ⟨by rw [HR.out]; rfl, rfl⟩
   ·obtain rfl : m = ts.length := by omega
    have HR := hid (HW0.out HI.out)
    go_wp2_with fail
    go_ret
    exact ⟨by rw [HR.out]; rfl, rfl⟩
theorem scheck_any : CheckC := by
 intro A c ds w hrow
 obtain ⟨_, hc1, hc2⟩ : ∃ _ : True, ds.length ≤ c ∧ c ≤ 9223372036854775807 := by
  obtain ⟨A', c', hv, q1, q2⟩ := hrow.form
  injection hv with _ _ e3
  exact ⟨trivial, by omega, by omega⟩
 have hml : (ds.map (·.p)).length = ds.length := List.length_map _
 by_cases hgt : 64 < ds.length
 ·have hgi : (64 : Int) < (ds.length : Int) := by omega
  rw [checkP_many (by omega)]
  go_enter Tryz.func58, Tryz.ntmps58
  go_wp2_with fail
  go_ret
  exact ⟨rfl, Below.refl _ _⟩
 have hfound := fun (r : Nat) (hr : r < ds.length) => @checkP_found (ds.map (·.p)) (by omega) r (by omega)
 have hnone := fun h => @checkP_none (ds.map (·.p)) (by omega) h
 generalize checkP (ds.map (·.p)) = R at hfound hnone ⊢
 have hle : (ds.length : Int) ≤ 64 := by omega
 have HF := hid hfound
 have HNO := hid hnone
 have HROW := hid hrow
 have HBY := hid hrow.bytes
 have HFI := hid (firsts_any A c ds w hrow)
 have HML := hid hml
 clear hfound hnone hrow hml hgt
 go_enter Tryz.func58, Tryz.ntmps58
 go_wp2_with fail
 refine HFI.out.mono ?_
 rintro e w0 ⟨L, rfl, hkp, hm0, hb0⟩
 have HNB := hid (hkp.names HBY.out)
 have HKP := hid hkp
 have HM0 := hid hm0
 obtain ⟨r, hr⟩ : ∃ r, w.heap.size = r := ⟨_, rfl⟩
 rw [hr] at HM0 hb0 HROW ⊢
 have HB0 := hid hb0
 clear hkp hm0 hb0
 go_wp2_with fail
 go_loopg [14] ds.length (fun gk i wr => ∃ k : Nat, k ≤ ds.length ∧ i = .int .i64 k ∧ Hid (ds.length - k = gk) ∧ Hid (∀ j, j < k → whyP (ds.map (·.p)) j = 0) ∧ Hid (MapOf wr r L) ∧ Hid (Below r w wr))
 case atStart => exact ⟨0, Nat.zero_le _, rfl, hid rfl, hid (fun j h => absurd h (Nat.not_lt_zero _)), HM0, HB0⟩
 case round =>
  obtain ⟨k, hk, rfl, HGK, HJ, HM, HBR⟩ := hrel
  have hlr := HM.out.lt
  by_cases hlt : k < ds.length
  ·obtain ⟨d, hd⟩ : ∃ d, ds[k]? = some d := ⟨_, List.getElem?_eq_getElem hlt⟩
   have HD := hid (at_pr hd)
   obtain ⟨b, o, rfl, hb, x0, x1, hir, hfit, ha1, ha2⟩ := (HROW.out.below HBR.out).at hd
   obtain ⟨dA, hdA⟩ : ∃ dA, d.A = dA := ⟨_, rfl⟩
   rw [hdA] at x1 hir
   have HFT := hid hfit
   obtain ⟨w1, hw1⟩ : ∃ w1, wr.alloc (.cells #[.string (strOfNums d.p.name), .slice dA d.p.args.length d.c] 58) = w1 := ⟨_, rfl⟩
   have s1 : w1.heap.size = wr.heap.size + 1 := by rw [← hw1]; simp
   have b1 : Below wr.heap.size wr w1 := by rw [← hw1]; exact (Below.refl _ _).alloc (Nat.le_refl _) _
   have h1 : Held w1 wr.heap.size 58 #[.string (strOfNums d.p.name), .slice dA d.p.args.length d.c] := by rw [← hw1]; exact heap_alloc_new wr _
   have HP1 := hid h1
   have HM1 := hid (HM.out.below b1 hlr)
   have HB1 := hid (HBR.out.trans (b1.mono (Nat.le_of_lt hlr)))
   have HIR1 := hid (hir.below (b1.mono (Nat.le_of_lt hlr)))
   have p0 := h1.cell 0
   have hl1 : wr.heap.size < w1.heap.size := by omega
   simp at p0
   have HNAME := hid (sname_any d.p.name w1 hfit.2.1 hfit.1)
   have HKY := hid (fun W => key_any (strOfNums d.p.name) dA d.p.args.length d.c W)
   clear h1 b1 hir hfit hd hdA
   go_wp2_with fail
   refine HNAME.out.mono ?_
   rintro e w2 ⟨rfl, hb2⟩
   have hz2 : w1.heap.size ≤ w2.heap.size := hb2.size
   have HM2 := hid (HM1.out.below hb2 (by omega))
   have HB2 := hid (HB1.out.trans (hb2.mono (by omega)))
   have HP2 := hid (HP1.out.below hb2 (by omega))
   have HIR2 := hid (HIR1.out.below (hb2.mono (by omega)))
   clear hb2 p0 x0 x1
   obtain ⟨p0, p1⟩ := cC2 HP2.out
   have hl2 := HP2.out.lt
   simp at p0 p1
   cases h1 : okName d.p.name with
   | false =>
    have hw := whyP_9 HD.out (.inl h1)
    have HR := hid ((HF.out k hlt HJ.out (by rw [hw]; decide)).trans hw)
    clear h1 hw
    go_wp2_with fail
    go_ret
    exact ⟨by rw [HR.out]; rfl, by rw [hr]; exact HB2.out⟩
   | true =>
    go_wp2_with fail
    refine (HKY.out _).mono ?_
    rintro e w3 ⟨rfl, hb3⟩
    have hz3 : w2.heap.size ≤ w3.heap.size := hb3.size
    have HM3 := hid (HM2.out.below hb3 (by omega))
    have HB3 := hid (HB2.out.trans (hb3.mono (by omega)))
    have HP3 := hid (HP2.out.below hb3 (by omega))
    have HIR3 := hid ((HIR2.out.below (hb3.mono (by omega))).more (B' := w3.heap.size) (by omega))
    clear hb3 p0 p1
    have p1 := HP3.out.cell 1
    have hl3 := HP3.out.lt
    simp at p1
    have hlk := HM3.out.look HNB.out HFT.out.2.1 (t := 163) Tryz.underlying163 (zero_int w3) false
    rcases HKP.out.look d.p.name with ⟨e1, e2⟩ | ⟨j, e1, e2, _⟩
    ·exfalso
     have : ¬ findP (ds.map (·.p)) d.p.name < 0 ∨ findP (ds.map (·.p)) d.p.name = -1 := .inr e1
     rcases findP_ways (ds.map (·.p)) d.p.name with ⟨_, hn⟩ | ⟨r', _, e3, _⟩
     ·exact hn k d.p HD.out rfl
     ·omega
    ·rw [e2] at hlk
     simp only [Bool.false_eq_true, if_false] at hlk
     by_cases hjk : j = k
     ·subst hjk
      have hnf : ¬ findP (ds.map (·.p)) d.p.name < (j : Int) := by omega
      have hwa := whyP_args HD.out h1 hnf
      have HSA := hid (sargs_any dA d.c d.p.args w3 HIR3.out)
      clear e1 e2 hnf h1
      by_cases h0 : whyA d.p.args = 0
      ·have HJ2 := hid (step_lt HJ.out (hwa.trans h0))
       rw [h0] at HSA
       clear hwa h0
       go_wp2_with fail
       refine HSA.out.mono ?_
       rintro e w4 ⟨rfl, rfl⟩
       go_wp2_with fail
       go_roundg (ds.length - (j + 1))
       case measure => have := HGK.out; omega
       case rel => exact ⟨j + 1, by omega, by go_num, hid rfl, HJ2, HM3, HB3⟩
      ·have HR := hid ((HF.out j hlt HJ.out (by rw [hwa]; exact h0)).trans hwa)
       have hne : (whyA d.p.args != 0) = true := bne_iff_ne.2 h0
       generalize whyA d.p.args = Y at HSA HR hne
       clear hwa h0
       go_wp2_with fail
       refine HSA.out.mono ?_
       rintro e w4 ⟨rfl, rfl⟩
       go_wp2_with fail
       go_ret
       exact ⟨by rw [HR.out]; rfl, by rw [hr]; exact HB3.out⟩
     ·have hnf := (find_self HD.out)
      have hjlt : findP (ds.map (·.p)) d.p.name < (k : Int) := by
       rcases findP_ways (ds.map (·.p)) d.p.name with ⟨e3, hn⟩ | ⟨r', q, e3, q1, q2, q3⟩
       ·omega
       ·rcases Nat.lt_trichotomy r' k with h | h | h
        ·omega
        ·omega
        ·exact absurd rfl (q3 k d.p h HD.out)
      have hw := whyP_9 HD.out (.inr hjlt)
      have HR := hid ((HF.out k hlt HJ.out (by rw [hw]; decide)).trans hw)
      have hne : ((j : Int) != (k : Int)) = true := bne_iff_ne.2 (by omega)
      clear hnf hjlt hw e1 e2 h1
      go_wp2_with fail
      go_ret
      exact ⟨by rw [HR.out]; rfl, by rw [hr]; exact HB3.out⟩
  ·obtain rfl : k = ds.length := by omega
   have HR := hid (HNO.out (fun j hj => HJ.out j (by rw [HML.out] at hj; exact hj)))
   go_wp2_with fail
   go_ret
   exact ⟨by rw [HR.out]; rfl, by rw [hr]; exact HBR.out⟩
theorem checkArg_any (t : Int) (a : Ag) (hf : a.Fits) (w : World) :
  Calls Tryz.prog 142 #[.int .i64 t, a.val] w fun e w' => e = .returned (.int .i64 (whyG t a)) ∧ Below w.heap.size w w' := by
 obtain ⟨hl, -, -, -⟩ := hf
 unfold maxLen at hl
 have hsn := strOfNums_size a.s
 have hb1 : Below w.heap.size w (w.alloc (.cells #[.int .i64 a.t, .int .i64 a.n, .string (strOfNums a.s)] 135)) := (Below.refl _ _).alloc (Nat.le_refl _) _
 obtain ⟨at', an, as'⟩ := a
 dsimp only at hl hsn hb1 ⊢
 unfold whyG
 dsimp only
 by_cases h1 : at' = t
 ·subst h1
  rw [if_neg (by simp)]
  by_cases h2 : at' = 1
  ·subst h2
   by_cases h3 : as' = []
   ·have s1 : (strOfNums as').toList.isEmpty = true := by rw [str_empty, h3]; rfl
    have hl0 : as'.length = 0 := by rw [h3]; rfl
    rw [if_neg (by simp [h3]), if_neg (by simp), if_neg (by omega)]
    rw [hl0] at hsn
    clear hl h3 hl0
    go_enter Tryz.func142, Tryz.ntmps142
    go_wp2_with fail
    go_ret
    exact ⟨rfl, hb1⟩
   ·have s1 : (strOfNums as').toList.isEmpty = false := by
     rw [str_empty]
     cases as' with
     | nil => exact absurd rfl h3
     | cons _ _ => rfl
    rw [if_pos ⟨rfl, h3⟩]
    go_enter Tryz.func142, Tryz.ntmps142
    go_wp2_with fail
    go_ret
    exact ⟨rfl, hb1⟩
  ·have h2b : (at' == 1) = false := beq_eq_false_iff_ne.2 h2
   rw [if_neg (fun h => h2 h.1)]
   by_cases h3 : at' = 2
   ·subst h3
    by_cases h4 : an = 0
    ·subst h4
     rw [if_neg (by simp)]
     by_cases h5 : 200 < as'.length
     ·rw [if_pos h5]
      have h5i : (200 : Int) < (as'.length : Int) := by omega
      go_enter Tryz.func142, Tryz.ntmps142
      go_wp2_with fail
      go_ret
      exact ⟨rfl, hb1⟩
     ·rw [if_neg h5]
      have h5i : (as'.length : Int) ≤ 200 := by omega
      go_enter Tryz.func142, Tryz.ntmps142
      go_wp2_with fail
      go_ret
      exact ⟨rfl, hb1⟩
    ·rw [if_pos ⟨rfl, h4⟩]
     have h4b : (an == 0) = false := beq_eq_false_iff_ne.2 h4
     have h4c : (an != 0) = true := bne_iff_ne.2 h4
     go_enter Tryz.func142, Tryz.ntmps142
     go_wp2_with fail
     go_ret
     exact ⟨rfl, hb1⟩
   ·have h3b : (at' == 2) = false := beq_eq_false_iff_ne.2 h3
    rw [if_neg (fun h => h3 h.1)]
    by_cases h5 : 200 < as'.length
    ·rw [if_pos h5]
     have h5i : (200 : Int) < (as'.length : Int) := by omega
     go_enter Tryz.func142, Tryz.ntmps142
     go_wp2_with fail
     go_ret
     exact ⟨rfl, hb1⟩
    ·rw [if_neg h5]
     have h5i : (as'.length : Int) ≤ 200 := by omega
     go_enter Tryz.func142, Tryz.ntmps142
     go_wp2_with fail
     go_ret
     exact ⟨rfl, hb1⟩
 ·have h1b : (at' == t) = false := beq_eq_false_iff_ne.2 h1
  have h1c : (at' != t) = true := bne_iff_ne.2 h1
  rw [if_pos h1]
  go_enter Tryz.func142, Tryz.ntmps142
  go_wp2_with fail
  go_ret
  exact ⟨rfl, hb1⟩
theorem event_any (A : Option Addr) (c : Nat) (ds : List Pd) (x : Em) (w : World) (hrow : PredRow w w.heap.size (.slice A ds.length c) ds) (hx : x.Ok w w.heap.size) :
  Calls Tryz.prog 103 #[.slice A ds.length c, x.val] w fun e w' => e = .returned (.int .i64 (eventT (ds.map (·.p)) x.e)) ∧ Below w.heap.size w w' := by
 obtain ⟨hc1, hc2⟩ : ds.length ≤ c ∧ c ≤ 9223372036854775807 := by
  obtain ⟨A', c', hv, q1, q2⟩ := hrow.form
  injection hv with _ _ e3
  exact ⟨by omega, by omega⟩
 have hml : (ds.map (·.p)).length = ds.length := List.length_map _
 obtain ⟨hga, hfp⟩ := hx
 obtain ⟨-, hl1, hl2⟩ := hga.1.len
 unfold Em.Fits at hfp
 have hb1 : Below w.heap.size w (w.alloc (.cells #[.int .i64 x.p, .slice x.A x.args.length x.c] 91)) := (Below.refl _ _).alloc (Nat.le_refl _) _
 by_cases hneg : x.p < 0
 ·rw [eventT_name (.inl hneg)]
  clear hrow hga
  go_enter Tryz.func103, Tryz.ntmps103
  go_wp2_with fail
  go_ret
  exact ⟨rfl, hb1⟩
 have hn0 : 0 ≤ x.p := by omega
 by_cases hbig : (ds.length : Int) ≤ x.p
 ·rw [eventT_name (.inr (by rw [hml]; exact hbig))]
  clear hrow hga
  go_enter Tryz.func103, Tryz.ntmps103
  go_wp2_with fail
  go_ret
  exact ⟨rfl, hb1⟩
 obtain ⟨k, hk⟩ : ∃ k : Nat, x.p = k := ⟨x.p.toNat, by omega⟩
 have hkl : k < ds.length := by omega
 obtain ⟨d, hd⟩ : ∃ d, ds[k]? = some d := ⟨_, List.getElem?_eq_getElem hkl⟩
 obtain ⟨b, o, rfl, hb, x0, x1, hir, hfit, ha1, ha2⟩ := hrow.at hd
 have hat := @eventT_arg (ds.map (·.p)) x.e k d.p hk (at_pr hd)
 have hfound := @eventT_found (ds.map (·.p)) x.e k d.p hk (at_pr hd)
 have hnone := @eventT_none (ds.map (·.p)) x.e k d.p hk (at_pr hd)
 generalize eventT (ds.map (·.p)) x.e = R at hat hfound hnone ⊢
 have hvx : x.val = .agg #[.int .i64 k, .slice x.A x.args.length x.c] := by rw [Em.val, hk]
 rw [hvx]
 rw [hk] at hb1
 dsimp only [Em.e] at hat hfound hnone
 obtain ⟨dA, hdA⟩ : ∃ dA, d.A = dA := ⟨_, rfl⟩
 rw [hdA] at x1 hir
 obtain ⟨dc, hdc⟩ : ∃ dc, d.c = dc := ⟨_, rfl⟩
 rw [hdc] at x1 hir ha1 ha2
 obtain ⟨ts, hts⟩ : ∃ ts, d.p.args = ts := ⟨_, rfl⟩
 rw [hts] at x1 hir ha1 hat hfound hnone
 obtain ⟨xA, hxA⟩ : ∃ xA, x.A = xA := ⟨_, rfl⟩
 rw [hxA] at hga hb1 ⊢
 obtain ⟨xc, hxc⟩ : ∃ xc, x.c = xc := ⟨_, rfl⟩
 rw [hxc] at hga hb1 hl1 hl2 ⊢
 obtain ⟨gs, has⟩ : ∃ gs, x.args = gs := ⟨_, rfl⟩
 simp only [has] at hga hb1 hl1 hat hfound hnone ⊢
 have hdl := hb1.size
 have y0 := (hb1.cell (p := ⟨b, o + k * 2, none⟩) hb).trans x0
 have y1 := (hb1.cell (p := ⟨b, o + k * 2 + 1, none⟩) hb).trans x1
 clear hvx hk hdA hdc hts hxA hxc has hneg hbig hfp hd hrow hml hn0 hfit x0 x1
 clear x
 by_cases hne : gs.length ≠ ts.length
 ·rw [hat hne]
  have hne1 : ((gs.length : Int) != (ts.length : Int)) = true := bne_iff_ne.2 (by omega)
  have hne2 : ((gs.length : Int) == (ts.length : Int)) = false := beq_eq_false_iff_ne.2 (by omega)
  clear hne hat hfound hnone hga hir
  go_enter Tryz.func103, Tryz.ntmps103
  go_wp2_with fail
  go_ret
  exact ⟨rfl, hb1⟩
 have hle : gs.length = ts.length := by omega
 rw [← hle] at y1 hir ha1
 have HF := hid (fun r hr => hfound hle (r := r) hr)
 have HNO := hid (hnone hle)
 have HGA := hid hga
 have HIR := hid hir
 have HB1 := hid hb1
 have HLE := hid hle
 clear hne hat hfound hnone hga hir hle hb1
 go_enter Tryz.func103, Tryz.ntmps103
 go_wp2_with fail
 rename _ ∧ ¬ ds.length ≤ k => hq
 clear hq
 go_loopg [34] gs.length (fun gm i wr => ∃ m : Nat, m ≤ gs.length ∧ i = .int .i64 m ∧ Hid (gs.length - m = gm) ∧ Hid (∀ j, j < m → whyG (ts.getD j 0) (gs.getD j default) = 0) ∧ Hid (Below w.heap.size w wr))
 case atStart => exact ⟨0, Nat.zero_le _, rfl, hid rfl, hid (fun j h => absurd h (Nat.not_lt_zero _)), HB1⟩
 case round =>
  obtain ⟨m, hm, rfl, HGM, HJ, HB⟩ := hrel
  clear y0 y1
  by_cases hml : m < gs.length
  ·obtain ⟨a, ha⟩ : ∃ a, gs[m]? = some a := ⟨_, List.getElem?_eq_getElem hml⟩
   obtain ⟨b2, o2, rfl, hb2, ht⟩ := (HIR.out.below HB.out).at (i := m) (by have := HLE.out; omega)
   obtain ⟨b3, o3, rfl, hb3, z0, z1, z2, hfit⟩ := (HGA.out.below HB.out).at ha
   have hz := HB.out.size
   have HCA := hid (fun W => checkArg_any (ts.getD m 0) a hfit W)
   have HFM := HF.out m hml HJ.out
   have HST := hid (step_lt (P := fun j => whyG (ts.getD j 0) (gs.getD j default) = 0) (k := m) HJ.out)
   rw [getD_of ha] at HFM HST
   have HWF := hid HFM
   generalize ts.getD m 0 = t at ht HCA HWF HST
   obtain ⟨r, hr⟩ : ∃ r, whyG t a = r := ⟨_, rfl⟩
   rw [hr] at HCA HWF HST
   obtain ⟨w4, hw4⟩ : ∃ w4, wr.alloc (.cells #[.int .i64 a.t, .int .i64 a.n, .string (strOfNums a.s)] 135) = w4 := ⟨_, rfl⟩
   have s4 : w4.heap.size = wr.heap.size + 1 := by rw [← hw4, World.size_alloc]
   have hb4 : Below wr.heap.size wr w4 := by rw [← hw4]; exact (Below.refl _ _).alloc (Nat.le_refl _) _
   have hh4 : Held w4 wr.heap.size 135 #[.int .i64 a.t, .int .i64 a.n, .string (strOfNums a.s)] := by rw [← hw4]; exact heap_alloc_new wr _
   have HB4 := hid (HB.out.trans (hb4.mono hz))
   have HALL := hid (fun W (h : Below w4.heap.size w4 W) => (show W.cell? ⟨b2, o2 + m, none⟩ = some (.int .i64 t) ∧ W.cell? ⟨wr.heap.size, 0, none⟩ = some (.int .i64 a.t) ∧ W.cell? ⟨wr.heap.size, 1, none⟩ = some (.int .i64 a.n) ∧ W.cell? ⟨wr.heap.size, 2, none⟩ = some (.string (strOfNums a.s)) from by
    have hh := hh4.below h (by omega)
    obtain ⟨v0, v1, v2⟩ := cC3 hh
    simp at v0 v1 v2
    exact ⟨(h.cell (p := ⟨b2, o2 + m, none⟩) (by simp only; omega)).trans ((hb4.cell (p := ⟨b2, o2 + m, none⟩) (by simp only; omega)).trans ht), v0, v1, v2⟩))
   clear ha hfit HFM hr hb4 hh4
   go_wp2_with fail
   clear hw4
   go_region_held3 (fun W => Below w4.heap.size w4 W ∧ W.cell? ⟨b2, o2 + m, none⟩ = some (.int .i64 t) ∧ W.cell? ⟨wr.heap.size, 0, none⟩ = some (.int .i64 a.t) ∧ W.cell? ⟨wr.heap.size, 1, none⟩ = some (.int .i64 a.n) ∧ W.cell? ⟨wr.heap.size, 2, none⟩ = some (.string (strOfNums a.s)))
    (first | exact ⟨Below.refl _ _, HALL.out _ (Below.refl _ _)⟩ | exact ⟨(Below.refl _ _).drew, HALL.out _ (Below.refl _ _).drew⟩ | exact ⟨b5, HALL.out _ b5⟩)
    (first | (go_at_call 142; refine (HCA.out _).mono ?_; rintro e w5 ⟨rfl, hb5⟩; have b5 : Below w4.heap.size w4 w5 := (Below.refl w4.heap.size w4).drew.trans hb5))
   have HB5 := hid (HB4.out.trans (b5.mono HB4.out.size))
   clear b5
   by_cases h0 : r = 0
   ·subst h0
    have HST2 := hid (HST.out rfl)
    go_wp2_with fail
    go_roundg (gs.length - (m + 1))
    case measure => have := HGM.out; omega
    case rel => exact ⟨m + 1, by omega, by go_num, hid rfl, HST2, HB5⟩
   ·have HR := hid (HWF.out h0)
    have h1 : (r == 0) = false := beq_eq_false_iff_ne.2 h0
    have h2 : (r != 0) = true := bne_iff_ne.2 h0
    clear h0
    go_wp2_with fail
    go_ret
    exact ⟨by rw [HR.out]; rfl, HB5.out⟩
  ·obtain rfl : m = gs.length := by omega
   have HR := hid (HNO.out HJ.out)
   go_wp2_with fail
   go_ret
   exact ⟨by rw [HR.out]; rfl, HB.out⟩
section
open Go.RowKit Go.Shelf
attribute [local go_sem] Oper.semAt_some
def evsOf (l : List Pm) : List Em := l.flatMap (·.evs)
theorem evsOf_succ {ps : List Pm} {k : Nat} {p : Pm} (h : ps[k]? = some p) : evsOf (ps.take (k + 1)) = evsOf (ps.take k) ++ p.evs := by
 rw [List.take_add_one, h]
 simp [evsOf]
theorem take_snoc {α : Type} {l : List α} {m : Nat} {x : α} (h : l[m]? = some x) : l.take (m + 1) = l.take m ++ [x] := by rw [List.take_add_one, h]; rfl
theorem mem_evsOf {ps : List Pm} {k m : Nat} {p : Pm} {x : Em} (h : ps[k]? = some p) (hx : p.evs[m]? = some x) : x ∈ evsOf ps := List.mem_flatMap.2 ⟨p, List.mem_of_getElem? h, List.mem_of_getElem? hx⟩
theorem evsOf_prefix {ps : List Pm} {k m : Nat} {p : Pm} (h : ps[k]? = some p) : evsOf (ps.take k) ++ p.evs.take m <+: evsOf ps := by
 have e : evsOf ps = evsOf (ps.take k) ++ (p.evs ++ evsOf (ps.drop (k + 1))) := by
  rw [← List.append_assoc, ← evsOf_succ h]
  conv => lhs; rw [← List.take_append_drop (k + 1) ps]
  simp only [evsOf, List.flatMap_append]
 rw [e]
 exact List.prefix_append_right_inj _ |>.2 ((List.take_prefix m p.evs).trans (List.prefix_append _ _))
def KeepsE (n₀ bp : Nat) (w w' : World) : Prop := Below n₀ w w' ∧ w'.heap[bp]? = w.heap[bp]?
theorem KeepsE.refl (n₀ bp : Nat) (w : World) : KeepsE n₀ bp w w := ⟨Below.refl _ _, rfl⟩
theorem KeepsE.trans {n₀ bp : Nat} {a b c : World} (h : KeepsE n₀ bp a b) (k : KeepsE n₀ bp b c) : KeepsE n₀ bp a c := ⟨h.1.trans k.1, k.2.trans h.2⟩
theorem KeepsE.alloc {n₀ bp : Nat} {w : World} (h1 : n₀ ≤ w.heap.size) (h2 : bp < w.heap.size) (o : Obj) : KeepsE n₀ bp w (w.alloc o) := ⟨(Below.refl _ _).alloc h1 _, Below.heap_alloc _ _ _ h2⟩
theorem KeepsE.turn {n₀ bp : Nat} {w : World} (hn : n₀ ≤ w.heap.size) (hB : bp < w.heap.size) (W : World) (l : Nat) (o o' : Obj) (hl : w.heap.size ≤ l) (h : W.heap[l]? = some o) (_ : o.isCells = false) : KeepsE n₀ bp W (W.putObj l o') :=
 ⟨(Below.refl n₀ W).grown (grownBy_putObj' W l o') (by have := (Array.getElem?_eq_some_iff.1 h).1; omega) (fun k e => by cases e; omega), World.putObj_heap_other (by omega)⟩
def PtsAt (w : World) (bp : Nat) (A : Option Addr) (ps : List Pm) : Prop := 0 < ps.length → ∃ o, A = some ⟨bp, o, none⟩ ∧ ∀ i u, (flatN ps)[i]? = some u → w.cell? ⟨bp, o + i, none⟩ = some u
theorem PtsAt.keep {w w' : World} {bp : Nat} {A : Option Addr} {ps : List Pm} (h : PtsAt w bp A ps) (hk : w'.heap[bp]? = w.heap[bp]?) : PtsAt w' bp A ps := fun hn => by
 obtain ⟨o, e, hc⟩ := h hn
 exact ⟨o, e, fun i u hi => (World.cell?_of_block (a := ⟨bp, o + i, none⟩) hk).trans (hc i u hi)⟩
theorem PtsAt.at {w : World} {bp : Nat} {A : Option Addr} {ps : List Pm} (h : PtsAt w bp A ps) {k : Nat} {p : Pm} (hp : ps[k]? = some p) : ∃ o, A = some ⟨bp, o, none⟩ ∧ w.cell? ⟨bp, o + k * 2, none⟩ = some (.int .u64 p.tm) ∧ w.cell? ⟨bp, o + k * 2 + 1, none⟩ = some (.slice p.A p.evs.length p.c) := by
 have hlt := (List.getElem?_eq_some_iff.1 hp).1
 obtain ⟨o, e, hc⟩ := h (by omega)
 obtain ⟨f0, f1⟩ := flatN_at ps k p hp
 exact ⟨o, e, hc _ _ f0, hc _ _ f1⟩
theorem events_in (n : Nat) (hn : 1 ≤ n) (l Bn n₀ bp : Nat) (A : Option Addr) (c : Nat) (ps : List Pm) (hpc : ps.length ≤ c ∧ c ≤ 9223372036854775807) (J Jx : List Em → World → Prop) (W : World) (hJ : Abides W.heap.size J)
  (hY : ∀ pre x W1, J pre W1 → (x ∈ evsOf ps ∧ pre ++ [x] <+: evsOf ps) → W.heap.size ≤ W1.heap.size → YieldAt Fence.wide (n - 1) Tryz.prog l #[x.val] W1 fun e W' => (e = .returned (.bool true) ∧ J (pre ++ [x]) W' ∧ KeepsE n₀ bp W1 W') ∨ (e = .returned (.bool false) ∧ Jx (pre ++ [x]) W'))
  (hBn : W.cell? ⟨Bn, 0, none⟩ = some (.slice A ps.length c)) (hn0 : n₀ ≤ W.heap.size) (hbp : bp < W.heap.size) (hat : PtsAt W bp A ps) (hps : ∀ p ∈ ps, p.Ok W n₀) (h0 : J [] W) :
  CallsIn Fence.wide n Tryz.prog 141 #[.func (.yield l) #[] #[], .pointer (some ⟨Bn, 0, none⟩)] W fun e W' => (∃ v, e = .returned v) ∧ ((∃ xs, xs = evsOf ps ∧ J xs W') ∨ (∃ pre, pre <+: evsOf ps ∧ Jx pre W')) := by
 refine callsIn_of_wp Tryz.func141 rfl trivial ?_ rfl
 simp only [Tryz.ntmps141, List.size_toArray, List.length_cons, List.length_nil, Nat.reduceAdd, Nat.reduceSub, Array.replicate_succ, Array.replicate_zero, List.push_toArray, List.append_toArray, List.nil_append, List.cons_append]
 have HAT := hid hat
 have HPS := hid hps
 have HY := hid hY
 have HJA := hid hJ
 have HH0 := hid h0
 obtain ⟨hpc1, hpc2⟩ := hpc
 clear hat hps hY hJ h0
 gi_wp2
 gi_loopw [9] (fun i wr => ∃ k : Nat, k ≤ ps.length ∧ i = .int .i64 k ∧ Hid (J (evsOf (ps.take k)) wr) ∧ Hid (KeepsE n₀ bp W wr)) (fun i _ => ps.length - (intOf i).toNat)
 case atStart => exact ⟨0, Nat.zero_le _, rfl, hid (by simpa [evsOf] using HH0.out), hid (KeepsE.refl _ _ _)⟩
 case round =>
  obtain ⟨k, hk, rfl, HJ, HK⟩ := hrel
  by_cases hlt : k < ps.length
  ·obtain ⟨p, hp⟩ : ∃ p, ps[k]? = some p := ⟨_, List.getElem?_eq_getElem hlt⟩
   obtain ⟨o, rfl, x0, x1⟩ := (HAT.out.keep HK.out.2).at hp
   have hok := HPS.out p (List.mem_of_getElem? hp)
   obtain ⟨_, hl1, hl2⟩ := hok.1.1.len
   have hzr := HK.out.1.size
   have HP := hid hp
   have HOK := hid hok
   have hj2 := HJA.out _ _ _ HJ.out (Calm.alloc _ wr (.cells #[.int .u64 p.tm, .slice p.A p.evs.length p.c] 55))
   have hk2 := HK.out.trans (KeepsE.alloc (by omega) (by omega) (.cells #[.int .u64 p.tm, .slice p.A p.evs.length p.c] 55))
   have HJ2 := hid hj2
   have HK2 := hid hk2
   clear hp hok hj2 hk2 HJ HK
   obtain ⟨wx, hwx⟩ : ∃ wx, wx = wr := ⟨_, rfl⟩
   subst hwx
   gi_wp2
   gi_loopw [16] (fun i wr => ∃ m : Nat, m ≤ p.evs.length ∧ i = .int .i64 m ∧ Hid (J (evsOf (ps.take k) ++ p.evs.take m) wr) ∧ Hid (KeepsE n₀ bp W wr)) (fun i _ => p.evs.length - (intOf i).toNat)
   case atStart => exact ⟨0, Nat.zero_le _, rfl, hid (by simpa using HJ2.out), HK2⟩
   case round =>
    obtain ⟨m, hm, rfl, HJ3, HK3⟩ := hrel
    clear HJ2 HK2 x0 x1 hzr
    have hzr := HK3.out.1.size
    by_cases hml : m < p.evs.length
    ·obtain ⟨x, hx⟩ : ∃ x, p.evs[m]? = some x := ⟨_, List.getElem?_eq_getElem hml⟩
     obtain ⟨pA, hpA⟩ : ∃ pA, p.A = pA := ⟨_, rfl⟩
     have hea := (HOK.out.below HK3.out.1).1
     rw [hpA] at hea ⊢
     obtain ⟨b2, o2, rfl, hb2, y0, y1, _, hl3, hl4⟩ := hea.at hx
     obtain ⟨fn, tmps, assign, body, hy, hR⟩ := HY.out _ x _ (HJA.out _ _ _ HJ3.out (Calm.alloc _ wr (.cells #[.int .i64 x.p, .slice x.A x.args.length x.c] 91))) ⟨mem_evsOf HP.out hx, by rw [List.append_assoc, ← take_snoc hx]; exact evsOf_prefix HP.out⟩ (by simp; omega)
     dsimp only [Em.val] at hy
     have HX := hid hx
     have HKA := hid (HK3.out.trans (KeepsE.alloc (by omega) (by omega) (.cells #[.int .i64 x.p, .slice x.A x.args.length x.c] 91)))
     have HR := hid hR
     clear hx hea hpA hR
     gi_wp2
     refine HR.out.mono ?_
     rintro e W3 (⟨rfl, hJ3, hk3⟩ | ⟨rfl, hJx3⟩)
     ·have HJ4 := hid hJ3
      have HK4 := hid (HKA.out.trans hk3)
      clear hJ3 hk3 hy HR
      gi_wp2
      go_roundw
      case rel => exact ⟨m + 1, by omega, by go_num, hid (by rw [take_snoc HX.out, ← List.append_assoc]; exact HJ4.out), HK4⟩
      case measure => simp [intOf]; omega
     ·have HJ4 := hid hJx3
      clear hJx3 hy HR
      gi_wp2
      refine bodyPost_ret (results_none rfl _ _ _) rfl ?_
      exact ⟨⟨_, rfl⟩, .inr ⟨_, by rw [List.append_assoc, ← take_snoc HX.out]; exact evsOf_prefix HP.out, HJ4.out⟩⟩
    ·obtain rfl : m = p.evs.length := by omega
     gi_wp2
     go_roundw
     case rel => exact ⟨k + 1, by omega, by go_num, hid (by rw [evsOf_succ HP.out]; simpa using HJ3.out), HK3⟩
     case measure => simp [intOf]; omega
  ·obtain rfl : k = ps.length := by omega
   gi_wp2
   go_end0
   exact ⟨⟨_, rfl⟩, .inl ⟨_, rfl, by simpa using HJ.out⟩⟩
theorem events_gives (n : Nat) (hn : 1 ≤ n) (Bn n₀ bp : Nat) (A : Option Addr) (c : Nat) (ps : List Pm) (hpc : ps.length ≤ c ∧ c ≤ 9223372036854775807) (w : World)
  (hBn : Boxed w Bn 25 (.slice A ps.length c)) (hn0 : n₀ ≤ w.heap.size) (hbp : bp < w.heap.size) (hat : PtsAt w bp A ps) (hps : ∀ p ∈ ps, p.Ok w n₀) :
  Gives Fence.wide n Tryz.prog 141 #[.pointer (some ⟨Bn, 0, none⟩)] (fun x : Em => #[x.val]) (fun pre x => x ∈ evsOf ps ∧ pre ++ [x] <+: evsOf ps) (fun _ => KeepsE n₀ bp) (fun xs => xs = evsOf ps) (fun pre => pre <+: evsOf ps) True w := fun l J Jx W hW hJ _ hY h0 =>
 events_in n hn l Bn n₀ bp A c ps hpc J Jx W hJ (fun pre x W1 h1 h2 h3 => YieldAt.mono (hY pre x W1 h1 h2 h3) fun _ _ h => h.imp id And.right) ((hW.cell (p := ⟨Bn, 0, none⟩) hBn.lt).trans hBn.cell) (Nat.le_trans hn0 hW.size) (Nat.lt_of_lt_of_le hbp hW.size) (hat.keep (hW.block _ hbp)) (fun p hp => (hps p hp).below (hW.mono hn0)) h0
theorem eventsOf_any (A : Option Addr) (n c : Nat) (w : World) :
  Calls Tryz.prog 102 #[.slice A n c] w fun e w' => e = .returned (.func (.func 141) #[] #[.pointer (some ⟨w.heap.size, 0, none⟩)]) ∧ w' = w.alloc (.cells #[.slice A n c] 25) := by
 go_enter Tryz.func102, Tryz.ntmps102
 go_wp2_with fail
 go_ret
 exact ⟨rfl, rfl⟩
end
section
open Go.RowKit Go.Shelf
attribute [local go_sem] Oper.semAt_some
def CeI (sig : List Pr) (N : Nat) (A : Option Addr) (n c : Nat) (w : World) (pre : List Em) (W : World) : Prop :=
 (∀ e ∈ pre, eventT sig e.e = 0) ∧ Boxed W N 24 (.slice A n c) ∧ Boxed W (N + 2) 32 (.int .i64 0) ∧ KeepsE N (N + 3) w W
def CeX (sig : List Pr) (N : Nat) (w : World) (pre : List Em) (W : World) : Prop :=
 (∃ q x, pre = q ++ [x] ∧ (∀ e ∈ q, eventT sig e.e = 0) ∧ eventT sig x.e ≠ 0 ∧ Boxed W (N + 2) 32 (.int .i64 (eventT sig x.e))) ∧ Below N w W
theorem ceI_abides {sig : List Pr} {N n c m : Nat} {A : Option Addr} {w : World} (h : N + 3 < w.heap.size) (hm : w.heap.size ≤ m) : Abides m (CeI sig N A n c w) := by
 rintro pre X Y ⟨h1, h2, h3, h4⟩ hc
 exact ⟨h1, hc.boxed h2, hc.boxed h3, abides_below (β := Unit) (by omega) (by omega) () X Y h4.1 hc, (hc.low (N + 3) (by omega) (by have := h4.1.size; omega)).trans h4.2⟩
theorem ceX_abides {sig : List Pr} {N m : Nat} {w : World} (h : N + 3 < w.heap.size) (hm : w.heap.size ≤ m) : Abides m (CeX sig N w) := by
 rintro pre X Y ⟨⟨q, x, h1, h2, h3, h4⟩, h5⟩ hc
 exact ⟨⟨q, x, h1, h2, h3, hc.boxed h4⟩, abides_below (β := Unit) (by omega) (by omega) () X Y h5 hc⟩
theorem checkEvents_any (A : Option Addr) (c : Nat) (ds : List Pd) (p : Pm) (w : World) (hrow : PredRow w w.heap.size (.slice A ds.length c) ds) (hp : p.Ok w w.heap.size) :
  Calls Tryz.prog 62 #[.slice A ds.length c, p.val] w fun e w' => e = .returned (.int .i64 (whyE (ds.map (·.p)) p.p.evs)) ∧ Below w.heap.size w w' := by
 obtain ⟨hc1, hc2⟩ : ds.length ≤ c ∧ c ≤ 9223372036854775807 := by
  obtain ⟨A', c', hv, q1, q2⟩ := hrow.form
  injection hv with _ _ e3
  exact ⟨by omega, by omega⟩
 obtain ⟨-, hl1, hl2⟩ := hp.1.1.len
 have hml : p.p.evs.length = p.evs.length := List.length_map _
 obtain ⟨N, hN⟩ : ∃ N, w.heap.size = N := ⟨_, rfl⟩
 obtain ⟨w1, hw1⟩ : ∃ w1, ((w.alloc (.cells #[.slice A ds.length c] 24)).alloc (.cells #[.int .u64 p.tm, .slice p.A p.evs.length p.c] 55)).alloc (.cells #[.int .i64 0] 32) = w1 := ⟨_, rfl⟩
 have q1 : (w.alloc (.cells #[.slice A ds.length c] 24)).heap.size = N + 1 := by rw [World.size_alloc, hN]
 have q2 : ((w.alloc (.cells #[.slice A ds.length c] 24)).alloc (.cells #[.int .u64 p.tm, .slice p.A p.evs.length p.c] 55)).heap.size = N + 2 := by rw [World.size_alloc, q1]
 have s1 : w1.heap.size = N + 3 := by rw [← hw1, World.size_alloc, q2]
 have hbw : Below N w w1 := by rw [← hw1]; exact (((Below.refl _ _).alloc (by omega) _).alloc (by omega) _).alloc (by omega) _
 have hB0 : Boxed w1 N 24 (.slice A ds.length c) := by rw [← hw1, ← hN]; exact ((Boxed.new w _ _).alloc _).alloc _
 have hB2 : Boxed w1 (N + 2) 32 (.int .i64 0) := by rw [← hw1, ← q2]; exact Boxed.new _ _ _
 have hH1 : Held w1 (N + 1) 55 #[.int .u64 p.tm, .slice p.A p.evs.length p.c] := by rw [← hw1, ← q1]; exact (Below.heap_alloc _ _ _ (by rw [World.size_alloc]; omega)).trans (heap_alloc_new _ _)
 obtain ⟨y0, y1⟩ := cC2 hH1
 simp at y0 y1
 have z0 := hB2.cell
 have f0 := hB2.frozen
 by_cases hgt : 1024 < p.evs.length
 ·rw [whyE_many (by rw [hml]; exact hgt)]
  have hgi : (1024 : Int) < (p.evs.length : Int) := by omega
  have hce := (hB2.set (.int .i64 6)).cell
  have HB := hid (fun u => hbw.trans ((Below.refl N w1).setCell (p := ⟨N + 2, 0, none⟩) (by simp) u))
  clear hrow hp hB0 hB2 hH1 hbw
  go_enter Tryz.func62, Tryz.ntmps62
  go_wp2_with fail
  refine bodyPost_ret (v := .int .i64 6) (by simp [results, Tryz.results62, go_sem, hce]) rfl ⟨rfl, HB.out _⟩
 ·have hli : (p.evs.length : Int) ≤ 1024 := by omega
  have hfound := @whyE_found (ds.map (·.p)) p.p.evs (by omega)
  have hnone := @whyE_none (ds.map (·.p)) p.p.evs (by omega)
  generalize whyE (ds.map (·.p)) p.p.evs = R at hfound hnone ⊢
  generalize hsg : ds.map (·.p) = sig at hfound hnone
  have HEV := hid (fun (x : Em) (W : World) h1 h2 => event_any A c ds x W h1 h2)
  rw [hsg] at HEV
  rw [hN] at hrow hp
  have HROW := hid hrow
  have HOK := hid hp
  have HF := hid (fun r (hr : r < p.p.evs.length) => hfound hr)
  have HNO := hid hnone
  have hb4 : Below N w (w1.alloc (.cells #[.int .u64 p.tm, .slice p.A p.evs.length p.c] 55)) := hbw.alloc (by omega) _
  clear hrow hp hfound hnone hgt hsg z0 f0
  refine (callsIn_wide (n := 9)).1 ?_
  refine callsIn_of_wp_marks Tryz.func62 rfl trivial ?_ rfl
  simp only [Tryz.ntmps62, List.size_toArray, List.length_cons, List.length_nil, Nat.reduceAdd, Nat.reduceSub, Array.replicate_succ, Array.replicate_zero, List.push_toArray, List.append_toArray, List.nil_append, List.cons_append]
  gi_wp2_with (refine ⟨trivial, ?_⟩; gi_at_call 102; refine (callsIn_wide.2 (eventsOf_any _ _ _ _)).mono ?_; rintro e w' ⟨rfl, rfl⟩)
  obtain ⟨w2, hw2⟩ : ∃ w2, (w1.alloc (.cells #[.int .u64 p.tm, .slice p.A p.evs.length p.c] 55)).alloc (.cells #[.slice (some ⟨N + 3, 0, none⟩) 1 1] 25) = w2 := ⟨_, rfl⟩
  have q4 : (w1.alloc (.cells #[.int .u64 p.tm, .slice p.A p.evs.length p.c] 55)).heap.size = N + 4 := by rw [World.size_alloc, s1]
  have s2 : w2.heap.size = N + 5 := by rw [← hw2, World.size_alloc, q4]
  have hbw2 : Below N w w2 := by rw [← hw2]; exact hb4.alloc (by omega) _
  have hC0 : Boxed w2 N 24 (.slice A ds.length c) := by rw [← hw2]; exact (hB0.alloc _).alloc _
  have hC2 : Boxed w2 (N + 2) 32 (.int .i64 0) := by rw [← hw2]; exact (hB2.alloc _).alloc _
  have hC4 : Boxed w2 (N + 4) 25 (.slice (some ⟨N + 3, 0, none⟩) 1 1) := by rw [← hw2, ← q4]; exact Boxed.new _ _ _
  have hH3 : Held w2 (N + 3) 55 #[.int .u64 p.tm, .slice p.A p.evs.length p.c] := by rw [← hw2, ← s1]; exact (Below.heap_alloc _ _ _ (by rw [World.size_alloc]; omega)).trans (heap_alloc_new _ _)
  obtain ⟨x0, x1⟩ := cC2 hH3
  simp at x0 x1
  have hat : PtsAt w2 (N + 3) (some ⟨N + 3, 0, none⟩) [p] := by
   intro _
   refine ⟨0, rfl, fun i u hi => ?_⟩
   match i with
   | 0 => simp [flatN] at hi; rw [← hi]; exact x0
   | 1 => simp [flatN] at hi; rw [← hi]; exact x1
   | (k + 2) => simp [flatN] at hi
  have hevs : evsOf [p] = p.evs := by simp [evsOf]
  rw [hw2]
  clear hw1 hw2 q1 q2 q4 s1 hB0 hB2 hH1 y0 y1 hH3 x0 x1 hbw hb4
  have HBW2 := hid hbw2
  refine range_gives rfl (by omega) (gf := 141) (lb := #[.pointer (some ⟨N + 3 + 1, 0, none⟩)]) rfl trivial (enters_of Tryz.func141 (by kernel_rfl) rfl)
   (events_gives (9 - 1) (by omega) (N + 4) N (N + 3) (some ⟨N + 3, 0, none⟩) 1 [p] (by simp) w2 hC4 (by omega) (by omega) hat (fun d hd => by rw [List.mem_singleton.1 hd]; exact HOK.out.below hbw2)) (fun _ => rfl) (fun h k => h.trans k) (fun m W1 l1 o o' hl _ h hc => KeepsE.turn (w := w2) (by omega) (by omega) W1 l1 o o' hl h hc)
   (CeI sig N A ds.length c w2) (CeX sig N w2) (ceI_abides (by omega) (by omega)) (ceX_abides (by omega) (by omega)) ⟨by simp, hC0, hC2, KeepsE.refl _ _ _⟩
   (fun pre x a' W => (∃ q, a' = { tmps := #[.slice A ds.length c, p.val, .pointer (some ⟨N, 0, none⟩), .pointer (some ⟨N + 1, 0, none⟩), .pointer (some ⟨N + 2, 0, none⟩), .pointer (some ⟨q, 0, none⟩), undef, .pointer (some ⟨N + 1, 1, none⟩), .slice p.A p.evs.length p.c, .int .i64 p.evs.length, .bool (decide (1024 < (p.evs.length : Int))), .agg #[.int .u64 p.tm, .slice p.A p.evs.length p.c], .slice (some ⟨N + 3, 0, none⟩) 1 1, .func (.func 141) #[] #[.pointer (some ⟨N + 3 + 1, 0, none⟩)], x.val, undef, undef, undef, undef, undef, undef], defers := [] } ∧ Held W q 91 #[.int .i64 x.p, .slice x.A x.args.length x.c] ∧ N + 5 ≤ q) ∧ CeI sig N A ds.length c w2 pre W ∧ x ∈ evsOf [p])
   (fun pre x a' => ?own) ?take ?body ?done ?stop
  case own =>
   rintro _ X Y ⟨⟨q, e, h1, h2⟩, h3, h4⟩ hc
   exact ⟨⟨q, e, hc.held h1, h2⟩, ceI_abides (by omega) (by omega) _ _ _ h3 hc, h4⟩
  case take =>
   rintro l2 m pre x W1 K hm hm1 hI hR hK
   have hzw := hI.2.2.2.1.size
   have hcl := Calm.alloc w2.heap.size W1 (.cells #[.int .i64 x.p, .slice x.A x.args.length x.c] 91)
   have HK := hid (hK _ _ ((KeepsOthers.alloc W1 _).from _) (KeepsE.alloc (by omega) (by omega) _) ⟨⟨W1.heap.size, rfl, heap_alloc_new W1 _, by omega⟩, ceI_abides (by omega) (by omega) _ _ _ hI hcl, hR.1⟩)
   clear hK hI hR hcl hC0 hC2 hC4 hat hbw2
   gi_wp2
   exact HK.out
  case body =>
   rintro l2 m pre x a' W1 hm hm1 ⟨⟨q, rfl, hq, hbq⟩, ⟨hz, hx0, hx2, hke⟩, hx⟩
   rw [hevs] at hx
   have hb1 := HBW2.out.trans hke.1
   have hz1 := hb1.size
   have hzk := hke.1.size
   have HE := hid (HEV.out x W1 ((HROW.out.below hb1).more (by omega)) (((HOK.out.1.2 x hx).below hb1).more (by omega)))
   obtain ⟨r, hr⟩ : ∃ r, eventT sig x.e = r := ⟨_, rfl⟩
   rw [hr] at HE
   obtain ⟨q0, q1⟩ := cC2 hq
   simp at q0 q1
   have c0 := hx0.cell
   have HR := hid hr
   have HZ := hid hz
   have HX0 := hid hx0
   have HX2 := hid hx2
   have HKE := hid hke
   clear hx hz hx0 hx2 hke hr hq hb1 hC0 hC2 hC4 hat hbw2
   have HBX := hid (fun (W : World) (h : Below W1.heap.size W1 W) => (show Boxed W (N + 2) 32 (.int .i64 0) from (h.block _ HX2.out.lt).trans HX2.out))
   by_cases h0 : r = 0
   ·subst h0
    gi_wp2_with (refine ⟨trivial, ?_⟩; gi_at_call 103; refine (callsIn_wide.2 HE.out).mono ?_; rintro e w' ⟨rfl, hb5⟩)
    have hz5 := hb5.size
    have hlow : ∀ k, k < W1.heap.size → _ := fun k hk => hb5.block k hk
    refine ⟨⟨hz5, fun k o hk ho _ => (hlow k (Array.getElem?_eq_some_iff.1 ho).1).trans ho⟩, ⟨hb5.mono (by omega), hlow _ (by omega)⟩, ?_, (hlow _ HX0.out.lt).trans HX0.out, HBX.out _ hb5, HKE.out.trans ⟨hb5.mono (by omega), hlow _ (by omega)⟩⟩
    intro e he
    rcases List.mem_append.1 he with he | he
    ·exact HZ.out e he
    ·rw [List.mem_singleton.1 he]
     exact HR.out
   ·have h1 : (r == 0) = false := beq_eq_false_iff_ne.2 h0
    have h2 : (r != 0) = true := bne_iff_ne.2 h0
    have H0 := hid h0
    clear h0
    gi_wp2_with (refine ⟨trivial, ?_⟩; gi_at_call 103; refine (callsIn_wide.2 HE.out).mono ?_; rintro e w' ⟨rfl, hb5⟩; have hx5 := HBX.out _ hb5; have hc5 := hx5.cell; have hf5 := hx5.frozen)
    have hz5 := hb5.size
    refine ⟨trivial, ?_, ⟨pre, x, rfl, HZ.out, by rw [HR.out]; exact H0.out, by rw [HR.out]; exact hx5.set _⟩, (HKE.out.1.trans (hb5.mono (by omega))).setCell (p := ⟨N + 2, 0, none⟩) (by simp) _⟩
    refine KeepsFrom.trans (Y := w') ⟨hz5, fun k o hk ho _ => (hb5.block k (Array.getElem?_eq_some_iff.1 ho).1).trans ho⟩ ((KeepsOthers.setCell _ _ _).from _)
  case done =>
   rintro D ys V hD rfl ⟨hz, hx0, hx2, hke⟩ hK
   have hR : R = 0 := HNO.out fun j hj => by
    rw [List.length_map] at hj
    obtain ⟨e, he⟩ : ∃ e, p.evs[j]? = some e := ⟨_, List.getElem?_eq_getElem hj⟩
    rw [getD_of (at_ev he)]
    exact hz e (by rw [hevs]; exact List.mem_of_getElem? he)
   have hst := hx2.set (.int .i64 0)
   have c2 := hx2.cell
   have f2 := hx2.frozen
   have hbl : Below N w (V.setCell ⟨N + 2, 0, none⟩ (.int .i64 0)) := (HBW2.out.trans hke.1).setCell (p := ⟨N + 2, 0, none⟩) (by simp) _
   have hKD : (V.setCell ⟨N + 2, 0, none⟩ (.int .i64 0)).heap[D]? = some (.deferred (some [])) := (Below.heap_setCell _ _ _ _ (by simp only; omega)).trans hK
   clear hz hx0 hx2 hke hC0 hC2 hC4 hat hbw2
   gi_wp2
   generalize V.setCell ⟨N + 2, 0, none⟩ (.int .i64 0) = V3 at hst hbl hKD ⊢
   refine ⟨by simp, .inl ⟨_, _, rfl, run_takeDeferred hKD, ?_⟩⟩
   have hce : (V3.putObj D (.deferred none)).cell? ⟨N + 2, 0, none⟩ = some (.int .i64 0) := (World.cell?_of_block (a := ⟨N + 2, 0, none⟩) (World.putObj_heap_other (by simp only; omega))).trans hst.cell
   exact ⟨.int .i64 0, by simp [results, Tryz.results62, go_sem, hce], by rw [hR], by rw [hN]; exact hbl.trans ((Below.refl N V3).grown (grownBy_putObj' V3 D (.deferred none)) (by have := (Array.getElem?_eq_some_iff.1 hKD).1; omega) (fun k e => by cases e; omega))⟩
  case stop =>
   rintro D pre V hD hS ⟨⟨q, x, rfl, hz, hne, hst⟩, hbl⟩ hKD
   rw [hevs] at hS
   have hR : R = eventT sig x.e := by
    have hx : p.evs[q.length]? = some x := by
     obtain ⟨t, ht⟩ := hS
     rw [← ht]
     simp
    have hl := (List.getElem?_eq_some_iff.1 hx).1
    have := HF.out q.length (by rw [List.length_map]; exact hl) (fun j hj => ?_) (by rw [getD_of (at_ev hx)]; exact hne)
    ·rw [this, getD_of (at_ev hx)]
    ·obtain ⟨e, he⟩ : ∃ e, q[j]? = some e := ⟨_, List.getElem?_eq_getElem hj⟩
     have he2 : p.evs[j]? = some e := by
      obtain ⟨t, ht⟩ := hS
      rw [← ht, List.append_assoc, List.getElem?_append_left hj]
      exact he
     rw [getD_of (at_ev he2)]
     exact hz e (List.mem_of_getElem? he)
   rw [← hR] at hst
   have hbn := HBW2.out.trans hbl
   clear hz hne hS hC0 hC2 hC4 hat hbw2 hbl
   gi_wp2
   refine ⟨by simp, .inl ⟨_, _, rfl, run_takeDeferred hKD, ?_⟩⟩
   have hce : (V.putObj D (.deferred none)).cell? ⟨N + 2, 0, none⟩ = some (.int .i64 R) := (World.cell?_of_block (a := ⟨N + 2, 0, none⟩) (World.putObj_heap_other (by simp only; omega))).trans hst.cell
   exact ⟨.int .i64 R, by simp [results, Tryz.results62, go_sem, hce], rfl, by rw [hN]; exact hbn.trans ((Below.refl N V).grown (grownBy_putObj' V D (.deferred none)) (by have := (Array.getElem?_eq_some_iff.1 hKD).1; omega) (fun k e => by cases e; omega))⟩
end
open Go.RowKit Go.Shelf
theorem tcheck_any (A : Option Addr) (c : Nat) (ds : List Pd) (T : Option Addr) (ct : Nat) (ps : List Pm) (w : World) (hrow : PredRow w w.heap.size (.slice A ds.length c) ds) (ht : TrRow w w.heap.size (.slice T ps.length ct) ps) :
  Calls Tryz.prog 31 #[.slice A ds.length c, .slice T ps.length ct] w fun e w' => e = .returned (.tuple #[.int .i64 (checkT (ds.map (·.p)) (ps.map (·.p))).1, .int .i64 (checkT (ds.map (·.p)) (ps.map (·.p))).2]) ∧ Below w.heap.size w w' := by
 obtain ⟨-, hc1, hc2⟩ := ht.1.len
 have HCK := hid (scheck_any A c ds w hrow)
 have hsig := @checkT_sig (ds.map (·.p)) (ps.map (·.p))
 have hfound := @checkT_found (ds.map (·.p)) (ps.map (·.p))
 have hnone := @checkT_none (ds.map (·.p)) (ps.map (·.p))
 have HEV := hid (fun (p : Pm) (W : World) h1 h2 => checkEvents_any A c ds p W h1 h2)
 generalize checkT (ds.map (·.p)) (ps.map (·.p)) = R at hsig hfound hnone ⊢
 generalize ds.map (·.p) = sig at hsig hfound hnone HCK HEV
 obtain ⟨s, hs⟩ : ∃ s, checkP sig = s := ⟨_, rfl⟩
 rw [hs] at hsig hfound hnone HCK
 have HROW := hid hrow
 have HTR := hid ht
 clear hrow ht
 by_cases h0 : s = 0
 case neg =>
  have HR := hid (hsig h0)
  have h1 : (s == 0) = false := beq_eq_false_iff_ne.2 h0
  have h2 : (s != 0) = true := bne_iff_ne.2 h0
  clear h0 hsig hfound hnone
  go_enter Tryz.func31, Tryz.ntmps31
  go_wp2_with fail
  refine HCK.out.mono ?_
  rintro e w1 ⟨rfl, hb1⟩
  go_wp2_with fail
  exact bodyPost_ret (v := .tuple #[.int .i64 s, .int .i64 0]) (by simp [results, Tryz.results31, go_sem]) rfl ⟨by rw [HR.out], hb1⟩
 subst h0
 have HF := hid (fun r (hr : r < (ps.map (·.p)).length) => hfound rfl hr)
 have HNO := hid (hnone rfl)
 clear hsig hfound hnone hs
 go_enter Tryz.func31, Tryz.ntmps31
 go_wp2_with fail
 refine HCK.out.mono ?_
 rintro e w1 ⟨rfl, hb1⟩
 have HB1 := hid hb1
 clear hb1
 go_wp2_with fail
 go_loopg [17] ps.length (fun gk i wr => ∃ k : Nat, k ≤ ps.length ∧ i = .int .i64 k ∧ Hid (ps.length - k = gk) ∧ Hid (∀ j, j < k → whyT sig (ps.map (·.p)) j = 0) ∧ Hid (Below w.heap.size w wr))
 case atStart => exact ⟨0, Nat.zero_le _, rfl, hid rfl, hid (fun j h => absurd h (Nat.not_lt_zero _)), HB1⟩
 case round =>
  obtain ⟨k, hk, rfl, HGK, HJ, HB⟩ := hrel
  by_cases hlt : k < ps.length
  ·obtain ⟨d, hd⟩ : ∃ d, ps[k]? = some d := ⟨_, List.getElem?_eq_getElem hlt⟩
   have hz := HB.out.size
   obtain ⟨b, o, rfl, hb, x0, x1, hok, hl1, hl2⟩ := (HTR.out.below HB.out).at hd
   have hfd := hok.2
   unfold Pm.Fits at hfd
   obtain ⟨w4, hw4⟩ : ∃ w4, wr.alloc (.cells #[.int .u64 d.tm, .slice d.A d.evs.length d.c] 55) = w4 := ⟨_, rfl⟩
   have s4 : w4.heap.size = wr.heap.size + 1 := by rw [← hw4, World.size_alloc]
   have hb4 : Below wr.heap.size wr w4 := by rw [← hw4]; exact (Below.refl _ _).alloc (Nat.le_refl _) _
   have hh4 : Held w4 wr.heap.size 55 #[.int .u64 d.tm, .slice d.A d.evs.length d.c] := by rw [← hw4]; exact heap_alloc_new wr _
   have HB4 := hid (HB.out.trans (hb4.mono hz))
   obtain ⟨y0, y1⟩ := cC2 hh4
   simp at y0 y1
   have HOK := hid hok
   have HD := hid hd
   obtain ⟨r, hr⟩ : ∃ r, whyE sig d.p.evs = r := ⟨_, rfl⟩
   have HE := hid (fun (W : World) (hb : Below w4.heap.size w4 W) => HEV.out d W ((HROW.out.below (HB4.out.trans (hb.mono (by omega)))).more (by have := hb.size; omega)) ((hok.below ((hb4.mono hz).trans (hb.mono (by omega)))).more (by have := hb.size; omega)))
   rw [hr] at HE
   have HRR := hid hr
   clear hok hd hr hh4
   by_cases hk0 : 0 < k
   ·obtain ⟨e, he⟩ : ∃ e, ps[k - 1]? = some e := ⟨_, List.getElem?_eq_getElem (by omega)⟩
    obtain ⟨b', o', ee, hb', z0, _, hoe, _⟩ := (HTR.out.below HB.out).at he
    have hfe := hoe.2
    unfold Pm.Fits at hfe
    injection ee with ee
    injection ee with e1 e2 _
    subst e1 e2
    have z4 := (hb4.cell (p := ⟨b, o + (k - 1) * 2, none⟩) (by simp only; omega)).trans z0
    obtain ⟨j, hj⟩ : ∃ j, k - 1 = j := ⟨_, rfl⟩
    have hkj : k = j + 1 := by omega
    rw [hj] at z4
    rw [hj] at he
    have HE1 := hid he
    clear he hoe z0 hj
    have hki : (k : Int) - 1 = (j : Int) := by omega
    have hek : (ps.map (·.p)).getD k default = d.p := getD_of (at_pn HD.out)
    have hej : (ps.map (·.p)).getD (k - 1) default = e.p := by rw [show k - 1 = j by omega]; exact getD_of (at_pn HE1.out)
    by_cases htm : d.tm < e.tm
    ·have hw : whyT sig (ps.map (·.p)) k = 8 := whyT_order ⟨hk0, by rw [hek, hej]; exact htm⟩
     have HR := hid ((HF.out k (by rw [List.length_map]; exact hlt) HJ.out (by rw [hw]; decide)).trans (by rw [hw]))
     clear hw hkj hek hej
     go_wp2_with fail
     go_quiet (fail)
     go_wp2_with fail
     exact bodyPost_ret (v := .tuple #[.int .i64 8, .int .i64 k]) (by simp [results, Tryz.results31, go_sem]) rfl ⟨by rw [HR.out], HB4.out.trans (drewN_low _ _ _)⟩
    ·have hw : whyT sig (ps.map (·.p)) k = r := by
      rw [whyT_else (by rw [hek, hej]; exact fun h => htm h.2), hek]
      exact HRR.out
     have hge : e.tm ≤ d.tm := by omega
     have HW := hid hw
     clear hw hkj htm hek hej
     go_wp2_with fail
     go_quiet (fail)
     go_wp2_with fail
     refine (HE.out _ (drewN_low _ _ _)).mono ?_
     rintro e5 w5 ⟨rfl, hb5⟩
     have HB5 := hid (HB4.out.trans ((drewN_low w4 _ _).trans (hb5.mono (show w.heap.size ≤ w4.heap.size by omega))))
     clear hb5
     by_cases h0 : r = 0
     ·subst h0
      have HJ2 := hid (step_lt (P := fun j => whyT sig (ps.map (·.p)) j = 0) HJ.out HW.out)
      go_wp2_with fail
      go_roundg (ps.length - (k + 1))
      case measure => have := HGK.out; omega
      case rel => exact ⟨k + 1, by omega, by go_num, hid rfl, HJ2, HB5⟩
     ·have HR := hid ((HF.out k (by rw [List.length_map]; exact hlt) HJ.out (by rw [HW.out]; exact h0)).trans (by rw [HW.out]))
      have h1 : (r == 0) = false := beq_eq_false_iff_ne.2 h0
      have h2 : (r != 0) = true := bne_iff_ne.2 h0
      clear h0
      go_wp2_with fail
      exact bodyPost_ret (v := .tuple #[.int .i64 r, .int .i64 k]) (by simp [results, Tryz.results31, go_sem]) rfl ⟨by rw [HR.out], HB5.out⟩
   ·have hw : whyT sig (ps.map (·.p)) k = r := by
     rw [whyT_else (fun h => hk0 h.1), getD_of (at_pn HD.out)]
     exact HRR.out
    have HW := hid hw
    have hkd : decide (0 < (k : Int)) = false := decide_eq_false (by omega)
    clear hw
    go_wp2_with fail
    go_quiet (fail)
    go_wp2_with fail
    refine (HE.out _ (drewN_low _ _ _)).mono ?_
    rintro e5 w5 ⟨rfl, hb5⟩
    have HB5 := hid (HB4.out.trans ((drewN_low w4 _ _).trans (hb5.mono (show w.heap.size ≤ w4.heap.size by omega))))
    clear hb5
    by_cases h0 : r = 0
    ·subst h0
     have HJ2 := hid (step_lt (P := fun j => whyT sig (ps.map (·.p)) j = 0) HJ.out HW.out)
     go_wp2_with fail
     go_roundg (ps.length - (k + 1))
     case measure => have := HGK.out; omega
     case rel => exact ⟨k + 1, by omega, by go_num, hid rfl, HJ2, HB5⟩
    ·have HR := hid ((HF.out k (by rw [List.length_map]; exact hlt) HJ.out (by rw [HW.out]; exact h0)).trans (by rw [HW.out]))
     have h1 : (r == 0) = false := beq_eq_false_iff_ne.2 h0
     have h2 : (r != 0) = true := bne_iff_ne.2 h0
     clear h0
     go_wp2_with fail
     exact bodyPost_ret (v := .tuple #[.int .i64 r, .int .i64 k]) (by simp [results, Tryz.results31, go_sem]) rfl ⟨by rw [HR.out], HB5.out⟩
  ·obtain rfl : k = ps.length := by omega
   have HR := hid (HNO.out (fun j hj => HJ.out j (by rwa [List.length_map] at hj)))
   go_wp2_with fail
   exact bodyPost_ret (v := .tuple #[.int .i64 0, .int .i64 0]) (by simp [results, Tryz.results31, go_sem]) rfl ⟨by rw [HR.out], HB.out⟩
def OwnG (w : World) (n : Nat) (d : Em) : Prop := w.ownsRow n 135 3 (.slice d.A d.args.length d.c) d.args.length (flatG d.args) ∧ (∀ a ∈ d.args, a.Fits) ∧ d.Fits
def OwnE (w : World) (n : Nat) (v : Value) (es : List Em) : Prop := w.ownsRow n 91 2 v es.length (flatE es) ∧ ∀ d ∈ es, OwnG w n d
def OwnT (w : World) (n : Nat) (v : Value) (ps : List Pm) : Prop := w.ownsRow n 55 2 v ps.length (flatN ps) ∧ ∀ d ∈ ps, OwnE w n (.slice d.A d.evs.length d.c) d.evs ∧ d.Fits
section
variable {w w' : World} {n m k : Nat} {v : Value}
theorem own_calm {e : TypeId} {size : Nat} {us : List Value} (h : w.ownsRow n e size v k us) (hc : Calm m w w') : w'.ownsRow n e size v k us := by
 refine ⟨h.1, ?_⟩
 rcases h.2 with h2 | ⟨g, cap, cur, q1, q2, q3, r⟩
 ·exact .inl h2
 ·exact .inr ⟨g, cap, cur, q1, q2, hc.cells g _ q3 rfl, r⟩
theorem OwnG.calm {d : Em} (h : OwnG w n d) (hc : Calm m w w') : OwnG w' n d := ⟨own_calm h.1 hc, h.2⟩
theorem OwnE.calm {es : List Em} (h : OwnE w n v es) (hc : Calm m w w') : OwnE w' n v es := ⟨own_calm h.1 hc, fun d hd => (h.2 d hd).calm hc⟩
theorem OwnT.calm {ps : List Pm} (h : OwnT w n v ps) (hc : Calm m w w') : OwnT w' n v ps := ⟨own_calm h.1 hc, fun d hd => ⟨(h.2 d hd).1.calm hc, (h.2 d hd).2⟩⟩
theorem OwnG.below {d : Em} (h : OwnG w n d) (hb : Below w.heap.size w w') : OwnG w' n d := h.calm (Calm.of_below hb (m := 0))
theorem OwnE.below {es : List Em} (h : OwnE w n v es) (hb : Below w.heap.size w w') : OwnE w' n v es := h.calm (Calm.of_below hb (m := 0))
theorem OwnT.below {ps : List Pm} (h : OwnT w n v ps) (hb : Below w.heap.size w w') : OwnT w' n v ps := h.calm (Calm.of_below hb (m := 0))
theorem OwnE.nil (w : World) (n : Nat) : OwnE w n (.slice none 0 0) [] := ⟨World.ownsRow_nil _ _ _ _, by simp⟩
theorem OwnT.nil (w : World) (n : Nat) : OwnT w n (.slice none 0 0) [] := ⟨World.ownsRow_nil _ _ _ _, by simp⟩
theorem own_unlike {n m k j : Nat} {e f : TypeId} {s t : Nat} {u : Value} {us vs : List Value} (h : w.ownsRow n e s u k us) (h2 : w.ownsRow m f t v j vs) (hne : e ≠ f) : u.ownBlock = none ∨ u.ownBlock ≠ v.ownBlock := by
 rcases h.2 with ⟨rfl, _⟩ | ⟨g, cap, cur, rfl, _, hg, _⟩
 ·exact .inl rfl
 ·refine .inr fun e => ?_
  rcases h2.2 with ⟨rfl, _⟩ | ⟨g2, cap2, cur2, rfl, _, hg2, _⟩
  ·simp [Value.ownBlock] at e
  ·obtain rfl : g = g2 := by simpa [Value.ownBlock] using e
   rw [hg] at hg2
   injection hg2 with hg2
   injection hg2 with _ e3 _
   exact absurd e3 hne
theorem OwnG.grown {d : Em} {f : TypeId} {j t : Nat} {vs : List Value} (h : OwnG w n d) (h2 : w.ownsRow m f t v j vs) (hf : 135 ≠ f) (hg : w.grownBy w' v.ownBlock) : OwnG w' n d := ⟨World.ownsRow.kept h.1 hg (own_unlike h.1 h2 hf), h.2⟩
theorem OwnE.grown {f : TypeId} {j t : Nat} {vs : List Value} {u : Value} {es : List Em} (h : OwnE w n u es) (h2 : w.ownsRow m f t v j vs) (hf : 135 ≠ f) (hf2 : 91 ≠ f) (hg : w.grownBy w' v.ownBlock) : OwnE w' n u es :=
 ⟨World.ownsRow.kept h.1 hg (own_unlike h.1 h2 hf2), fun d hd => (h.2 d hd).grown h2 hf hg⟩
theorem OwnG.base {d : Em} (h : OwnG w n d) (hm : m ≤ n) : OwnG w m d := ⟨own_base h.1 hm, h.2⟩
theorem OwnE.base {es : List Em} (h : OwnE w n v es) (hm : m ≤ n) : OwnE w m v es := ⟨own_base h.1 hm, fun d hd => (h.2 d hd).base hm⟩
theorem OwnG.put {d : Em} {b i : Nat} {u : Value} (h : OwnG w n d) (hm : b < n) : OwnG (w.setCell ⟨b, i, none⟩ u) n d := ⟨own_put1 h.1 hm, h.2⟩
theorem OwnG.row {d : Em} (h : OwnG w n d) : d.Ok w w.heap.size := ⟨⟨ERow.of_own h.1, h.2.1⟩, h.2.2⟩
theorem OwnE.row {es : List Em} (h : OwnE w n v es) : EvRow w w.heap.size v es := ⟨ERow.of_own h.1, fun d hd => (h.2 d hd).row⟩
theorem OwnT.row {ps : List Pm} (h : OwnT w n v ps) : TrRow w w.heap.size v ps := ⟨ERow.of_own h.1, fun d hd => ⟨(h.2 d hd).1.row, (h.2 d hd).2⟩⟩
theorem keeps_grown {e : TypeId} {size : Nat} {us : List Value} (h : w.ownsRow n e size v k us) (hg : w.grownBy w' v.ownBlock) : KeepsOthers w w' := by
 refine ⟨hg.size, fun i o hi ho => ?_⟩
 have hlt := (Array.getElem?_eq_some_iff.1 hi).1
 by_cases hr : some i = v.ownBlock
 ·rcases h.2 with ⟨rfl, _⟩ | ⟨g, cap, cur, rfl, _, hgg, _⟩
  ·simp [Value.ownBlock] at hr
  ·obtain rfl : i = g := by simpa [Value.ownBlock] using hr
   rw [hgg] at hi
   injection hi with hi
   rw [← hi] at ho
   cases ho
 ·exact (hg.block i hlt hr).trans hi
theorem keeps_below (hb : Below w.heap.size w w') : KeepsOthers w w' := ⟨hb.size, fun k _ hk _ => (hb.block k (Array.getElem?_eq_some_iff.1 hk).1).trans hk⟩
theorem keepsE_below {n₀ bp : Nat} (hb : Below w.heap.size w w') (h1 : n₀ ≤ w.heap.size) (h2 : bp < w.heap.size) : KeepsE n₀ bp w w' := ⟨hb.mono h1, hb.block _ h2⟩
theorem keepsE_grown {n₀ bp : Nat} {e : TypeId} {size : Nat} {us : List Value} (h : w.ownsRow n e size v k us) (hg : w.grownBy w' v.ownBlock) (h1 : n₀ ≤ w.heap.size) (h2 : bp < w.heap.size) (h3 : n₀ ≤ n) (h4 : bp < n) : KeepsE n₀ bp w w' :=
 ⟨(Below.refl n₀ w).grown hg h1 (fun i hi => by have := (World.ownsRow.lt h i hi).1; omega), hg.block bp h2 (fun hi => by have := (World.ownsRow.lt h bp hi.symm).1; omega)⟩
end
structure PartN (S : Nat → Prop) (W W' : World) : Prop where
 os : W'.os = W.os
 tape : W'.tape = W.tape
 output : W'.output = W.output
 size : W.heap.size ≤ W'.heap.size
 block : ∀ i, i < W.heap.size → ¬ S i → W'.heap[i]? = W.heap[i]?
section
variable {S : Nat → Prop} {n : Nat} {W W' W2 : World} {v : Value}
theorem PartN.refl (S : Nat → Prop) (W : World) : PartN S W W := ⟨rfl, rfl, rfl, Nat.le_refl _, fun _ _ _ => rfl⟩
theorem PartN.trans (h : PartN S W W') (k : PartN S W' W2) : PartN S W W2 := ⟨k.os.trans h.os, k.tape.trans h.tape, k.output.trans h.output, Nat.le_trans h.size k.size, fun i hi hn => (k.block i (Nat.lt_of_lt_of_le hi h.size) hn).trans (h.block i hi hn)⟩
theorem PartN.of_below (h : Below W.heap.size W W') : PartN S W W' := ⟨h.os, h.tape, h.output, h.size, fun i hi _ => h.block i hi⟩
theorem PartN.put {b : Nat} (h0 : S b) (i : Nat) (u : Value) : PartN S W (W.setCell ⟨b, i, none⟩ u) := by
 have h := below_put (w := W) (B := b) (m := b) (i := i) u (Nat.le_refl _)
 refine ⟨h.os, h.tape, h.output, h.size, fun j _ hn => Below.heap_setCell _ _ _ _ (fun e => hn (by rw [show j = b from e]; exact h0))⟩
theorem PartN.low {N0 : Nat} (h : PartN S W W') (hn : N0 ≤ W.heap.size) (hS : ∀ i, i < N0 → ¬ S i) : Below N0 W W' := ⟨h.os, h.tape, h.output, h.size, fun i hi => h.block i (by omega) (hS i hi)⟩
theorem own_part {m k : Nat} {e : TypeId} {sz : Nat} {us : List Value} (h : W.ownsRow m e sz v k us) (hp : PartN S W W') (hm : ∀ j, m ≤ j → ¬ S j) : W'.ownsRow m e sz v k us := by
 refine ⟨h.1, ?_⟩
 rcases h.2 with h2 | ⟨g, cap, cur, q1, q2, q3, r⟩
 ·exact .inl h2
 ·exact .inr ⟨g, cap, cur, q1, q2, (hp.block g (Array.getElem?_eq_some_iff.1 q3).1 (hm g q2)).trans q3, r⟩
end
section
variable {α : Type} [DecidableEq α]
def placeF (x : α) : List α → Nat → Int
 | [], _ => -1
 | t :: l, k => if t = x then (k : Int) else placeF x l (k + 1)
def placeD (l : List α) (x : α) : Int := placeF x l 0
theorem placeF_ways (x : α) : ∀ (l : List α) (k : Nat), (placeF x l k = -1 ∧ x ∉ l) ∨ ∃ j, j < l.length ∧ placeF x l k = ((k + j : Nat) : Int) ∧ l[j]? = some x ∧ ∀ i, i < j → l[i]? ≠ some x
 | [], _ => .inl ⟨rfl, by simp⟩
 | t :: l, k => by
  by_cases h : t = x
  ·subst h
   exact .inr ⟨0, by simp, by simp [placeF], rfl, fun i hi => by omega⟩
  ·rcases placeF_ways x l (k + 1) with ⟨h1, h2⟩ | ⟨j, h0, h1, h2, h3⟩
   ·exact .inl ⟨by rw [placeF, if_neg h, h1], by simp [h2, Ne.symm h]⟩
   ·refine .inr ⟨j + 1, by simp; omega, by rw [placeF, if_neg h, h1, Nat.add_right_comm, Nat.add_assoc], by simpa using h2, fun i hi => ?_⟩
    cases i with
    | zero => simp [h]
    | succ i => simpa using h3 i (by omega)
theorem placeD_ways (l : List α) (x : α) : (placeD l x = -1 ∧ x ∉ l) ∨ ∃ j : Nat, j < l.length ∧ placeD l x = (j : Int) ∧ l[j]? = some x ∧ ∀ i, i < j → l[i]? ≠ some x := by
 rcases placeF_ways x l 0 with h | ⟨j, h⟩
 ·exact .inl h
 ·rw [Nat.zero_add] at h
  exact .inr ⟨j, h⟩
def putD (l : List α) (x : α) : List α × Int := if placeD l x < 0 then (l ++ [x], (l.length : Int)) else (l, placeD l x)
theorem putD_new {l : List α} {x : α} (h : placeD l x = -1) : putD l x = (l ++ [x], (l.length : Int)) := by
 unfold putD
 rw [h, if_pos (by omega)]
theorem putD_old {l : List α} {x : α} {j : Nat} (h : placeD l x = (j : Int)) : putD l x = (l, (j : Int)) := by
 unfold putD
 rw [h, if_neg (by omega)]
theorem putD_nodup {l : List α} (x : α) (h : l.Nodup) : (putD l x).1.Nodup := by
 rcases placeD_ways l x with ⟨h1, h2⟩ | ⟨j, _, h1, _, _⟩
 ·rw [putD_new h1]
  exact List.nodup_append.2 ⟨h, by simp, fun a ha b hb e => h2 (by rw [← List.mem_singleton.1 hb, ← e]; exact ha)⟩
 ·rw [putD_old h1]
  exact h
theorem putD_length (l : List α) (x : α) : l.length ≤ (putD l x).1.length ∧ (putD l x).1.length ≤ l.length + 1 := by
 rcases placeD_ways l x with ⟨h1, h2⟩ | ⟨j, _, h1, _, _⟩
 ·rw [putD_new h1]; simp
 ·rw [putD_old h1]; simp
theorem putD_mem {l : List α} {x t : α} (h : t ∈ (putD l x).1) : t ∈ l ∨ t = x := by
 rcases placeD_ways l x with ⟨h1, h2⟩ | ⟨j, _, h1, _, _⟩
 ·rw [putD_new h1] at h
  simpa using h
 ·rw [putD_old h1] at h
  exact .inl h
end
def stepA (L : List (List Int)) (a : Ag) : List (List Int) := if a.t = 2 then (putD L a.s).1 else L
def addA (L : List (List Int)) (l : List Ag) : List (List Int) := l.foldl stepA L
def addE (L : List (List Int)) (l : List Em) : List (List Int) := l.foldl (fun L e => addA L e.args) L
def addT (L : List (List Int)) (l : List Pm) : List (List Int) := l.foldl (fun L p => addE L p.evs) L
theorem take_one {α : Type} {l : List α} {m : Nat} {x : α} (h : l[m]? = some x) : l.take (m + 1) = l.take m ++ [x] := by rw [List.take_add_one, h]; rfl
theorem addA_succ {L : List (List Int)} {l : List Ag} {k : Nat} {a : Ag} (h : l[k]? = some a) : addA L (l.take (k + 1)) = stepA (addA L (l.take k)) a := by rw [take_one h, addA, List.foldl_append]; rfl
theorem addE_succ {L : List (List Int)} {l : List Em} {k : Nat} {e : Em} (h : l[k]? = some e) : addE L (l.take (k + 1)) = addA (addE L (l.take k)) e.args := by rw [take_one h, addE, List.foldl_append]; rfl
theorem addT_succ {L : List (List Int)} {l : List Pm} {k : Nat} {p : Pm} (h : l[k]? = some p) : addT L (l.take (k + 1)) = addE (addT L (l.take k)) p.evs := by rw [take_one h, addT, List.foldl_append]; rfl
def nA (l : List Em) : Nat := l.foldr (fun e n => e.args.length + n) 0
def nT (l : List Pm) : Nat := l.foldr (fun p n => nA p.evs + n) 0
def TxOk (L : List (List Int)) : Prop := ∀ t ∈ L, t.length ≤ Go.maxLen ∧ ∀ x ∈ t, 0 ≤ x ∧ x < 256
structure DOk (L L' : List (List Int)) (n : Nat) : Prop where
 nodup : L.Nodup → L'.Nodup
 low : L.length ≤ L'.length
 high : L'.length ≤ L.length + n
theorem stepA_ok (L : List (List Int)) (a : Ag) : DOk L (stepA L a) 1 := by
 unfold stepA
 by_cases h : a.t = 2
 ·rw [if_pos h]
  exact ⟨putD_nodup _, (putD_length _ _).1, (putD_length _ _).2⟩
 ·rw [if_neg h]
  exact ⟨id, Nat.le_refl _, by omega⟩
theorem DOk.trans {L M N : List (List Int)} {a b c : Nat} (h : DOk L M a) (k : DOk M N b) (hc : a + b = c) : DOk L N c :=
 ⟨fun q => k.nodup (h.nodup q), Nat.le_trans h.low k.low, by have := h.high; have := k.high; omega⟩
theorem addA_ok : ∀ (l : List Ag) (L : List (List Int)), DOk L (addA L l) l.length
 | [], L => ⟨id, Nat.le_refl _, by simp [addA]⟩
 | a :: l, L => (stepA_ok L a).trans (addA_ok l (stepA L a)) (by simp; omega)
theorem addE_ok : ∀ (l : List Em) (L : List (List Int)), DOk L (addE L l) (nA l)
 | [], L => ⟨id, Nat.le_refl _, by simp [addE]⟩
 | a :: l, L => (addA_ok a.args L).trans (addE_ok l (addA L a.args)) rfl
theorem addT_ok : ∀ (l : List Pm) (L : List (List Int)), DOk L (addT L l) (nT l)
 | [], L => ⟨id, Nat.le_refl _, by simp [addT]⟩
 | a :: l, L => (addE_ok a.evs L).trans (addT_ok l (addE L a.evs)) rfl
theorem nA_at : ∀ (l : List Em) (k : Nat) (e : Em), l[k]? = some e → nA (l.take k) + e.args.length ≤ nA l
 | [], k, e, h => by simp at h
 | a :: l, 0, e, h => by
  simp only [List.getElem?_cons_zero, Option.some.injEq] at h
  subst h
  simp [nA]
 | a :: l, k + 1, e, h => by
  have := nA_at l k e (by simpa using h)
  simp only [nA, List.take_succ_cons, List.foldr_cons] at this ⊢
  omega
theorem nT_at : ∀ (l : List Pm) (k : Nat) (e : Pm), l[k]? = some e → nT (l.take k) + nA e.evs ≤ nT l
 | [], k, e, h => by simp at h
 | a :: l, 0, e, h => by
  simp only [List.getElem?_cons_zero, Option.some.injEq] at h
  subst h
  simp [nT]
 | a :: l, k + 1, e, h => by
  have := nT_at l k e (by simpa using h)
  simp only [nT, List.take_succ_cons, List.foldr_cons] at this ⊢
  omega
section
variable {P : Program} {w : World} {kt : TypeId} {k : Value} {s : Value → Bool}
theorem run_lookup_found {t et : TypeId} {r : Nat} {es : Array MapEntry} {clock : Nat} {zero : Value} (ht : P.underlying t = some (.map kt et)) (hb : w.heap[r]? = some (.map es clock))
  (hc : ∀ b, (Instr.checkKey b 10000 kt k).run P w = .ok () w) (hz : (zeroValue et).run P w = .ok zero w) (hf : (Instr.findKey kt k es.toList).run P w = .ok (findE s es.toList 0) w) :
  (Instr.lookup t (.map (some r)) k true).run P w = .ok (match findE s es.toList 0 with
   | some (_, v) => .tuple #[v, .bool true]
   | none => .tuple #[zero, .bool false]) w := by
 have hg : (getObj r).run P w = .ok (.map es clock) w := by simp [getObj, Sem.run, hb]
 unfold Instr.lookup
 simp only [Sem.run_bind, run_underlying ht, Result.andThen_ok, hg, Sem.run_pure, hc, hf]
 cases findE s es.toList 0 with
 | none => simp [hz]
 | some p => obtain ⟨i, v⟩ := p; simp
theorem run_mapUpdate_found {t et : TypeId} {r : Nat} {es : Array MapEntry} {clock : Nat} {v : Value} (ht : P.underlying t = some (.map kt et)) (hb : w.heap[r]? = some (.map es clock))
  (hc : ∀ b, (Instr.checkKey b 10000 kt k).run P w = .ok () w) (hf : (Instr.findKey kt k es.toList).run P w = .ok none w) :
  (Instr.mapUpdate t (.map (some r)) k v).run P w = .ok () (w.putObj r (.map (es.push { key := k, val := v, born := clock }) (clock + 1))) := by
 have hg : (getObj r).run P w = .ok (.map es clock) w := by simp [getObj, Sem.run, hb]
 have hs : ∀ o, (setObj r o).run P w = .ok () (w.putObj r o) := fun o => by simp [setObj, Sem.run, hb, World.putObj]
 unfold Instr.mapUpdate
 simp only [Sem.run_bind, run_underlying ht, Result.andThen_ok, hg, hc, hf]
 rw [hs]
end
section
variable {α : Type}
def entsF (kf : α → Value) : List α → Nat → List (Value × Value)
 | [], _ => []
 | a :: l, k => (kf a, .int .i64 k) :: entsF kf l (k + 1)
theorem entsF_snoc (kf : α → Value) (a : α) : ∀ (l : List α) (k : Nat), entsF kf (l ++ [a]) k = entsF kf l k ++ [(kf a, .int .i64 ((k + l.length : Nat) : Int))]
 | [], k => rfl
 | b :: l, k => by
  rw [List.cons_append, entsF, entsF_snoc kf a l (k + 1), entsF, List.cons_append, List.length_cons, Nat.add_right_comm, Nat.add_assoc]
theorem entsF_keys (kf : α → Value) : ∀ (l : List α) (k : Nat), ∀ p ∈ entsF kf l k, ∃ a, p.1 = kf a
 | [], k, p, h => by simp [entsF] at h
 | b :: l, k, p, h => by
  rcases List.mem_cons.1 h with rfl | h
  ·exact ⟨b, rfl⟩
  ·exact entsF_keys kf l (k + 1) p h
def MapK (kf : α → Value) (w : World) (r : Nat) (L : List α) : Prop := ∃ es clock, w.heap[r]? = some (.map es clock) ∧ es.toList.map (fun e => (e.key, e.val)) = entsF kf L 0
section
variable {kf : α → Value} {w w' : World} {r B : Nat} {L : List α}
theorem MapK.lt (h : MapK kf w r L) : r < w.heap.size := by
 obtain ⟨es, clock, hb, _⟩ := h
 exact (Array.getElem?_eq_some_iff.1 hb).1
theorem MapK.keep (h : MapK kf w r L) (hb : w'.heap[r]? = w.heap[r]?) : MapK kf w' r L := by
 obtain ⟨es, clock, he, h2⟩ := h
 exact ⟨es, clock, hb.trans he, h2⟩
theorem MapK.below (h : MapK kf w r L) (hb : Below B w w') (hr : r < B) : MapK kf w' r L := h.keep (hb.block r hr)
theorem MapK.new (kf : α → Value) (w : World) : MapK kf (w.alloc (.map #[] 0)) w.heap.size ([] : List α) := ⟨#[], 0, heap_alloc_new w _, rfl⟩
variable [DecidableEq α]
structure KeyWay (P : Program) (kt : TypeId) (kf : α → Value) (ok : α → Prop) (s : α → Value → Bool) : Prop where
 check : ∀ (w : World) (a : α) (b : Bool), (Instr.checkKey b 10000 kt (kf a)).run P w = .ok () w
 find : ∀ (w : World) (x : α) (es : List MapEntry), ok x → (∀ e ∈ es, ∃ a, e.key = kf a) → (Instr.findKey kt (kf x) es).run P w = .ok (findE (s x) es 0) w
 same : ∀ (a x : α), ok a → ok x → s x (kf a) = decide (a = x)
theorem findE_ents {x : α} {s : Value → Bool} : ∀ (es : List MapEntry) (L : List α) (k i : Nat), (∀ a ∈ L, s (kf a) = decide (a = x)) → es.map (fun e => (e.key, e.val)) = entsF kf L k →
  (findE s es i).map (·.2) = if placeF x L k < 0 then none else some (.int .i64 (placeF x L k))
 | [], [], _, _, _, _ => rfl
 | [], _ :: _, _, _, _, h => by simp [entsF] at h
 | _ :: _, [], _, _, _, h => by simp [entsF] at h
 | e :: es, a :: L, k, i, hs, h => by
  simp only [List.map_cons, entsF, List.cons.injEq, Prod.mk.injEq] at h
  obtain ⟨⟨h1, h2⟩, h3⟩ := h
  have ih := findE_ents es L (k + 1) (i + 1) (fun b hb => hs b (List.mem_cons_of_mem _ hb)) h3
  rw [findE, placeF, h1, hs a (List.mem_cons_self ..)]
  by_cases e1 : a = x
  ·rw [decide_eq_true e1, if_pos rfl, if_pos e1, if_neg (by omega), ← h2]
   rfl
  ·rw [decide_eq_false e1, if_neg e1]
   simpa using ih
variable {P : Program} {kt t et : TypeId} {ok : α → Prop} {s : α → Value → Bool} {x : α}
theorem MapK.find (K : KeyWay P kt kf ok s) (h : MapK kf w r L) (hL : ∀ a ∈ L, ok a) (hx : ok x) :
  ∃ es clock, w.heap[r]? = some (.map es clock) ∧ es.toList.map (fun e => (e.key, e.val)) = entsF kf L 0 ∧ (Instr.findKey kt (kf x) es.toList).run P w = .ok (findE (s x) es.toList 0) w ∧
   (findE (s x) es.toList 0).map (·.2) = if placeD L x < 0 then none else some (.int .i64 (placeD L x)) := by
 obtain ⟨es, clock, h1, h2⟩ := h
 refine ⟨es, clock, h1, h2, K.find w x es.toList hx (fun e he => ?_), findE_ents _ _ _ _ (fun a ha => K.same a x (hL a ha) hx) h2⟩
 exact entsF_keys kf L 0 (e.key, e.val) (by rw [← h2]; exact List.mem_map.2 ⟨e, he, rfl⟩)
theorem MapK.look (K : KeyWay P kt kf ok s) (h : MapK kf w r L) (hL : ∀ a ∈ L, ok a) (hx : ok x) (ht : P.underlying t = some (.map kt et)) (hz : (zeroValue et).run P w = .ok (.int .i64 0) w) :
  (Instr.lookup t (.map (some r)) (kf x) true).run P w = .ok (.tuple #[.int .i64 (if placeD L x < 0 then 0 else placeD L x), .bool (decide (0 ≤ placeD L x))]) w := by
 obtain ⟨es, clock, h1, h2, h3, h4⟩ := h.find K hL hx
 rw [run_lookup_found ht h1 (fun b => K.check w x b) hz h3]
 by_cases hn : placeD L x < 0
 ·rw [if_pos hn] at h4 ⊢
  rw [decide_eq_false (by omega)]
  cases hq : findE (s x) es.toList 0 with
  | none => rfl
  | some p => rw [hq] at h4; cases h4
 ·rw [if_neg hn] at h4 ⊢
  rw [decide_eq_true (by omega)]
  cases hq : findE (s x) es.toList 0 with
  | none => rw [hq] at h4; cases h4
  | some p =>
   rw [hq] at h4
   injection h4 with h4
   show Result.ok (Value.tuple #[p.2, .bool true]) w = _
   rw [show p.2 = _ from h4]
theorem MapK.add (K : KeyWay P kt kf ok s) (h : MapK kf w r L) (hL : ∀ a ∈ L, ok a) (hx : ok x) (ht : P.underlying t = some (.map kt et)) (hnew : placeD L x < 0) :
  ∃ o, (Instr.mapUpdate t (.map (some r)) (kf x) (.int .i64 L.length)).run P w = .ok () (w.putObj r o) ∧ MapK kf (w.putObj r o) r (L ++ [x]) := by
 obtain ⟨es, clock, h1, h2, h3, h4⟩ := h.find K hL hx
 rw [if_pos hnew] at h4
 have hf : findE (s x) es.toList 0 = none := by
  cases hq : findE (s x) es.toList 0 with
  | none => rfl
  | some p => rw [hq] at h4; cases h4
 rw [hf] at h3
 refine ⟨_, run_mapUpdate_found ht h1 (fun b => K.check w x b) h3, es.push { key := kf x, val := .int .i64 L.length, born := clock }, clock + 1, ?_, ?_⟩
 ·have hlt := (Array.getElem?_eq_some_iff.1 h1).1
  show (w.heap.setIfInBounds r _)[r]? = _
  rw [Array.getElem?_setIfInBounds_self_of_lt hlt]
 ·rw [Array.toList_push, List.map_append, h2, entsF_snoc, Nat.zero_add]
  rfl
end
end
def TxB (t : List Int) : Prop := ∀ x ∈ t, 0 ≤ x ∧ x < 256
def sameT (x : List Int) : Value → Bool
 | .string c => strOfNums x == c
 | _ => false
theorem bytes_eq_dec {xs ys : List Int} (hx : ∀ x ∈ xs, 0 ≤ x ∧ x < 256) (hy : ∀ x ∈ ys, 0 ≤ x ∧ x < 256) : (strOfNums xs == strOfNums ys) = decide (ys = xs) := by
 by_cases h : ys = xs
 ·subst h
  rw [decide_eq_true rfl]
  exact (Go.MapKept.bytes_beq _ _).2 rfl
 ·rw [decide_eq_false h]
  cases hq : strOfNums xs == strOfNums ys with
  | false => rfl
  | true => exact absurd (str_inj hy hx ((Go.MapKept.bytes_beq _ _).1 hq).symm) h
theorem findNow_texts (x : List Int) : ∀ (es : List MapEntry) (i : Nat), (∀ e ∈ es, ∃ a, e.key = strV a) → Instr.findNow .string (strV x) es i = some (findE (sameT x) es i)
 | [], _, _ => rfl
 | e :: es, i, h => by
  obtain ⟨a, ha⟩ := h e (List.mem_cons_self ..)
  have ih := findNow_texts x es (i + 1) fun e' he => h e' (List.mem_cons_of_mem _ he)
  have hn : Instr.sameNow .string (strV x) (strV a) = some (sameT x (strV a)) := rfl
  rw [Instr.findNow, findE, ha, ih, hn]
  cases sameT x (strV a) <;> rfl
theorem text_way : KeyWay Tryz.prog 9 strV TxB sameT where
 check w a b := by
  rw [show (10000 : Nat) = 9999 + 1 from rfl]
  exact Go.MapKept.run_checkKey (d := .string) (k := strV a) Tryz.underlying9 trivial b 9999
 find w x es _ h := Go.MapKept.run_findKey Tryz.underlying9 (findNow_texts x es 0 h)
 same a x ha hx := by
  unfold sameT strV
  exact bytes_eq_dec hx ha
theorem zero_int13 (w : World) : (zeroValue 3).run Tryz.prog w = .ok (.int .i64 0) w := by
 have h : (Tryz.prog.info? 3).map (fun i => (i.zero, i.size, i.bytes)) = some (some (.int .i64 0), 1, 8) := by kernel_rfl
 obtain ⟨i0, hi, hz0, _, _⟩ := info_parts h
 simp [zeroValue, typeInfo, hi, hz0]
open Go.RowKit Go.ChangeShapes Go.WideShapes
structure DictAt (w : World) (base D r : Nat) (v : Value) (L : List (List Int)) : Prop where
 held : Held w D 287 #[v, .map (some r)]
 own : w.ownsRow base 9 1 v L.length (strVs L)
 map : MapK strV w r L
 hD : base ≤ D
 hr : base ≤ r
 tx : TxOk L
structure DBut (w w' : World) (D r : Nat) (row : Option Nat) : Prop where
 os : w'.os = w.os
 tape : w'.tape = w.tape
 output : w'.output = w.output
 size : w.heap.size ≤ w'.heap.size
 block : ∀ k, k < w.heap.size → k ≠ D → k ≠ r → some k ≠ row → w'.heap[k]? = w.heap[k]?
theorem TxOk.b {L : List (List Int)} (h : TxOk L) : ∀ t ∈ L, TxB t := fun t ht => (h t ht).2
theorem own_not_map {w : World} {r n k : Nat} {e : TypeId} {size : Nat} {v : Value} {us : List Value} {es : Array MapEntry} {cl : Nat} (h : w.ownsRow n e size v k us) (ht : w.heap[r]? = some (.map es cl)) : some r ≠ v.ownBlock := by
 rcases h.2 with ⟨rfl, _⟩ | ⟨g, cap, cur, rfl, _, hg, _⟩
 ·simp [Value.ownBlock]
 ·intro e
  simp only [Value.ownBlock, Option.some.injEq] at e
  subst e
  rw [hg] at ht
  cases ht
theorem own_not_held {w : World} {g n k : Nat} {e t : TypeId} {size : Nat} {v : Value} {us : List Value} {cs : Array Value} (h : w.ownsRow n e size v k us) (ht : Held w g t cs) (hne : e ≠ t) : some g ≠ v.ownBlock := by
 rcases h.2 with ⟨rfl, _⟩ | ⟨g', cap, cur, rfl, _, hg, _⟩
 ·simp [Value.ownBlock]
 ·intro e
  simp only [Value.ownBlock, Option.some.injEq] at e
  subst e
  rw [show w.heap[g]? = _ from ht] at hg
  injection hg with hg
  injection hg with _ e2
  exact hne e2.symm
theorem own_off {w : World} {n k : Nat} {e : TypeId} {size : Nat} {v : Value} {us : List Value} (h : w.ownsRow n e size v k us) {j : Nat} (hj : v.ownBlock = some j) : n ≤ j ∧ j < w.heap.size := h.lt j hj
section
variable {w w' : World} {base D r : Nat} {v : Value} {L : List (List Int)}
theorem DictAt.ne (h : DictAt w base D r v L) : D ≠ r ∧ some D ≠ v.ownBlock ∧ some r ≠ v.ownBlock := by
 obtain ⟨es, cl, he, _⟩ := h.map
 refine ⟨fun e => ?_, own_not_held h.own h.held (by decide), own_not_map h.own he⟩
 have := h.held
 unfold Held at this
 rw [e, he] at this
 cases this
theorem DictAt.below (h : DictAt w base D r v L) (hb : Below w.heap.size w w') : DictAt w' base D r v L :=
 ⟨h.held.below hb h.held.lt, own_below h.own hb, h.map.below hb h.map.lt, h.hD, h.hr, h.tx⟩
theorem DictAt.form (h : DictAt w base D r v L) : ∃ A c, v = .slice A L.length c ∧ L.length ≤ c ∧ c ≤ 9223372036854775807 := by
 obtain ⟨A, c, e, h1, h2⟩ := (ERow.of_own h.own).form
 exact ⟨A, c, e, h1, h2⟩
theorem DBut.below {n : Nat} (h : DBut w w' D r v.ownBlock) (hn : n ≤ w.heap.size) (hd : DictAt w n D r v L) : Below n w w' :=
 ⟨h.os, h.tape, h.output, h.size, fun k hk => h.block k (by omega) (by have := hd.hD; omega) (by have := hd.hr; omega) (fun e => by have := (own_off hd.own e.symm).1; omega)⟩
theorem DBut.refl (w : World) (D r : Nat) (row : Option Nat) : DBut w w D r row := ⟨rfl, rfl, rfl, Nat.le_refl _, fun _ _ _ _ _ => rfl⟩
end
theorem run_append_erow_at {P : Program} (w : World) (base : Nat) (t ty e : TypeId) (i : TypeInfo) (z : Value) (size bytes : Nat) (ht : P.underlying t = some (.slice e)) (hi : P.info? e = some i) (hz : i.zero = some z)
  (hsize : i.size = size) (hby : i.bytes = bytes) (hzs : z.cells.size = size) (hsz : 0 < size) (v : Value) (n : Nat) (xs : List Value) (hown : w.ownsRow base e size v n xs)
  (B : Nat) (sv : Value) (m : Nat) (us : List Value) (hr : ERow w B sv m us) (hl : us.length = m * size) (h1 : ∀ u ∈ us, u.oneCell' = true) (h63 : n + m ≤ maxLen) (hbytes : (n + m) * bytes ≤ 140737488355328) (hbase : base ≤ w.heap.size) :
  ∃ v' w', (Builtin.append_ #[t, t] ty #[v, sv]).run P w = .ok v' w' ∧ w'.ownsRow base e size v' (n + m) (xs ++ us) ∧ w.grownBy w' v.ownBlock ∧ (v'.ownBlock = v.ownBlock ∨ v'.ownBlock = some w.heap.size) := by
 obtain ⟨A, c, rfl, q1, q2, q3, q4⟩ := hr
 rcases A with _ | ad
 ·obtain rfl := q3 rfl
  obtain rfl : m = 0 := by omega
  have hu : us = [] := List.eq_nil_of_length_eq_zero (by omega)
  subst hu
  refine ⟨v, w, run_append_owned_none w base t ty e i size ht hi v n xs hown, by rw [Nat.add_zero, List.append_nil]; exact hown, World.grownBy.refl _ _, .inl rfl⟩
 ·obtain ⟨v', w', r1, r2, r3, _, r4⟩ := run_append_own_at (P := P) w base t ty e i z size bytes ht hi hz hsize hby hzs hsz v n xs hown ad m c us hl (fun j u hu => by
   have hj := (List.getElem?_eq_some_iff.1 hu).1
   have hm : 0 < m := by
    rcases Nat.eq_zero_or_pos m with h | h
    ·rw [h] at hl; omega
    ·exact h
   obtain ⟨b, o, he, _, hc⟩ := q4 hm
   injection he with he
   subst he
   rw [add_plain]
   exact hc j u hu) h1 h63 hbytes hbase
  exact ⟨v', w', r1, r2, r3, r4⟩
theorem wpList_append_erow {P : Program} (w : World) {ops : Array Oper} {rest : List Oper} {o : Oper} {a : Act} {Q : Exit → Act → World → Prop}
  (hg : o.guard = none) (s x : Operand) (t e : TypeId) (hop : o.op = Op.call { callee := Callee.builtin Builtin.append, args := #[s, x], argTypes := #[t, t] })
  (base : Nat) (i : TypeInfo) (z : Value) (size bytes : Nat) (ht : P.underlying t = some (.slice e)) (hi : P.info? e = some i) (hz : i.zero = some z) (hsize : i.size = size) (hby : i.bytes = bytes) (hzs : z.cells.size = size) (hsz : 0 < size)
  (v : Value) (n : Nat) (xs : List Value) (hs : a.eval s = v) (hown : w.ownsRow base e size v n xs) (B : Nat) (sv : Value) (m : Nat) (us : List Value) (hx : a.eval x = sv) (hr : ERow w B sv m us) (hl : us.length = m * size) (h1 : ∀ u ∈ us, u.oneCell' = true)
  (h63 : n + m ≤ maxLen) (hbytes : (n + m) * bytes ≤ 140737488355328) (hbase : base ≤ w.heap.size) (N : Nat) (hN : n + m = N) (ys : List Value) (hys : xs ++ us = ys)
  (hK : ∀ A c w', w'.ownsRow base e size (.slice A N c) N ys → w.grownBy w' v.ownBlock → ((Value.slice A N c).ownBlock = v.ownBlock ∨ (Value.slice A N c).ownBlock = some w.heap.size) → wpList P ops Q rest (a.put o.dst (.slice A N c)) w') :
  wpList P ops Q (o :: rest) a w := by
 subst hN hys
 obtain ⟨v', w', hrun, h2, h3, h4⟩ := run_append_erow_at (P := P) w base t o.type e i z size bytes ht hi hz hsize hby hzs hsz v n xs hown B sv m us hr hl h1 h63 hbytes hbase
 obtain ⟨A, c, rfl⟩ := own_form h2
 refine wpList_plain hg fun K hK' => ?_
 unfold Oper.wp
 simp [execOp, hop, resolve, invoke, builtin, hs, hx, hrun, Result.andThen]
 exact hK' _ _ (hK A c w' h2 h3 h4)
theorem strVs_one (L : List (List Int)) : ∀ u ∈ strVs L, u.oneCell' = true := fun u hu => by
 obtain ⟨t, _, rfl⟩ := List.mem_map.1 hu
 rfl
theorem own_nil (w : World) (base : Nat) (e : TypeId) : w.ownsRow base e 1 (.slice none 0 0) 0 [] := ⟨rfl, .inl ⟨rfl, rfl⟩⟩
end Go.Proofs.YtnlfcmbpocdpjaaGreat
