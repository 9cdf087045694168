/-
  What sig's Name and Check answer.
-/
import Derived.Test.YtlmpicfhbpnpbaaSigKeys
import Derived.Test.YtlmpicfhbpnpbaaSigKit
import Derived.Test.YtlmpicfhbpnpbaaPredRows
import Derived.Carry
namespace Go.Proofs.Ytlmpicfhbpnpbaa
open Go.RowKit

theorem dig_any (c : Int) (w : World) : Calls Try.prog 77 #[.int .u8 c] w fun e w' => e = .returned (.bool (inB c 48 57)) ∧ w = w' := by
  by_cases h1 : 48 ≤ c
  · by_cases h2 : c ≤ 57
    · have e : inB c 48 57 = true := by simp [inB, h1, h2]
      rw [e]
      go_enter Try.func77, Try.ntmps77
      go_wp2_with fail
      go_ret
      exact ⟨rfl, rfl⟩
    · have e : inB c 48 57 = false := by simp [inB, h2]
      rw [e]
      go_enter Try.func77, Try.ntmps77
      go_wp2_with fail
      go_ret
      exact ⟨rfl, rfl⟩
  · have e : inB c 48 57 = false := by simp [inB, h1]
    rw [e]
    go_enter Try.func77, Try.ntmps77
    go_wp2_with fail
    go_ret
    exact ⟨rfl, rfl⟩

/-- A byte that may stand anywhere in a name. -/
def letB (c : Int) : Bool := inB c 65 90 || inB c 97 122 || decide (c = 95)
theorem nameB_parts (c : Int) : nameB c = (inB c 48 57 || letB c) := by
  unfold nameB letB
  cases inB c 65 90 <;> cases inB c 97 122 <;> cases inB c 48 57 <;> cases decide (c = 95) <;> rfl
theorem let_any (c : Int) (w : World) : Calls Try.prog 78 #[.int .u8 c] w fun e w' => e = .returned (.bool (letB c)) ∧ w = w' := by
  have h95 : ∀ b, decide (c = 95) = b → (c == 95) = b := fun b h => by rw [← h]; rfl
  by_cases a1 : 65 ≤ c <;> by_cases a2 : c ≤ 90 <;> by_cases a3 : 97 ≤ c <;> by_cases a4 : c ≤ 122 <;> first
    | (exfalso; omega)
    | (have e : letB c = true := by simp [letB, inB, a1, a2, a3, a4]
       rw [e]
       clear h95 e
       go_enter Try.func78, Try.ntmps78
       go_wp2_with fail
       go_ret
       exact ⟨rfl, rfl⟩)
    | (cases a5 : decide (c = 95) with
       | true =>
         have e : letB c = true := by simp [letB, a5]
         have h := h95 _ a5
         rw [e]
         clear h95 e a5
         go_enter Try.func78, Try.ntmps78
         go_wp2_with fail
         go_ret
         exact ⟨rfl, rfl⟩
       | false =>
         have e : letB c = false := by simp [letB, inB, a1, a2, a3, a4, a5]
         have h := h95 _ a5
         rw [e]
         clear h95 e a5
         go_enter Try.func78, Try.ntmps78
         go_wp2_with fail
         go_ret
         exact ⟨rfl, rfl⟩)

set_option maxRecDepth 100000 in
set_option maxHeartbeats 1000000 in
theorem sname_is (xs : List Int) (hb : ∀ x ∈ xs, 0 ≤ x ∧ x < 256) (hl : xs.length ≤ 9223372036854775807) (w : World) :
    Calls Try.prog 46 #[.string (strOfNums xs)] w fun e w' => e = .returned (.bool (okName xs)) ∧ w = w' := by
  have hsz := strOfNums_size xs
  by_cases h0 : xs = []
  · subst h0
    have e : okName [] = false := rfl
    rw [e]
    clear e
    go_enter Try.func46, Try.ntmps46
    go_wp2_with fail
    go_ret
    exact ⟨rfl, rfl⟩
  · have hpos : 0 < xs.length := by cases xs with | nil => exact absurd rfl h0 | cons _ _ => simp
    have hnz : ((xs.length : Int) == 0) = false := beq_eq_false_iff_ne.2 (by omega)
    clear h0
    by_cases h32 : 32 < xs.length
    · have h32i : (32 : Int) < (xs.length : Int) := by omega
      have e : okName xs = false := by simp [okName, show ¬ xs.length ≤ 32 by omega]
      rw [e]
      clear e
      go_enter Try.func46, Try.ntmps46
      go_wp2_with fail
      go_ret
      exact ⟨rfl, rfl⟩
    · have hat0 := str_at xs hb 0 hpos (by omega)
      have hle : (xs.length : Int) ≤ 32 := by omega
      obtain ⟨y, hy⟩ : ∃ y, xs.getD 0 0 = y := ⟨_, rfl⟩
      rw [hy] at hat0
      cases hd : inB y 48 57 with
      | true =>
        have e : okName xs = false := by unfold okName; rw [hy, hd]; simp
        rw [e]
        clear e hy
        have HI := Lib.hid (fun w => dig_any y w)
        rw [hd] at HI
        clear hd
        go_enter Try.func46, Try.ntmps46
        go_wp2_with fail
        refine (HI.out _).mono ?_
        rintro e w1 ⟨rfl, rfl⟩
        go_wp2_with fail
        go_ret
        exact ⟨rfl, rfl⟩
      | false =>
        have HOK := Lib.hid (show okName xs = xs.all nameB by unfold okName; rw [hy, hd]; simp [hpos, show xs.length ≤ 32 by omega])
        have HI := Lib.hid (fun w => dig_any y w)
        rw [hd] at HI
        clear hd hy
        have HB := Lib.hid hb
        clear hb
        go_enter Try.func46, Try.ntmps46
        go_wp2_with fail
        refine (HI.out _).mono ?_
        rintro e w1 ⟨rfl, rfl⟩
        clear hat0
        go_wp2_with fail
        go_loopw [19] (fun i wr => ∃ k : Nat, k ≤ xs.length ∧ i = .int .i64 k ∧ Hid (∀ j, j < k → nameB (xs.getD j 0) = true) ∧ w = wr) (fun i _ => xs.length - (intOf i).toNat)
        case atStart => exact ⟨0, Nat.zero_le _, rfl, Lib.hid (fun j h => absurd h (Nat.not_lt_zero _)), rfl⟩
        case round =>
          obtain ⟨k, hk, rfl, HJ, rfl⟩ := hrel
          by_cases hlt : k < xs.length
          · have hat := str_at xs HB.out k hlt (by omega)
            obtain ⟨z, hz⟩ : ∃ z, xs.getD k 0 = z := ⟨_, rfl⟩
            rw [hz] at hat
            have HZ := Lib.hid hz
            clear hz
            have H1 := Lib.hid (fun w => dig_any z w)
            have H2 := Lib.hid (fun w => let_any z w)
            have hall : nameB z = true → Hid (∀ j, j < k + 1 → nameB (xs.getD j 0) = true) := fun h => Lib.hid (step_lt (P := fun j => nameB (xs.getD j 0) = true) HJ.out (by rw [HZ.out]; exact h))
            cases h1 : inB z 48 57 with
            | true =>
              have HJ2 := hall (by rw [nameB_parts, h1]; rfl)
              rw [h1] at H1
              clear h1 hall
              go_wp2_with fail
              refine (H1.out _).mono ?_
              rintro e w1 ⟨rfl, rfl⟩
              go_wp2_with fail
              go_roundw
              case rel => exact ⟨k + 1, by omega, by go_num, HJ2, trivial⟩
              case measure => simp [intOf]; omega
            | false =>
              cases h2 : letB z with
              | true =>
                have HJ2 := hall (by rw [nameB_parts, h1, h2]; rfl)
                rw [h1] at H1
                rw [h2] at H2
                clear h1 h2 hall
                go_wp2_with fail
                refine (H1.out _).mono ?_
                rintro e w1 ⟨rfl, rfl⟩
                go_wp2_with fail
                refine (H2.out _).mono ?_
                rintro e w1 ⟨rfl, rfl⟩
                go_wp2_with fail
                go_roundw
                case rel => exact ⟨k + 1, by omega, by go_num, HJ2, trivial⟩
                case measure => simp [intOf]; omega
              | false =>
                have hn : nameB z = false := by rw [nameB_parts, h1, h2]; rfl
                have HE := Lib.hid (HOK.out.trans (show xs.all nameB = false from by
                  rw [← Bool.not_eq_true, List.all_eq_true]
                  intro h
                  have := h z (by rw [← HZ.out, List.getD, List.getElem?_eq_getElem hlt]; simp)
                  rw [hn] at this
                  cases this))
                rw [h1] at H1
                rw [h2] at H2
                clear h1 h2 hall hn
                go_wp2_with fail
                refine (H1.out _).mono ?_
                rintro e w1 ⟨rfl, rfl⟩
                go_wp2_with fail
                refine (H2.out _).mono ?_
                rintro e w1 ⟨rfl, rfl⟩
                go_wp2_with fail
                go_ret
                exact ⟨by rw [HE.out]; rfl, rfl⟩
          · obtain rfl : k = xs.length := by omega
            have e : xs.all nameB = true := nameB_all HJ.out
            have HE := Lib.hid (HOK.out.trans e)
            clear e
            go_wp2_with fail
            go_ret
            exact ⟨by rw [HE.out]; rfl, rfl⟩
theorem sname_any : NameC := fun xs w hb hl => (sname_is xs hb hl w).mono fun _ _ h => ⟨h.1, h.2 ▸ Below.refl _ _⟩
#print axioms sname_any
end Go.Proofs.Ytlmpicfhbpnpbaa

namespace Go.Proofs.Ytlmpicfhbpnpbaa
open Go.RowKit

/-- What is wrong with a predicate's arguments; 0. -/
def whyA (ts : List Int) : Int := if 8 < ts.length then 6 else if ts.all (fun t => inB t 1 2) = false then 7 else 0
theorem whyP_args {l : List Pr} {i : Nat} {p : Pr} (hp : l[i]? = some p) (h1 : okName p.name = true) (h2 : ¬ findP l p.name < i) : whyP l i = whyA p.args := by
  unfold whyP whyA
  rw [getD_pr hp, if_neg (by rw [h1]; simp [h2])]
theorem whyA_7 {ts : List Int} (h : ¬ 8 < ts.length) {m : Nat} (hm : m < ts.length) (h4 : inB (ts.getD m 0) 1 2 = false) : whyA ts = 7 := by
  unfold whyA
  rw [if_neg h, if_pos]
  rw [← Bool.not_eq_true, List.all_eq_true]
  intro h
  have := h (ts.getD m 0) (by rw [List.getD, List.getElem?_eq_getElem hm]; simp)
  rw [h4] at this
  cases this
theorem whyA_0 {ts : List Int} (h : ¬ 8 < ts.length) (h4 : ∀ m, m < ts.length → inB (ts.getD m 0) 1 2 = true) : whyA ts = 0 := by
  unfold whyA
  rw [if_neg h, if_neg]
  rw [Bool.not_eq_false, List.all_eq_true]
  intro x hx
  obtain ⟨k, hk, e⟩ := List.getElem_of_mem hx
  have := h4 k hk
  rw [List.getD, List.getElem?_eq_getElem hk] at this
  simpa [e] using this

set_option maxRecDepth 100000 in
set_option maxHeartbeats 1000000 in
theorem sargs_any (A : Option Addr) (c : Nat) (ts : List Int) (w : World) (hrow : IRow w w.heap.size (.slice A ts.length c) ts) :
    Calls Try.prog 48 #[.slice A ts.length c] w fun e w' => e = .returned (.int .i64 (whyA ts)) ∧ w = w' := by
  by_cases h5 : 8 < ts.length
  · have h5i : (8 : Int) < (ts.length : Int) := by omega
    rw [show whyA ts = 6 from if_pos h5]
    clear hrow
    go_enter Try.func48, Try.ntmps48
    go_wp2_with fail
    go_ret
    exact ⟨rfl, rfl⟩
  · have HW7 := Lib.hid (fun m hm h4 => @whyA_7 ts h5 m hm h4)
    have HW0 := Lib.hid (fun h4 => @whyA_0 ts h5 h4)
    have h5i : (ts.length : Int) ≤ 8 := by omega
    have HIR := Lib.hid hrow
    clear h5 hrow
    generalize whyA ts = R at HW7 HW0 ⊢
    go_enter Try.func48, Try.ntmps48
    go_wp2_with fail
    go_loopg [10] ts.length (fun gm i wr => ∃ m : Nat, m ≤ ts.length ∧ i = .int .i64 m ∧ Hid (ts.length - m = gm) ∧ Hid (∀ j, j < m → inB (ts.getD j 0) 1 2 = true) ∧ w = wr)
    case atStart => exact ⟨0, Nat.zero_le _, rfl, Lib.hid rfl, Lib.hid (fun j h => absurd h (Nat.not_lt_zero _)), rfl⟩
    case round =>
      obtain ⟨m, hm, rfl, HGM, HI, rfl⟩ := hrel
      by_cases hml : m < ts.length
      · obtain ⟨b2, o2, rfl, hb2, ht⟩ := HIR.out.at hml
        obtain ⟨t, hT⟩ : ∃ t, ts.getD m 0 = t := ⟨_, rfl⟩
        rw [hT] at ht
        cases h6 : inB t 1 2 with
        | true =>
          have HI2 := Lib.hid (step_lt (P := fun j => inB (ts.getD j 0) 1 2 = true) HI.out (by rw [hT]; exact h6))
          obtain ⟨t1, t2⟩ : 1 ≤ t ∧ t ≤ 2 := by simpa [inB] using h6
          clear h6 hT
          rcases (by omega : t = 1 ∨ t = 2) with rfl | rfl
          · go_wp2_with fail
            go_roundg (ts.length - (m + 1))
            case measure => have := HGM.out; omega
            case rel => exact ⟨m + 1, by omega, by go_num, Lib.hid rfl, HI2, rfl⟩
          · go_wp2_with fail
            go_roundg (ts.length - (m + 1))
            case measure => have := HGM.out; omega
            case rel => exact ⟨m + 1, by omega, by go_num, Lib.hid rfl, HI2, rfl⟩
        | false =>
          have HR := Lib.hid (HW7.out m hml (by rw [hT]; exact h6))
          have hn12 : t ≠ 1 ∧ t ≠ 2 := by
            refine ⟨fun e => ?_, fun e => ?_⟩ <;> subst e <;> simp [inB] at h6
          have hn1 : (t != 1) = true := bne_iff_ne.2 hn12.1
          have hn2 : (t != 2) = true := bne_iff_ne.2 hn12.2
          clear h6 hT hn12
          go_wp2_with fail
          go_ret
          exact ⟨by rw [HR.out]; rfl, rfl⟩
      · obtain rfl : m = ts.length := by omega
        have HR := Lib.hid (HW0.out HI.out)
        go_wp2_with fail
        go_ret
        exact ⟨by rw [HR.out]; rfl, rfl⟩
#print axioms sargs_any

set_option maxRecDepth 100000 in
set_option maxHeartbeats 2000000 in
theorem scheck_any : CheckC := by
  intro A c ds w hrow
  obtain ⟨_, hc1, hc2⟩ : ∃ _ : True, ds.length ≤ c ∧ c ≤ 9223372036854775807 := by
    obtain ⟨A', c', hv, q1, q2⟩ := hrow.form
    injection hv with _ _ e3
    exact ⟨trivial, by omega, by omega⟩
  have hml : (ds.map (·.p)).length = ds.length := List.length_map _
  by_cases hgt : 64 < ds.length
  · have hgi : (64 : Int) < (ds.length : Int) := by omega
    rw [checkP_many (by omega)]
    go_enter Try.func24, Try.ntmps24
    go_wp2_with fail
    go_ret
    exact ⟨rfl, Below.refl _ _⟩
  have hfound := fun (r : Nat) (hr : r < ds.length) => @checkP_found (ds.map (·.p)) (by omega) r (by omega)
  have hnone := fun h => @checkP_none (ds.map (·.p)) (by omega) h
  generalize checkP (ds.map (·.p)) = R at hfound hnone ⊢
  have hle : (ds.length : Int) ≤ 64 := by omega
  have HF := Lib.hid hfound
  have HNO := Lib.hid hnone
  have HROW := Lib.hid hrow
  have HBY := Lib.hid hrow.bytes
  have HFI := Lib.hid (firsts_any A c ds w hrow)
  have HML := Lib.hid hml
  clear hfound hnone hrow hml hgt
  go_enter Try.func24, Try.ntmps24
  go_wp2_with fail
  refine HFI.out.mono ?_
  rintro e w0 ⟨L, rfl, hkp, hm0, hb0⟩
  have HNB := Lib.hid (hkp.names HBY.out)
  have HKP := Lib.hid hkp
  have HM0 := Lib.hid hm0
  obtain ⟨r, hr⟩ : ∃ r, w.heap.size = r := ⟨_, rfl⟩
  rw [hr] at HM0 hb0 HROW ⊢
  have HB0 := Lib.hid hb0
  clear hkp hm0 hb0
  go_wp2_with fail
  go_loopg [14] ds.length (fun gk i wr => ∃ k : Nat, k ≤ ds.length ∧ i = .int .i64 k ∧ Hid (ds.length - k = gk) ∧ Hid (∀ j, j < k → whyP (ds.map (·.p)) j = 0) ∧ Hid (MapOf wr r L) ∧ Hid (Below r w wr))
  case atStart => exact ⟨0, Nat.zero_le _, rfl, Lib.hid rfl, Lib.hid (fun j h => absurd h (Nat.not_lt_zero _)), HM0, HB0⟩
  case round =>
    obtain ⟨k, hk, rfl, HGK, HJ, HM, HBR⟩ := hrel
    have hlr := HM.out.lt
    by_cases hlt : k < ds.length
    · obtain ⟨d, hd⟩ : ∃ d, ds[k]? = some d := ⟨_, List.getElem?_eq_getElem hlt⟩
      have HD := Lib.hid (at_pr hd)
      obtain ⟨b, o, rfl, hb, x0, x1, hir, hfit, ha1, ha2⟩ := (HROW.out.below HBR.out).at hd
      obtain ⟨dA, hdA⟩ : ∃ dA, d.A = dA := ⟨_, rfl⟩
      rw [hdA] at x1 hir
      have HFT := Lib.hid hfit
      obtain ⟨w1, hw1⟩ : ∃ w1, wr.alloc (.cells #[.string (strOfNums d.p.name), .slice dA d.p.args.length d.c] 59) = w1 := ⟨_, rfl⟩
      have s1 : w1.heap.size = wr.heap.size + 1 := by rw [← hw1]; simp
      have b1 : Below wr.heap.size wr w1 := by rw [← hw1]; exact (Below.refl _ _).alloc (Nat.le_refl _) _
      have h1 : Held w1 wr.heap.size 59 #[.string (strOfNums d.p.name), .slice dA d.p.args.length d.c] := by rw [← hw1]; exact heap_alloc_new wr _
      have HP1 := Lib.hid h1
      have HM1 := Lib.hid (HM.out.below b1 hlr)
      have HB1 := Lib.hid (HBR.out.trans (b1.mono (Nat.le_of_lt hlr)))
      have HIR1 := Lib.hid (hir.below (b1.mono (Nat.le_of_lt hlr)))
      have p0 := h1.cell 0
      have hl1 : wr.heap.size < w1.heap.size := by omega
      simp at p0
      have HNAME := Lib.hid (sname_any d.p.name w1 hfit.2.1 hfit.1)
      have HKY := Lib.hid (fun W => key_any (strOfNums d.p.name) dA d.p.args.length d.c W)
      clear h1 b1 hir hfit hd hdA
      go_wp2_with fail
      refine HNAME.out.mono ?_
      rintro e w2 ⟨rfl, hb2⟩
      have hz2 : w1.heap.size ≤ w2.heap.size := hb2.size
      have HM2 := Lib.hid (HM1.out.below hb2 (by omega))
      have HB2 := Lib.hid (HB1.out.trans (hb2.mono (by omega)))
      have HP2 := Lib.hid (HP1.out.below hb2 (by omega))
      have HIR2 := Lib.hid (HIR1.out.below (hb2.mono (by omega)))
      clear hb2 p0 x0 x1
      have p0 := HP2.out.cell 0
      have p1 := HP2.out.cell 1
      have hl2 := HP2.out.lt
      simp at p0 p1
      cases h1 : okName d.p.name with
      | false =>
        have hw := whyP_9 HD.out (.inl h1)
        have HR := Lib.hid ((HF.out k hlt HJ.out (by rw [hw]; decide)).trans hw)
        clear h1 hw
        go_wp2_with fail
        go_ret
        exact ⟨by rw [HR.out]; rfl, by rw [hr]; exact HB2.out⟩
      | true =>
        go_wp2_with fail
        refine (HKY.out _).mono ?_
        rintro e w3 ⟨rfl, hb3⟩
        have hz3 : w2.heap.size ≤ w3.heap.size := hb3.size
        have HM3 := Lib.hid (HM2.out.below hb3 (by omega))
        have HB3 := Lib.hid (HB2.out.trans (hb3.mono (by omega)))
        have HP3 := Lib.hid (HP2.out.below hb3 (by omega))
        have HIR3 := Lib.hid ((HIR2.out.below (hb3.mono (by omega))).more (B' := w3.heap.size) (by omega))
        clear hb3 p0 p1
        have p1 := HP3.out.cell 1
        have hl3 := HP3.out.lt
        simp at p1
        have hlk := HM3.out.look HNB.out HFT.out.2.1 (t := 90) Try.underlying90 (zero_int w3) false
        rcases HKP.out.look d.p.name with ⟨e1, e2⟩ | ⟨j, e1, e2, _⟩
        · exfalso
          have : ¬ findP (ds.map (·.p)) d.p.name < 0 ∨ findP (ds.map (·.p)) d.p.name = -1 := .inr e1
          rcases findP_ways (ds.map (·.p)) d.p.name with ⟨_, hn⟩ | ⟨r', _, e3, _⟩
          · exact hn k d.p HD.out rfl
          · omega
        · rw [e2] at hlk
          simp only [Bool.false_eq_true, if_false] at hlk
          by_cases hjk : j = k
          · subst hjk
            have hnf : ¬ findP (ds.map (·.p)) d.p.name < (j : Int) := by omega
            have hwa := whyP_args HD.out h1 hnf
            have HSA := Lib.hid (sargs_any dA d.c d.p.args w3 HIR3.out)
            clear e1 e2 hnf h1
            by_cases h0 : whyA d.p.args = 0
            · have HJ2 := Lib.hid (step_lt HJ.out (hwa.trans h0))
              rw [h0] at HSA
              clear hwa h0
              go_wp2_with fail
              refine HSA.out.mono ?_
              rintro e w4 ⟨rfl, rfl⟩
              go_wp2_with fail
              go_roundg (ds.length - (j + 1))
              case measure => have := HGK.out; omega
              case rel => exact ⟨j + 1, by omega, by go_num, Lib.hid rfl, HJ2, HM3, HB3⟩
            · have HR := Lib.hid ((HF.out j hlt HJ.out (by rw [hwa]; exact h0)).trans hwa)
              have hne : (whyA d.p.args != 0) = true := bne_iff_ne.2 h0
              generalize whyA d.p.args = Y at HSA HR hne
              clear hwa h0
              go_wp2_with fail
              refine HSA.out.mono ?_
              rintro e w4 ⟨rfl, rfl⟩
              go_wp2_with fail
              go_ret
              exact ⟨by rw [HR.out]; rfl, by rw [hr]; exact HB3.out⟩
          · have hnf := (find_self HD.out)
            have hjlt : findP (ds.map (·.p)) d.p.name < (k : Int) := by
              rcases findP_ways (ds.map (·.p)) d.p.name with ⟨e3, hn⟩ | ⟨r', q, e3, q1, q2, q3⟩
              · omega
              · rcases Nat.lt_trichotomy r' k with h | h | h
                · omega
                · omega
                · exact absurd rfl (q3 k d.p h HD.out)
            have hw := whyP_9 HD.out (.inr hjlt)
            have HR := Lib.hid ((HF.out k hlt HJ.out (by rw [hw]; decide)).trans hw)
            have hne : ((j : Int) != (k : Int)) = true := bne_iff_ne.2 (by omega)
            clear hnf hjlt hw e1 e2 h1
            go_wp2_with fail
            go_ret
            exact ⟨by rw [HR.out]; rfl, by rw [hr]; exact HB3.out⟩
    · obtain rfl : k = ds.length := by omega
      have HR := Lib.hid (HNO.out (fun j hj => HJ.out j (by rw [HML.out] at hj; exact hj)))
      go_wp2_with fail
      go_ret
      exact ⟨by rw [HR.out]; rfl, by rw [hr]; exact HBR.out⟩
#print axioms scheck_any
end Go.Proofs.Ytlmpicfhbpnpbaa
