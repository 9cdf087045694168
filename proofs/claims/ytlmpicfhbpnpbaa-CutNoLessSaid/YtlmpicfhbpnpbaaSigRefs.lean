/-
  The document's own answers for signatures: what a name is, which predicate has one, why one may not be.
-/
import Derived.Test.YtlmpicfhbpnpbaaRows
import Derived.Test.YtlmpicfhbpnpbaaPlainSigs
import Derived.Test.YtlmpicfhbpnpbaaSlices
import Derived.WalkKit
import Derived.WalkSpells
import Derived.WalkLawsBesides
import Derived.LoopTactic
import Derived.Lib.Hide
import Derived.Lib.Strings
import Derived.Test.YtlmpicfhbpnpbaaPreds
import Derived.Deep.LoopGhost
namespace Go.Proofs.Ytlmpicfhbpnpbaa
open Go.RowKit

theorem in_any (c low high : Int) (w : World) : Calls Try.prog 79 #[.int .u8 c, .int .u8 low, .int .u8 high] w fun e w' => e = .returned (.bool (inB c low high)) ∧ w = w' := by
  by_cases h1 : low ≤ c
  · by_cases h2 : c ≤ high
    · have e : inB c low high = true := by simp [inB, h1, h2]
      rw [e]
      go_enter Try.func79, Try.ntmps79
      go_wp2_with fail
      go_ret
      exact ⟨rfl, rfl⟩
    · have e : inB c low high = false := by simp [inB, h2]
      rw [e]
      go_enter Try.func79, Try.ntmps79
      go_wp2_with fail
      go_ret
      exact ⟨rfl, rfl⟩
  · have e : inB c low high = false := by simp [inB, h1]
    rw [e]
    go_enter Try.func79, Try.ntmps79
    go_wp2_with fail
    go_ret
    exact ⟨rfl, rfl⟩

theorem str_empty (xs : List Int) : (strOfNums xs).toList.isEmpty = xs.isEmpty := by
  rw [Lib.toList_data, strOfNums_data]
  cases xs <;> rfl
/-- What '==' of two texts comes to. -/
theorem str_eq_dec {xs ys : List Int} (hx : ∀ x ∈ xs, 0 ≤ x ∧ x < 256) (hy : ∀ y ∈ ys, 0 ≤ y ∧ y < 256) : ((strOfNums xs).toList == (strOfNums ys).toList) = decide (xs = ys) := by
  by_cases h : xs = ys
  · subst h; simp
  · rw [decide_eq_false h, beq_eq_false_iff_ne]
    intro e
    rw [Lib.toList_data, Lib.toList_data] at e
    refine h (str_inj hx hy ?_)
    rw [← Lib.mk_data (strOfNums xs), ← Lib.mk_data (strOfNums ys), e]
theorem str_ne {xs ys : List Int} (hx : ∀ x ∈ xs, 0 ≤ x ∧ x < 256) (hy : ∀ y ∈ ys, 0 ≤ y ∧ y < 256) (h : xs ≠ ys) : ((strOfNums xs).toList == (strOfNums ys).toList) = false := by rw [str_eq_dec hx hy, decide_eq_false h]
theorem nameB_all {s : List Int} (h : ∀ k, k < s.length → nameB (s.getD k 0) = true) : s.all nameB = true := by
  rw [List.all_eq_true]
  intro x hx
  obtain ⟨k, hk, e⟩ := List.getElem_of_mem hx
  have := h k hk
  rw [List.getD, List.getElem?_eq_getElem hk] at this
  simpa [e] using this

set_option maxRecDepth 100000 in
set_option maxHeartbeats 1000000 in
theorem rname_any (xs : List Int) (hb : ∀ x ∈ xs, 0 ≤ x ∧ x < 256) (hl : xs.length ≤ 9223372036854775807) (w : World) :
    Calls Try.prog 49 #[.string (strOfNums xs)] w fun e w' => e = .returned (.bool (okName xs)) ∧ w = w' := by
  have hsz := strOfNums_size xs
  have hemp := str_empty xs
  by_cases h0 : xs = []
  · subst h0
    rw [show ([] : List Int).isEmpty = true from rfl] at hemp
    have e : okName [] = false := rfl
    rw [e]
    clear e
    go_enter Try.func49, Try.ntmps49
    go_wp2_with fail
    go_ret
    exact ⟨rfl, rfl⟩
  · have hpos : 0 < xs.length := by cases xs with | nil => exact absurd rfl h0 | cons _ _ => simp
    have hne : (strOfNums xs).toList.isEmpty = false := by rw [hemp]; cases xs with | nil => exact absurd rfl h0 | cons _ _ => rfl
    clear hemp h0
    by_cases h32 : 32 < xs.length
    · have h32i : (32 : Int) < (xs.length : Int) := by omega
      have e : okName xs = false := by simp [okName, show ¬ xs.length ≤ 32 by omega]
      rw [e]
      clear e
      go_enter Try.func49, Try.ntmps49
      go_wp2_with fail
      go_ret
      exact ⟨rfl, rfl⟩
    · have hat0 := str_at xs hb 0 hpos (by omega)
      have hle : (xs.length : Int) ≤ 32 := by omega
      obtain ⟨y, hy⟩ : ∃ y, xs.getD 0 0 = y := ⟨_, rfl⟩
      rw [hy] at hat0
      cases hd : inB y 48 57 with
      | true =>
        have e : okName xs = false := by unfold okName; rw [hy, hd]; simp
        rw [e]
        clear e hy
        have HI := Lib.hid (fun w => in_any y 48 57 w)
        rw [hd] at HI
        clear hd
        go_enter Try.func49, Try.ntmps49
        go_wp2_with fail
        refine (HI.out _).mono ?_
        rintro e w1 ⟨rfl, rfl⟩
        go_wp2_with fail
        go_ret
        exact ⟨rfl, rfl⟩
      | false =>
        have HOK := Lib.hid (show okName xs = xs.all nameB by unfold okName; rw [hy, hd]; simp [hpos, show xs.length ≤ 32 by omega])
        have HI := Lib.hid (fun w => in_any y 48 57 w)
        rw [hd] at HI
        clear hd hy
        have HB := Lib.hid hb
        clear hb
        go_enter Try.func49, Try.ntmps49
        go_wp2_with fail
        refine (HI.out _).mono ?_
        rintro e w1 ⟨rfl, rfl⟩
        clear hat0
        go_wp2_with fail
        go_loopw [3] (fun i wr => ∃ k : Nat, k ≤ xs.length ∧ i = .int .i64 k ∧ Hid (∀ j, j < k → nameB (xs.getD j 0) = true) ∧ w = wr) (fun i _ => xs.length - (intOf i).toNat)
        case atStart => exact ⟨0, Nat.zero_le _, rfl, Lib.hid (fun j h => absurd h (Nat.not_lt_zero _)), rfl⟩
        case round =>
          obtain ⟨k, hk, rfl, HJ, rfl⟩ := hrel
          by_cases hlt : k < xs.length
          · have hat := str_at xs HB.out k hlt (by omega)
            obtain ⟨z, hz⟩ : ∃ z, xs.getD k 0 = z := ⟨_, rfl⟩
            rw [hz] at hat
            have HZ := Lib.hid hz
            clear hz
            have H1 := Lib.hid (fun w => in_any z 65 90 w)
            have H2 := Lib.hid (fun w => in_any z 97 122 w)
            have H3 := Lib.hid (fun w => in_any z 48 57 w)
            have hall : nameB z = true → Hid (∀ j, j < k + 1 → nameB (xs.getD j 0) = true) := fun h => Lib.hid (fun j hj => by
              rcases Nat.lt_or_ge j k with q | q
              · exact HJ.out j q
              · obtain rfl : j = k := by omega
                rw [HZ.out]; exact h)
            cases h1 : inB z 65 90 with
            | true =>
              have HJ2 := hall (by simp [nameB, h1])
              rw [h1] at H1
              clear h1 hall
              go_wp2_with fail
              refine (H1.out _).mono ?_
              rintro e w1 ⟨rfl, rfl⟩
              go_wp2_with fail
              go_roundw
              case rel => exact ⟨k + 1, by omega, by go_num, HJ2, trivial⟩
              case measure => simp [intOf]; omega
            | false =>
              cases h2 : inB z 97 122 with
              | true =>
                have HJ2 := hall (by simp [nameB, h2])
                rw [h1] at H1
                rw [h2] at H2
                clear h1 h2 hall
                go_wp2_with fail
                refine (H1.out _).mono ?_
                rintro e w1 ⟨rfl, rfl⟩
                go_wp2_with fail
                refine (H2.out _).mono ?_
                rintro e w1 ⟨rfl, rfl⟩
                go_wp2_with fail
                go_roundw
                case rel => exact ⟨k + 1, by omega, by go_num, HJ2, trivial⟩
                case measure => simp [intOf]; omega
              | false =>
                cases h3 : inB z 48 57 with
                | true =>
                  have HJ2 := hall (by simp [nameB, h3])
                  rw [h1] at H1
                  rw [h2] at H2
                  rw [h3] at H3
                  clear h1 h2 h3 hall
                  go_wp2_with fail
                  refine (H1.out _).mono ?_
                  rintro e w1 ⟨rfl, rfl⟩
                  go_wp2_with fail
                  refine (H2.out _).mono ?_
                  rintro e w1 ⟨rfl, rfl⟩
                  go_wp2_with fail
                  refine (H3.out _).mono ?_
                  rintro e w1 ⟨rfl, rfl⟩
                  go_wp2_with fail
                  go_roundw
                  case rel => exact ⟨k + 1, by omega, by go_num, HJ2, trivial⟩
                  case measure => simp [intOf]; omega
                | false =>
                  by_cases h4 : z = 95
                  · have HJ2 := hall (by simp [nameB, h4])
                    rw [h1] at H1
                    rw [h2] at H2
                    rw [h3] at H3
                    have hb4 : (z != 95) = false := by simp [h4]
                    clear h1 h2 h3 h4 hall
                    go_wp2_with fail
                    refine (H1.out _).mono ?_
                    rintro e w1 ⟨rfl, rfl⟩
                    go_wp2_with fail
                    refine (H2.out _).mono ?_
                    rintro e w1 ⟨rfl, rfl⟩
                    go_wp2_with fail
                    refine (H3.out _).mono ?_
                    rintro e w1 ⟨rfl, rfl⟩
                    go_wp2_with fail
                    go_roundw
                    case rel => exact ⟨k + 1, by omega, by go_num, HJ2, trivial⟩
                    case measure => simp [intOf]; omega
                  · have hn : nameB z = false := by simp [nameB, h1, h2, h3, h4]
                    have HE := Lib.hid (HOK.out.trans (show xs.all nameB = false from by
                      rw [← Bool.not_eq_true, List.all_eq_true]
                      intro h
                      have := h z (by rw [← HZ.out, List.getD, List.getElem?_eq_getElem hlt]; simp)
                      rw [hn] at this
                      cases this))
                    rw [h1] at H1
                    rw [h2] at H2
                    rw [h3] at H3
                    have hb4 : (z != 95) = true := by simp [h4]
                    clear h1 h2 h3 h4 hall hn
                    go_wp2_with fail
                    refine (H1.out _).mono ?_
                    rintro e w1 ⟨rfl, rfl⟩
                    go_wp2_with fail
                    refine (H2.out _).mono ?_
                    rintro e w1 ⟨rfl, rfl⟩
                    go_wp2_with fail
                    refine (H3.out _).mono ?_
                    rintro e w1 ⟨rfl, rfl⟩
                    go_wp2_with fail
                    go_ret
                    exact ⟨by rw [HE.out]; rfl, rfl⟩
          · obtain rfl : k = xs.length := by omega
            have e : xs.all nameB = true := nameB_all HJ.out
            have HE := Lib.hid (HOK.out.trans e)
            clear e
            go_wp2_with fail
            go_ret
            exact ⟨by rw [HE.out]; rfl, rfl⟩
#print axioms rname_any
end Go.Proofs.Ytlmpicfhbpnpbaa

namespace Go.Proofs.Ytlmpicfhbpnpbaa
open Go.RowKit

set_option maxRecDepth 100000 in
set_option maxHeartbeats 1000000 in
theorem rfind_any (A : Option Addr) (c : Nat) (ds : List Pd) (nm : List Int) (hnb : ∀ x ∈ nm, 0 ≤ x ∧ x < 256) (w : World) (hrow : PredRow w w.heap.size (.slice A ds.length c) ds) :
    Calls Try.prog 50 #[.slice A ds.length c, .string (strOfNums nm)] w fun e w' => e = .returned (.int .i64 (findP (ds.map (·.p)) nm)) ∧ w = w' := by
  obtain ⟨_, hc1, hc2⟩ : ∃ _ : True, ds.length ≤ c ∧ c ≤ 9223372036854775807 := by
    obtain ⟨A', c', hv, q1, q2⟩ := hrow.form
    injection hv with _ _ e3
    exact ⟨trivial, by omega, by omega⟩
  have hfound := fun (r : Nat) (p : Pr) => @findP_found (ds.map (·.p)) nm r p
  have hnone := @findP_none (ds.map (·.p)) nm
  generalize findP (ds.map (·.p)) nm = R at hfound hnone ⊢
  have HF := Lib.hid hfound
  have HN := Lib.hid hnone
  have HROW := Lib.hid hrow
  clear hfound hnone hrow
  go_enter Try.func50, Try.ntmps50
  go_wp2_with fail
  go_loopw [5] (fun i wr => ∃ k : Nat, k ≤ ds.length ∧ i = .int .i64 k ∧ Hid (∀ (j : Nat) (q : Pr), j < k → (ds.map (·.p))[j]? = some q → q.name ≠ nm) ∧ w = wr) (fun i _ => ds.length - (intOf i).toNat)
  case atStart => exact ⟨0, Nat.zero_le _, rfl, Lib.hid (fun j q h => absurd h (Nat.not_lt_zero _)), rfl⟩
  case round =>
    obtain ⟨k, hk, rfl, HJ, rfl⟩ := hrel
    by_cases hlt : k < ds.length
    · obtain ⟨d, hd⟩ : ∃ d, ds[k]? = some d := ⟨_, List.getElem?_eq_getElem hlt⟩
      obtain ⟨b, o, rfl, hb, x0, x1, hir, hfit, ha1, ha2⟩ := HROW.out.at hd
      by_cases he : d.p.name = nm
      · have HR := Lib.hid (HF.out k d.p (at_pr hd) HJ.out he)
        rw [he] at x0
        clear hir hfit hd
        go_wp2_with fail
        go_ret
        exact ⟨by rw [HR.out]; rfl, rfl⟩
      · have hne := str_ne hfit.2.1 hnb he
        have HJ2 := Lib.hid (fun (j : Nat) (q : Pr) (hj : j < k + 1) (hq : (ds.map (·.p))[j]? = some q) => (show q.name ≠ nm from by
          rcases Nat.lt_or_ge j k with h | h
          · exact HJ.out j q h hq
          · obtain rfl : j = k := by omega
            rw [at_pr hd] at hq
            injection hq with hq
            rw [← hq]; exact he))
        clear hir hfit hd he
        go_wp2_with fail
        go_roundw
        case rel => exact ⟨k + 1, by omega, by go_num, HJ2, trivial⟩
        case measure => simp [intOf]; omega
    · obtain rfl : k = ds.length := by omega
      have HR := Lib.hid (HN.out (fun j q hj => HJ.out j q (by have := (List.getElem?_eq_some_iff.1 hj).1; simpa using this) hj))
      go_wp2_with fail
      go_ret
      exact ⟨by rw [HR.out]; rfl, rfl⟩
#print axioms rfind_any

section
variable {l : List Pr} {i : Nat} {p : Pr}
theorem getD_pr (hp : l[i]? = some p) : l.getD i default = p := by simp [List.getD, hp]
theorem whyP_9 (hp : l[i]? = some p) (h : okName p.name = false ∨ findP l p.name < i) : whyP l i = 9 := by
  unfold whyP
  rw [getD_pr hp, if_pos h]
theorem whyP_6 (hp : l[i]? = some p) (h1 : okName p.name = true) (h2 : ¬ findP l p.name < i) (h3 : 8 < p.args.length) : whyP l i = 6 := by
  unfold whyP
  rw [getD_pr hp, if_neg (by rw [h1]; simp [h2]), if_pos h3]
theorem whyP_7 (hp : l[i]? = some p) (h1 : okName p.name = true) (h2 : ¬ findP l p.name < i) (h3 : ¬ 8 < p.args.length) {m : Nat} (hm : m < p.args.length) (h4 : inB (p.args.getD m 0) 1 2 = false) : whyP l i = 7 := by
  unfold whyP
  rw [getD_pr hp, if_neg (by rw [h1]; simp [h2]), if_neg h3, if_pos]
  rw [← Bool.not_eq_true, List.all_eq_true]
  intro h
  have := h (p.args.getD m 0) (by rw [List.getD, List.getElem?_eq_getElem hm]; simp)
  rw [h4] at this
  cases this
theorem whyP_0 (hp : l[i]? = some p) (h1 : okName p.name = true) (h2 : ¬ findP l p.name < i) (h3 : ¬ 8 < p.args.length) (h4 : ∀ m, m < p.args.length → inB (p.args.getD m 0) 1 2 = true) : whyP l i = 0 := by
  unfold whyP
  rw [getD_pr hp, if_neg (by rw [h1]; simp [h2]), if_neg h3, if_neg]
  rw [Bool.not_eq_false, List.all_eq_true]
  intro x hx
  obtain ⟨k, hk, e⟩ := List.getElem_of_mem hx
  have := h4 k hk
  rw [List.getD, List.getElem?_eq_getElem hk] at this
  simpa [e] using this
end
theorem step_lt {P : Nat → Prop} {k : Nat} (h : ∀ j, j < k → P j) (hk : P k) : ∀ j, j < k + 1 → P j := fun j hj => by
  rcases Nat.lt_or_ge j k with q | q
  · exact h j q
  · obtain rfl : j = k := by omega
    exact hk

set_option maxRecDepth 100000 in
set_option maxHeartbeats 2000000 in
theorem rcheck_any (A : Option Addr) (c : Nat) (ds : List Pd) (w : World) (hrow : PredRow w w.heap.size (.slice A ds.length c) ds) :
    Calls Try.prog 26 #[.slice A ds.length c] w fun e w' => e = .returned (.int .i64 (checkP (ds.map (·.p)))) ∧ w = w' := by
  obtain ⟨_, hc1, hc2⟩ : ∃ _ : True, ds.length ≤ c ∧ c ≤ 9223372036854775807 := by
    obtain ⟨A', c', hv, q1, q2⟩ := hrow.form
    injection hv with _ _ e3
    exact ⟨trivial, by omega, by omega⟩
  have hml : (ds.map (·.p)).length = ds.length := List.length_map _
  by_cases hgt : 64 < ds.length
  · have hgi : (64 : Int) < (ds.length : Int) := by omega
    rw [checkP_many (by omega)]
    go_enter Try.func26, Try.ntmps26
    go_wp2_with fail
    go_ret
    exact ⟨rfl, rfl⟩
  have hfound := fun (r : Nat) (hr : r < ds.length) => @checkP_found (ds.map (·.p)) (by omega) r (by omega)
  have hnone := fun h => @checkP_none (ds.map (·.p)) (by omega) h
  generalize checkP (ds.map (·.p)) = R at hfound hnone ⊢
  have hle : (ds.length : Int) ≤ 64 := by omega
  have HF := Lib.hid hfound
  have HN := Lib.hid hnone
  have HROW := Lib.hid hrow
  have HML := Lib.hid hml
  clear hfound hnone hrow hml hgt
  go_enter Try.func26, Try.ntmps26
  go_wp2_with fail
  go_loopg [3] ds.length (fun gk i wr => ∃ k : Nat, k ≤ ds.length ∧ i = .int .i64 k ∧ Hid (ds.length - k = gk) ∧ Hid (∀ j, j < k → whyP (ds.map (·.p)) j = 0) ∧ w = wr)
  case atStart => exact ⟨0, Nat.zero_le _, rfl, Lib.hid rfl, Lib.hid (fun j h => absurd h (Nat.not_lt_zero _)), rfl⟩
  case round =>
    obtain ⟨k, hk, rfl, HGK, HJ, rfl⟩ := hrel
    by_cases hlt : k < ds.length
    · obtain ⟨d, hd⟩ : ∃ d, ds[k]? = some d := ⟨_, List.getElem?_eq_getElem hlt⟩
      have HD := Lib.hid (at_pr hd)
      have HRF := Lib.hid (fun (h : PredRow w w.heap.size (.slice A ds.length c) ds) => rfind_any A c ds d.p.name (HROW.out.at hd).choose_spec.choose_spec.2.2.2.2.2.1.2.1 w h)
      obtain ⟨b, o, rfl, hb, x0, x1, hir, hfit, ha1, ha2⟩ := HROW.out.at hd
      have HNM := Lib.hid (rname_any d.p.name hfit.2.1 (by have := hfit.1; unfold maxLen at this; omega) w)
      have HFD := Lib.hid (HRF.out HROW.out)
      obtain ⟨dA, hdA⟩ : ∃ dA, d.A = dA := ⟨_, rfl⟩
      rw [hdA] at x1 hir
      have HIR := Lib.hid hir
      clear HRF hd hir hfit hdA
      cases h1 : okName d.p.name with
      | false =>
        have hw := whyP_9 HD.out (.inl h1)
        have HR := Lib.hid ((HF.out k hlt HJ.out (by rw [hw]; decide)).trans hw)
        rw [h1] at HNM
        clear h1 hw
        go_wp2_with fail
        refine HNM.out.mono ?_
        rintro e w1 ⟨rfl, rfl⟩
        go_wp2_with fail
        go_ret
        exact ⟨by rw [HR.out]; rfl, rfl⟩
      | true =>
        by_cases h2 : findP (ds.map (·.p)) d.p.name < k
        · have hw := whyP_9 HD.out (.inr h2)
          have HR := Lib.hid ((HF.out k hlt HJ.out (by rw [hw]; decide)).trans hw)
          rw [h1] at HNM
          clear h1 hw
          generalize findP (ds.map (·.p)) d.p.name = F at h2 HFD
          go_wp2_with fail
          refine HNM.out.mono ?_
          rintro e w1 ⟨rfl, rfl⟩
          go_wp2_with fail
          refine HFD.out.mono ?_
          rintro e w1 ⟨rfl, rfl⟩
          go_wp2_with fail
          go_ret
          exact ⟨by rw [HR.out]; rfl, rfl⟩
        · by_cases h3 : 8 < d.p.args.length
          · have hw := whyP_6 HD.out h1 h2 h3
            have HR := Lib.hid ((HF.out k hlt HJ.out (by rw [hw]; decide)).trans hw)
            rw [h1] at HNM
            clear h1 hw
            have h3i : (8 : Int) < (d.p.args.length : Int) := by omega
            generalize findP (ds.map (·.p)) d.p.name = F at h2 HFD
            go_wp2_with fail
            refine HNM.out.mono ?_
            rintro e w1 ⟨rfl, rfl⟩
            go_wp2_with fail
            refine HFD.out.mono ?_
            rintro e w1 ⟨rfl, rfl⟩
            go_wp2_with fail
            go_ret
            exact ⟨by rw [HR.out]; rfl, rfl⟩
          · have HW7 := Lib.hid (fun m (hm : m < d.p.args.length) h4 => (HF.out k hlt HJ.out (by rw [whyP_7 HD.out h1 h2 h3 hm h4]; decide)).trans (whyP_7 HD.out h1 h2 h3 hm h4))
            have HW0 := Lib.hid (fun h4 => step_lt HJ.out (whyP_0 HD.out h1 h2 h3 h4))
            rw [h1] at HNM
            clear h1
            have h3i : (d.p.args.length : Int) ≤ 8 := by omega
            generalize findP (ds.map (·.p)) d.p.name = F at h2 HFD
            go_wp2_with fail
            refine HNM.out.mono ?_
            rintro e w1 ⟨rfl, rfl⟩
            go_wp2_with fail
            refine HFD.out.mono ?_
            rintro e w1 ⟨rfl, rfl⟩
            go_wp2_with fail
            go_loopg [4] d.p.args.length (fun gm i wr => ∃ m : Nat, m ≤ d.p.args.length ∧ i = .int .i64 m ∧ Hid (d.p.args.length - m = gm) ∧ Hid (∀ j, j < m → inB (d.p.args.getD j 0) 1 2 = true) ∧ w = wr)
            case atStart => exact ⟨0, Nat.zero_le _, rfl, Lib.hid rfl, Lib.hid (fun j h => absurd h (Nat.not_lt_zero _)), rfl⟩
            case round =>
              obtain ⟨m, hm, rfl, HGM, HI, rfl⟩ := hrel
              by_cases hml : m < d.p.args.length
              · obtain ⟨b2, o2, rfl, hb2, ht⟩ := HIR.out.at hml
                obtain ⟨t, hT⟩ : ∃ t, d.p.args.getD m 0 = t := ⟨_, rfl⟩
                rw [hT] at ht
                cases h4 : inB t 1 2 with
                | true =>
                  have HI2 := Lib.hid (step_lt (P := fun j => inB (d.p.args.getD j 0) 1 2 = true) HI.out (by rw [hT]; exact h4))
                  obtain ⟨t1, t2⟩ : 1 ≤ t ∧ t ≤ 2 := by simpa [inB] using h4
                  clear h4 hT
                  go_wp2_with fail
                  go_roundg (d.p.args.length - (m + 1))
                  case measure => have := HGM.out; omega
                  case rel => exact ⟨m + 1, by omega, by go_num, Lib.hid rfl, HI2, rfl⟩
                | false =>
                  have HR := Lib.hid (HW7.out m hml (by rw [hT]; exact h4))
                  clear hT
                  by_cases t1 : t < 1
                  · clear h4
                    go_wp2_with fail
                    go_ret
                    exact ⟨by rw [HR.out]; rfl, rfl⟩
                  · have t2 : 2 < t := by
                      have : ¬ (1 ≤ t ∧ t ≤ 2) := fun h => by rw [show inB t 1 2 = true by simp [inB, h.1, h.2]] at h4; cases h4
                      omega
                    clear h4
                    go_wp2_with fail
                    go_ret
                    exact ⟨by rw [HR.out]; rfl, rfl⟩
              · obtain rfl : m = d.p.args.length := by omega
                have HJ2 := Lib.hid (HW0.out HI.out)
                go_wp2_with fail
                go_roundg (ds.length - (k + 1))
                case measure => have := HGK.out; omega
                case rel => exact ⟨k + 1, by omega, by go_num, Lib.hid rfl, HJ2, rfl⟩
    · obtain rfl : k = ds.length := by omega
      have HR := Lib.hid (HN.out (fun j hj => HJ.out j (by rw [HML.out] at hj; exact hj)))
      go_wp2_with fail
      go_ret
      exact ⟨by rw [HR.out]; rfl, rfl⟩
#print axioms rcheck_any
end Go.Proofs.Ytlmpicfhbpnpbaa
