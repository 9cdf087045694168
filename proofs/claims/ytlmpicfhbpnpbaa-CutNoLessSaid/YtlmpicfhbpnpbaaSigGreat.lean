/-
  Is a signature more than is gone through?
-/
import Derived.Test.YtlmpicfhbpnpbaaSigRefs
import Derived.Test.YtlmpicfhbpnpbaaCur
namespace Go.Proofs.Ytlmpicfhbpnpbaa
open Go.RowKit

def greatOne (p : Pr) : Bool := decide (30 < p.args.length) || decide (100 < p.name.length)
def greatP (l : List Pr) : Bool := l.any greatOne || decide (100 < l.length)
theorem greatP_no {l : List Pr} (h : greatP l = false) : l.length ≤ 100 ∧ ∀ p ∈ l, p.args.length ≤ 30 ∧ p.name.length ≤ 100 := by
  unfold greatP at h
  rw [Bool.or_eq_false_iff] at h
  refine ⟨by simpa using h.2, fun p hp => ?_⟩
  have := (List.any_eq_false.1 h.1) p hp
  simp only [greatOne, Bool.or_eq_true, decide_eq_true_eq, not_or] at this
  omega

set_option maxRecDepth 100000 in
set_option maxHeartbeats 2000000 in
theorem great_any (A : Option Addr) (c : Nat) (ds : List Pd) (w : World) (hrow : PredRow w w.heap.size (.slice A ds.length c) ds) :
    Calls Try.prog 6 #[.slice A ds.length c] w fun e w' => e = .returned (.bool (greatP (ds.map (·.p)))) ∧ Below w.heap.size w w' := by
  obtain ⟨_, hc1, hc2⟩ : ∃ _ : True, ds.length ≤ c ∧ c ≤ 9223372036854775807 := by
    obtain ⟨A', c', hv, q1, q2⟩ := hrow.form
    injection hv with _ _ e3
    exact ⟨trivial, by omega, by omega⟩
  have hyes := fun (d : Pd) (hd : d ∈ ds) (h : greatOne d.p = true) => (show greatP (ds.map (·.p)) = true by
    unfold greatP
    rw [Bool.or_eq_true]
    exact .inl (List.any_eq_true.2 ⟨d.p, List.mem_map.2 ⟨d, hd, rfl⟩, h⟩))
  have hno := fun (h : ∀ j, j < ds.length → ∀ d, ds[j]? = some d → greatOne d.p = false) => (show greatP (ds.map (·.p)) = decide (100 < ds.length) by
    unfold greatP
    rw [List.length_map, show (ds.map (·.p)).any greatOne = false from by
      rw [List.any_eq_false]
      intro p hp
      obtain ⟨d, hd, rfl⟩ := List.mem_map.1 hp
      obtain ⟨j, hj⟩ := List.mem_iff_getElem?.1 hd
      rw [h j (List.getElem?_eq_some_iff.1 hj).1 d hj]
      simp]
    rfl)
  generalize greatP (ds.map (·.p)) = R at hyes hno ⊢
  have HY := Lib.hid hyes
  have HN := Lib.hid hno
  have HROW := Lib.hid hrow
  clear hyes hno hrow
  go_enter Try.func6, Try.ntmps6
  go_wp2_with fail
  go_loopg [7] ds.length (fun gk i wr => ∃ k : Nat, k ≤ ds.length ∧ i = .int .i64 k ∧ Hid (ds.length - k = gk) ∧ Hid (∀ j, j < k → ∀ d, ds[j]? = some d → greatOne d.p = false) ∧ Below w.heap.size w wr)
  case atStart => exact ⟨0, Nat.zero_le _, rfl, Lib.hid rfl, Lib.hid (fun j h => absurd h (Nat.not_lt_zero _)), Below.refl _ _⟩
  case round =>
    obtain ⟨k, hk, rfl, HGK, HJ, hbw⟩ := hrel
    have hsz := hbw.size
    by_cases hlt : k < ds.length
    · obtain ⟨d, hd⟩ : ∃ d, ds[k]? = some d := ⟨_, List.getElem?_eq_getElem hlt⟩
      obtain ⟨b, o, rfl, hb, x0, x1, hir, hfit, ha1, ha2⟩ := (HROW.out.below hbw).at hd
      have hst := fun (h : greatOne d.p = false) => step_lt (P := fun j => ∀ d, ds[j]? = some d → greatOne d.p = false) HJ.out (fun d' hd' => by rw [hd] at hd'; injection hd' with e; rw [← e]; exact h)
      have hy := HY.out d (List.mem_of_getElem? hd)
      have hsn := strOfNums_size d.p.name
      have hnl : d.p.name.length ≤ 9223372036854775807 := by have := hfit.1; unfold maxLen at this; omega
      have HB := Lib.hid (hbw.alloc hsz (.cells #[.string (strOfNums d.p.name), .slice d.A d.p.args.length d.c] 59))
      clear hir hfit hd hbw
      by_cases h1 : 30 < d.p.args.length
      · have h1i : (30 : Int) < (d.p.args.length : Int) := by omega
        have HR := Lib.hid (hy (by simp [greatOne, h1]))
        clear hst hy
        go_wp2_with fail
        go_ret
        exact ⟨by rw [HR.out]; rfl, HB.out⟩
      · have h1i : (d.p.args.length : Int) ≤ 30 := by omega
        by_cases h2 : 100 < d.p.name.length
        · have h2i : (100 : Int) < (d.p.name.length : Int) := by omega
          have HR := Lib.hid (hy (by simp [greatOne, h2]))
          clear hst hy
          go_wp2_with fail
          go_ret
          exact ⟨by rw [HR.out]; rfl, HB.out⟩
        · have h2i : (d.p.name.length : Int) ≤ 100 := by omega
          have HJ2 := Lib.hid (hst (by simp [greatOne, h1, h2]))
          clear hst hy
          go_wp2_with fail
          go_roundg (ds.length - (k + 1))
          case measure => have := HGK.out; omega
          case rel => exact ⟨k + 1, by omega, by go_num, Lib.hid rfl, HJ2, HB.out⟩
    · obtain rfl : k = ds.length := by omega
      have HR := Lib.hid (HN.out HJ.out)
      go_wp2_with fail
      go_ret
      exact ⟨by rw [HR.out]; exact congrArg (fun b => Ending.returned (Value.bool b)) (decide_eq_decide.2 (by omega)), hbw⟩
#print axioms great_any
end Go.Proofs.Ytlmpicfhbpnpbaa
