/-
  The document's Same of layer 2, at two slices that read as the same texts. (As in BlobRefAll, whose other calls a seat of layer 13 has not.)
-/
import Derived.Test.YtlmedebhkkiagaaSigKit
namespace Go.Proofs.Ytlmedebhkkiagaa
open Go.RowKit

set_option maxRecDepth 100000 in
set_option maxHeartbeats 1000000 in
theorem tsame2_any (A A' : Option Addr) (c c' B B' : Nat) (us : List Value) (n : Nat) (hn : us.length = n) (hstr : ∀ u ∈ us, ∃ s, u = .string s) (w : World) (h1 : VRow w B (.slice A n c) us) (h2 : VRow w B' (.slice A' n c') us) :
    Calls Try.prog 20 #[.slice A n c, .slice A' n c'] w fun e W' => e = .returned (.bool true) ∧ Below w.heap.size w W' := by
  have hb1 := h1.length
  have hb2 := h2.length
  obtain ⟨e1, e2, e3⟩ := hb1
  obtain ⟨_, e4, e5⟩ := hb2
  clear e1
  have HN := Lib.hid hn
  rw [hn] at e2 e4
  clear hn
  have H1 := Lib.hid h1; clear h1
  have H2 := Lib.hid h2; clear h2
  have HS := Lib.hid hstr; clear hstr
  go_enter Try.func20, Try.ntmps20
  go_wp2_with fail
  go_loopg [5] n (fun g i wr => ∃ k : Nat, k + g = n ∧ i = .int .i64 k ∧ Below w.heap.size w wr ∧ (∀ p, wr.cell? p = w.cell? p))
  case atStart => exact ⟨0, by omega, rfl, Below.refl _ _, fun _ => rfl⟩
  case round =>
    obtain ⟨k, hk, rfl, hbw, hce⟩ := hrel
    have HCE := Lib.hid hce; clear hce
    by_cases hlt : k < n
    · obtain ⟨u, hu⟩ : ∃ u, us[k]? = some u := ⟨_, List.getElem?_eq_getElem (by rw [HN.out]; exact hlt)⟩
      obtain ⟨s, rfl⟩ := HS.out u (List.mem_of_getElem? hu)
      obtain ⟨X, d, hv, _, _, _, hcl⟩ := H1.out
      injection hv with q1 q2 q3
      subst q1
      obtain ⟨b, o, rfl, _, hc⟩ := hcl (by rw [HN.out]; omega)
      have hc1 := (HCE.out _).trans (hc k _ hu)
      clear hcl hc q2 q3
      obtain ⟨X, d', hv, _, _, _, hcl⟩ := H2.out
      injection hv with q1 q2 q3
      subst q1
      obtain ⟨b', o', rfl, _, hc⟩ := hcl (by rw [HN.out]; omega)
      have hc2 := (HCE.out _).trans (hc k _ hu)
      clear hcl hc q2 q3 hu
      have i1 : (k : Int) < (n : Int) := by omega
      go_wp2_with fail
      go_quiet (fail)
      go_wp2_with fail
      go_roundg (gk - 1)
      case measure => omega
      case rel => exact ⟨k + 1, by omega, by go_num, hbw.trans (drewN_low _ _ _), fun p => (HCE.out p)⟩
    · go_wp2_with fail
      go_ret
      exact ⟨rfl, hbw⟩
#print axioms tsame2_any
end Go.Proofs.Ytlmedebhkkiagaa
