/-
  What stands behind the first number of bytes: the law's own function tail.
-/
import Derived.Test.YtlnddmojmgelkaaPlainBlock
import Derived.Test.YtlnddmojmgelkaaSlices
import Derived.WalkKit
import Derived.LoopTactic
import Derived.Deep.LoopGhost
import Derived.Lib.Hide
namespace Go.Proofs.Ytlnddmojmgelkaa
open Go.RowKit Go.ChangeShapes Go.WideShapes
set_option linter.unusedVariables false

theorem tailI_at {xs : List Int} {k : Nat} (hk : k < xs.length) : tailI (xs.drop k) = if xs.getD k 0 < 128 then xs.drop (k + 1) else tailI (xs.drop (k + 1)) := by
  rw [List.drop_eq_getElem_cons hk, show xs.getD k 0 = xs[k] by simp [List.getD, List.getElem?_eq_getElem hk]]
  rfl
set_option maxRecDepth 100000 in
set_option maxHeartbeats 1000000 in
theorem tail_any (A : Option Addr) (c : Nat) (xs : List Int) (w : World) (hrow : Row w w.heap.size (.slice A xs.length c) xs) (hl : xs.length ≤ 1000000000) :
    Calls Try.prog 24 #[.slice A xs.length c] w fun e w' => e = .returned (.string (strOfNums (tailI xs))) ∧ w' = w := by
  obtain ⟨hc1, hc2, hcell⟩ : xs.length ≤ c ∧ c ≤ 9223372036854775807 ∧ (0 < xs.length → ∃ b o, A = some ⟨b, o, none⟩ ∧ ∀ i, i < xs.length → w.cell? ⟨b, o + i, none⟩ = some (.int .u8 (xs.getD i 0))) := by
    obtain ⟨A', c', hv, h1, h2, _, h4⟩ := hrow
    injection hv with e1 e2 e3
    subst e1 e3
    unfold maxLen at h2
    refine ⟨h1, by omega, fun h => ?_⟩
    obtain ⟨b, o, e, _, hc⟩ := h4 h
    exact ⟨b, o, e, hc⟩
  have HDR := Lib.hid (fun (k : Nat) (hk : k ≤ xs.length) => (hrow.drop hk).convert (P := Try.prog) 46 5 9 Try.underlying46 Try.underlying5 Try.underlying9)
  obtain ⟨S, hS⟩ : ∃ S, tailI xs = S := ⟨_, rfl⟩
  rw [hS]
  have HS := Lib.hid hS
  clear hS
  obtain ⟨n, hn⟩ : ∃ n, xs.length = n := ⟨_, rfl⟩
  have HN := Lib.hid hn
  rw [hn] at hc1 hcell hl ⊢
  have HCELL := Lib.hid hcell
  obtain ⟨wz, hwz⟩ : ∃ wz, wz = w := ⟨_, rfl⟩
  clear hrow hcell hn
  go_enter Try.func24, Try.ntmps24
  go_wp2_with fail
  go_loopg [7] n (fun gk i wr => ∃ k : Nat, k ≤ n ∧ i = .int .i64 k ∧ Hid (n - k = gk) ∧ Hid (tailI xs = tailI (xs.drop k)) ∧ wr = wz)
  case atStart => exact ⟨0, Nat.zero_le _, rfl, Lib.hid rfl, Lib.hid rfl, hwz.symm⟩
  case round =>
    obtain ⟨k, hk, rfl, HGK, HT, rfl⟩ := hrel
    by_cases hlt : k < n
    · obtain ⟨b, o, rfl, hcl⟩ := HCELL.out (by omega)
      have x0 := hcl k hlt
      have hnx := tailI_at (xs := xs) (k := k) (by have := HN.out; omega)
      have hdr := HDR.out (k + 1) (by have := HN.out; omega)
      rw [List.length_drop, HN.out] at hdr
      subst hwz
      by_cases hb : xs.getD k 0 < 128
      · rw [if_pos hb, ← HT.out, HS.out] at hnx
        rw [← hnx] at hdr
        generalize xs.getD k 0 = y at x0 hb
        clear hcl hnx HT
        by_cases hck : c = k + 1
        · rw [if_pos hck, show n - (k + 1) = 0 by omega, show c - (k + 1) = 0 by omega] at hdr
          subst hck
          obtain rfl : n = k + 1 := by omega
          go_wp2_with fail
          go_ret
          exact ⟨rfl, rfl⟩
        · rw [if_neg hck] at hdr
          simp only [Option.map_some, add_plain] at hdr
          go_wp2_with fail
          go_ret
          exact ⟨rfl, rfl⟩
      · rw [if_neg hb] at hnx
        have HT2 := Lib.hid (HT.out.trans hnx)
        generalize xs.getD k 0 = y at x0 hb
        clear hcl hnx hdr
        go_wp2_with fail
        go_roundg (n - (k + 1))
        case measure => have := HGK.out; omega
        case rel => exact ⟨k + 1, by omega, by go_num, Lib.hid rfl, HT2, rfl⟩
    · obtain rfl : k = n := by omega
      have ht : S = [] := by rw [← HS.out, HT.out, List.drop_of_length_le (by have := HN.out; omega)]; rfl
      have HTT := Lib.hid ht
      clear ht
      subst hwz
      go_wp2_with fail
      go_ret
      exact ⟨by rw [HTT.out]; rfl, rfl⟩
#print axioms tail_any
end Go.Proofs.Ytlnddmojmgelkaa
