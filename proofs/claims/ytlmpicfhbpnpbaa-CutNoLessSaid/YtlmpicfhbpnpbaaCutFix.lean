/-
  The chapter's example of layer 16.
-/
import Derived.Test.YtlmpicfhbpnpbaaCutSizes
namespace Go.Proofs.Ytlmpicfhbpnpbaa
open Go.RowKit Go.ChangeShapes Go.WideShapes
set_option linter.unusedVariables false

theorem sizes_ex16 : sizesR [⟨[113], []⟩] [⟨1, [], none, 0⟩, ⟨2, [], none, 0⟩, ⟨3, [], none, 0⟩] 2 = ([2, 1], 0) := by rfl

set_option maxRecDepth 100000 in
set_option maxHeartbeats 1000000 in
/-- Same, of two that are the same. -/
theorem rsame16_any (ks : List Nat) (A A2 : Option Addr) (c c2 : Nat) (w : World) (h1 : ERow w w.heap.size (.slice A ks.length c) ks.length (szVs ks)) (h2 : ERow w w.heap.size (.slice A2 ks.length c2) ks.length (szVs ks)) :
    Calls Try.prog 43 #[.slice A ks.length c, .slice A2 ks.length c2] w fun e w' => e = .returned (.bool true) ∧ Below w.heap.size w w' := by
  obtain ⟨-, q1, q2⟩ := h1.len
  have H1 := Lib.hid h1
  have H2 := Lib.hid h2
  obtain ⟨n, hn⟩ : ∃ n, ks.length = n := ⟨_, rfl⟩
  rw [hn] at H1 H2 q1 ⊢
  have HN := Lib.hid hn
  clear h1 h2 hn
  go_enter Try.func43, Try.ntmps43
  go_wp2_with fail
  go_loopg [5] n (fun gk i wr => ∃ k : Nat, i = .int .i64 k ∧ k ≤ n ∧ Hid (n - k = gk) ∧ Hid (Below w.heap.size w wr))
  case atStart => exact ⟨0, rfl, Nat.zero_le _, Lib.hid rfl, Lib.hid (Below.refl _ _)⟩
  case round =>
    obtain ⟨k, rfl, hk, HGK, HB⟩ := hrel
    by_cases hlt : k < n
    · obtain ⟨x, hx⟩ : ∃ x, ks[k]? = some x := ⟨_, List.getElem?_eq_getElem (by rw [HN.out]; exact hlt)⟩
      obtain ⟨b, o, rfl, hb, hc⟩ := (H1.out.below HB.out).block (by omega)
      obtain ⟨b2, o2, rfl, hb2, hc2⟩ := (H2.out.below HB.out).block (by omega)
      have x0 := hc k _ (szVs_at hx)
      have x1 := hc2 k _ (szVs_at hx)
      have hBD := HB.out.drew
      clear hc hc2 hx
      go_wp2_with fail
      go_region
      all_goals (
      go_wp2_with fail
      go_roundg (n - (k + 1))
      case measure => have := HGK.out; omega
      case rel => exact ⟨k + 1, by go_num, by omega, Lib.hid rfl, Lib.hid hBD⟩)
    · go_wp2_with fail
      go_ret
      exact ⟨rfl, HB.out⟩
#print axioms rsame16_any

set_option maxRecDepth 100000 in
set_option maxHeartbeats 1000000 in
theorem fix16_any (w : World) : Calls Try.prog 22 #[] w fun e w' => e = .returned (.bool true) ∧ Below w.heap.size w w' := by
  obtain ⟨n, hn⟩ : ∃ n, w.heap.size = n := ⟨_, rfl⟩
  obtain ⟨u0, hu0⟩ : ∃ u, w.alloc (.cells #[.string { data := #[113] }, .slice none 0 0] 59) = u := ⟨_, rfl⟩
  have s0 : u0.heap.size = n + 1 := by rw [← hu0, World.size_alloc, hn]
  have b0 : Below n w u0 := by rw [← hu0]; exact (Below.refl _ _).alloc (by omega) _
  have h0 : Held u0 n 59 #[.string { data := #[113] }, .slice none 0 0] := by rw [← hu0, ← hn]; exact heap_alloc_new w _
  obtain ⟨u1, hu1⟩ : ∃ u, u0.alloc (.cells #[.int .u64 1, .slice none 0 0, .int .u64 2, .slice none 0 0, .int .u64 3, .slice none 0 0] 39) = u := ⟨_, rfl⟩
  have s1 : u1.heap.size = n + 2 := by rw [← hu1, World.size_alloc, s0]
  have b1 : Below (n + 1) u0 u1 := by rw [← hu1]; exact (Below.refl _ _).alloc (by omega) _
  have h1 : Held u1 (n + 1) 39 #[.int .u64 1, .slice none 0 0, .int .u64 2, .slice none 0 0, .int .u64 3, .slice none 0 0] := by rw [← hu1, ← s0]; exact heap_alloc_new u0 _
  have g0 : Held u1 n 59 #[.string { data := #[113] }, .slice none 0 0] := h0.below b1 (by omega)
  have hb1 : Below n w u1 := b0.trans (b1.mono (by omega))
  have hpr : PredRow u1 u1.heap.size (.slice (some ⟨n, 0, none⟩) 1 1) [⟨⟨[113], []⟩, none, 0⟩] :=
    row_one (d := ⟨⟨[113], []⟩, none, 0⟩) g0 ⟨none, 0, rfl, Nat.le_refl _, Nat.zero_le _, fun _ => rfl, fun h => absurd h (by simp)⟩ ⟨by unfold maxLen; simp, by simp, by simp⟩
  have htr : TrRow u1 u1.heap.size (.slice (some ⟨n + 1, 0, none⟩) 3 3) [⟨1, [], none, 0⟩, ⟨2, [], none, 0⟩, ⟨3, [], none, 0⟩] := ⟨ERow.held (us := flatN [⟨1, [], none, 0⟩, ⟨2, [], none, 0⟩, ⟨3, [], none, 0⟩]) h1 (by omega) (by unfold maxLen; omega), fun d hd => by
    have hd3 : d = ⟨1, [], none, 0⟩ ∨ d = ⟨2, [], none, 0⟩ ∨ d = ⟨3, [], none, 0⟩ := by simpa using hd
    rcases hd3 with rfl | rfl | rfl
    · exact ⟨⟨ERow.nil _ _, by simp⟩, show (0 : Int) ≤ 1 ∧ (1 : Int) < 18446744073709551616 by decide⟩
    · exact ⟨⟨ERow.nil _ _, by simp⟩, show (0 : Int) ≤ 2 ∧ (2 : Int) < 18446744073709551616 by decide⟩
    · exact ⟨⟨ERow.nil _ _, by simp⟩, show (0 : Int) ≤ 3 ∧ (3 : Int) < 18446744073709551616 by decide⟩⟩
  have hck := csizes_any (some ⟨n, 0, none⟩) 1 [⟨⟨[113], []⟩, none, 0⟩] (some ⟨n + 1, 0, none⟩) 3 [⟨1, [], none, 0⟩, ⟨2, [], none, 0⟩, ⟨3, [], none, 0⟩] 2 u1 hpr htr (by simp)
  rw [List.map_cons, List.map_nil, sizes_ex16] at hck
  have HCK := Lib.hid hck
  have HB1 := Lib.hid hb1
  have HU := Lib.hid (And.intro hu0 hu1)
  clear g0 h0 h1 hpr htr hck hb1 b0 b1 hu0 hu1
  go_enter Try.func22, Try.ntmps22
  go_wp2_with fail
  obtain ⟨hu0, hu1⟩ := HU.out
  rw [hu0, hu1]
  refine HCK.out.mono ?_
  rintro e w8 ⟨A8, c8, rfl, hown, hb8⟩
  have HB8 := Lib.hid (HB1.out.trans (hb8.mono (by omega)))
  have z8 := hb8.size
  have hba := (Below.refl w8.heap.size w8).alloc (Nat.le_refl _) (.cells #[.int .i64 2, .int .i64 1] 3)
  have HSM := Lib.hid (rsame16_any [2, 1] A8 (some ⟨w8.heap.size, 0, none⟩) c8 2 (w8.alloc (.cells #[.int .i64 2, .int .i64 1] 3)) (((ERow.of_own hown).below hba).more hba.size) (ERow.new w8 3 (szVs [2, 1]) (n := 2) (by unfold maxLen; omega)))
  have HBA := Lib.hid (HB8.out.trans (hba.mono (by omega)))
  clear hown hb8 hba hu0 hu1
  go_wp2_with fail
  refine HSM.out.mono ?_
  rintro e w9 ⟨rfl, hb9⟩
  have HB9 := Lib.hid (HBA.out.trans (hb9.mono (by rw [World.size_alloc]; omega)))
  go_wp2_with fail
  go_ret
  exact ⟨rfl, by rw [hn]; exact HB9.out⟩
#print axioms fix16_any
end Go.Proofs.Ytlmpicfhbpnpbaa
