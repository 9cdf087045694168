/-
  The chapter's example of layer 14.
-/
import Derived.Test.YtlnddmojmgelkaaBlockCode
import Derived.Test.YtlnddmojmgelkaaTraceApp
namespace Go.Proofs.Ytlnddmojmgelkaa
open Go.RowKit Go.ChangeShapes Go.WideShapes
set_option linter.unusedVariables false

theorem put_ex14 (A1 A2 : Option Addr) (c1 c2 : Nat) : putB [⟨[112], [1]⟩] [⟨5, [⟨0, [⟨1, 3, []⟩], A1, c1⟩], A2, c2⟩] = ([5, 1, 0, 1, 0, 6], 0) := by rfl
theorem str_ex14 : strOfNums [5, 1, 0, 1, 0, 6] = ⟨#[5, 1, 0, 1, 0, 6]⟩ := rfl

set_option maxRecDepth 100000 in
set_option maxHeartbeats 1000000 in
theorem fix14_any (w : World) : Calls Try.prog 16 #[] w fun e w' => e = .returned (.bool true) ∧ Below w.heap.size w w' := by
  obtain ⟨n, hn⟩ : ∃ n, w.heap.size = n := ⟨_, rfl⟩
  obtain ⟨u0, hu0⟩ : ∃ u, w.alloc (.cells #[.int .i64 1] 3) = u := ⟨_, rfl⟩
  have s0 : u0.heap.size = n + 1 := by rw [← hu0, World.size_alloc, hn]
  have b0 : Below (n) w u0 := by rw [← hu0]; exact (Below.refl _ _).alloc (by omega) _
  have h0 : Held u0 (n) 3 #[.int .i64 1] := by rw [← hu0, ← hn]; exact heap_alloc_new w _
  obtain ⟨u1, hu1⟩ : ∃ u, u0.alloc (.cells #[.string { data := #[112] }, .slice (some ⟨n, 0, none⟩) 1 1] 58) = u := ⟨_, rfl⟩
  have s1 : u1.heap.size = n + 2 := by rw [← hu1, World.size_alloc, s0]
  have b1 : Below (n + 1) u0 u1 := by rw [← hu1]; exact (Below.refl _ _).alloc (by omega) _
  have h1 : Held u1 (n + 1) 58 #[.string { data := #[112] }, .slice (some ⟨n, 0, none⟩) 1 1] := by rw [← hu1, ← s0]; exact heap_alloc_new u0 _
  obtain ⟨u2, hu2⟩ : ∃ u, u1.alloc (.cells #[.int .i64 1, .int .i64 3, .string { data := #[] }] 60) = u := ⟨_, rfl⟩
  have s2 : u2.heap.size = n + 3 := by rw [← hu2, World.size_alloc, s1]
  have b2 : Below (n + 2) u1 u2 := by rw [← hu2]; exact (Below.refl _ _).alloc (by omega) _
  have h2 : Held u2 (n + 2) 60 #[.int .i64 1, .int .i64 3, .string { data := #[] }] := by rw [← hu2, ← s1]; exact heap_alloc_new u1 _
  obtain ⟨u3, hu3⟩ : ∃ u, u2.alloc (.cells #[.int .i64 0, .slice (some ⟨n + 2, 0, none⟩) 1 1] 42) = u := ⟨_, rfl⟩
  have s3 : u3.heap.size = n + 4 := by rw [← hu3, World.size_alloc, s2]
  have b3 : Below (n + 3) u2 u3 := by rw [← hu3]; exact (Below.refl _ _).alloc (by omega) _
  have h3 : Held u3 (n + 3) 42 #[.int .i64 0, .slice (some ⟨n + 2, 0, none⟩) 1 1] := by rw [← hu3, ← s2]; exact heap_alloc_new u2 _
  obtain ⟨u4, hu4⟩ : ∃ u, u3.alloc (.cells #[.int .u64 5, .slice (some ⟨n + 3, 0, none⟩) 1 1] 39) = u := ⟨_, rfl⟩
  have s4 : u4.heap.size = n + 5 := by rw [← hu4, World.size_alloc, s3]
  have b4 : Below (n + 4) u3 u4 := by rw [← hu4]; exact (Below.refl _ _).alloc (by omega) _
  have h4 : Held u4 (n + 4) 39 #[.int .u64 5, .slice (some ⟨n + 3, 0, none⟩) 1 1] := by rw [← hu4, ← s3]; exact heap_alloc_new u3 _
  have g0 : Held u4 (n) 3 #[.int .i64 1] := ((((h0.below b1 (by omega)).below b2 (by omega)).below b3 (by omega)).below b4 (by omega))
  have g1 : Held u4 (n + 1) 58 #[.string { data := #[112] }, .slice (some ⟨n, 0, none⟩) 1 1] := (((h1.below b2 (by omega)).below b3 (by omega)).below b4 (by omega))
  have g2 : Held u4 (n + 2) 60 #[.int .i64 1, .int .i64 3, .string { data := #[] }] := ((h2.below b3 (by omega)).below b4 (by omega))
  have g3 : Held u4 (n + 3) 42 #[.int .i64 0, .slice (some ⟨n + 2, 0, none⟩) 1 1] := (h3.below b4 (by omega))
  have hb4 : Below n w u4 := (((b0.trans (b1.mono (by omega))).trans (b2.mono (by omega))).trans (b3.mono (by omega))).trans (b4.mono (by omega))
  have hpr : PredRow u4 u4.heap.size (.slice (some ⟨n + 1, 0, none⟩) 1 1) [⟨⟨[112], [1]⟩, some ⟨n, 0, none⟩, 1⟩] :=
    row_one (d := ⟨⟨[112], [1]⟩, some ⟨n, 0, none⟩, 1⟩) g1 (one_int (g0) (by omega)) ⟨by unfold maxLen; simp, by simp, by simp⟩
  have hgr : GRow u4 u4.heap.size (.slice (some ⟨n + 2, 0, none⟩) 1 1) [⟨1, 3, []⟩] := ⟨ERow.held (us := flatG [⟨1, 3, []⟩]) g2 (by omega) (by unfold maxLen; omega), fun a ha => by obtain rfl := List.mem_singleton.1 ha; exact ⟨by simp, by simp, by decide, by decide⟩⟩
  have hem : EvRow u4 u4.heap.size (.slice (some ⟨n + 3, 0, none⟩) 1 1) [⟨0, [⟨1, 3, []⟩], some ⟨n + 2, 0, none⟩, 1⟩] := ⟨ERow.held (us := flatE [⟨0, [⟨1, 3, []⟩], some ⟨n + 2, 0, none⟩, 1⟩]) g3 (by omega) (by unfold maxLen; omega), fun d hd => by
    obtain rfl := List.mem_singleton.1 hd
    exact ⟨hgr, show (-9223372036854775808 : Int) ≤ 0 ∧ (0 : Int) ≤ 9223372036854775807 by decide⟩⟩
  have htr : TrRow u4 u4.heap.size (.slice (some ⟨n + 4, 0, none⟩) 1 1) [⟨5, [⟨0, [⟨1, 3, []⟩], some ⟨n + 2, 0, none⟩, 1⟩], some ⟨n + 3, 0, none⟩, 1⟩] := ⟨ERow.held (us := flatN [⟨5, [⟨0, [⟨1, 3, []⟩], some ⟨n + 2, 0, none⟩, 1⟩], some ⟨n + 3, 0, none⟩, 1⟩]) h4 (by omega) (by unfold maxLen; omega), fun d hd => by
    obtain rfl := List.mem_singleton.1 hd
    exact ⟨hem, show (0 : Int) ≤ 5 ∧ (5 : Int) < 18446744073709551616 by decide⟩⟩
  have hck := blput_any (some ⟨n + 1, 0, none⟩) 1 [⟨⟨[112], [1]⟩, some ⟨n, 0, none⟩, 1⟩] (some ⟨n + 4, 0, none⟩) 1 [⟨5, [⟨0, [⟨1, 3, []⟩], some ⟨n + 2, 0, none⟩, 1⟩], some ⟨n + 3, 0, none⟩, 1⟩] u4 hpr htr
  rw [List.map_cons, List.map_nil, put_ex14] at hck
  have HCK := Lib.hid hck
  have HB4 := Lib.hid hb4
  have z4 : n ≤ u4.heap.size := by omega
  clear g0 g1 g2 g3 h0 h1 h2 h3 h4 hpr hgr hem htr hck hb4 b0 b1 b2 b3 b4
  have HU := Lib.hid (And.intro hu0 (And.intro hu1 (And.intro hu2 (And.intro hu3 hu4))))
  clear hu0 hu1 hu2 hu3 hu4
  go_enter Try.func16, Try.ntmps16
  go_wp2_with fail
  obtain ⟨hu0, hu1, hu2, hu3, hu4⟩ := HU.out
  rw [hu0, hu1, hu2, hu3, hu4]
  refine HCK.out.mono ?_
  rintro e w8 ⟨A8, c8, rfl, hown, hb8⟩
  have HB8 := Lib.hid (HB4.out.trans (hb8.mono (by omega)))
  have hcv := (Row.of_own hown).convert (P := Try.prog) 46 5 9 Try.underlying46 Try.underlying5 Try.underlying9
  rw [str_ex14] at hcv
  have hcv1 : (convert 46 9 (.slice A8 6 c8)).run Try.prog w8 = .ok (.string ⟨#[5, 1, 0, 1, 0, 6]⟩) w8 := hcv
  clear hown hb8 hcv hu0 hu1 hu2 hu3 hu4
  go_wp2_with fail
  go_ret
  exact ⟨rfl, by rw [hn]; exact HB8.out⟩
#print axioms fix14_any
end Go.Proofs.Ytlnddmojmgelkaa
