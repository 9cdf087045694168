/-
  The chapter's example of layer 11.
-/
import Derived.Test.YtnjhkjlekepjoaaSigbinPut
namespace Go.Proofs.Ytnjhkjlekepjoaa
open Go.RowKit

theorem put_ex : putS [⟨[112], [1]⟩] = ([1, 1, 112, 1, 1], 0) := by decide +kernel
theorem str_ex : strOfNums [1, 1, 112, 1, 1] = ⟨#[1, 1, 112, 1, 1]⟩ := rfl

set_option maxRecDepth 100000 in
set_option maxHeartbeats 1000000 in
theorem bfix_any (w : World) : Calls Try.prog 7 #[] w fun e w' => e = .returned (.bool true) ∧ Below w.heap.size w w' := by
  obtain ⟨n, hn⟩ : ∃ n, w.heap.size = n := ⟨_, rfl⟩
  rw [hn]
  have HNW := Lib.hid hn
  go_enter Try.func7, Try.ntmps7
  go_wp2_with fail
  obtain ⟨v2, hv2⟩ : ∃ v2, w.alloc (.cells #[.int .i64 1] 3) = v2 := ⟨_, rfl⟩
  have g2 : Held v2 n 3 #[.int .i64 1] := by rw [← hv2, ← hn]; exact heap_alloc_new w _
  have s2 : v2.heap.size = n + 1 := by rw [← hv2, ← hn]; simp
  have b2 : Below n w v2 := by rw [← hv2, ← hn]; exact (Below.refl _ _).alloc (Nat.le_refl _) _
  rw [hv2]
  obtain ⟨v3, hv3⟩ : ∃ v3, v2.alloc (.cells #[.string { data := #[112] }, .slice (some ⟨n, 0, none⟩) 1 1] 45) = v3 := ⟨_, rfl⟩
  have g3 : Held v3 (n + 1) 45 #[.string { data := #[112] }, .slice (some ⟨n, 0, none⟩) 1 1] := by rw [← hv3, ← s2]; exact heap_alloc_new v2 _
  have b3 : Below (n + 1) v2 v3 := by rw [← hv3, ← s2]; exact (Below.refl _ _).alloc (Nat.le_refl _) _
  rw [hv3]
  have s3 := g3.lt
  have HB3 := Lib.hid (b2.trans (b3.mono (Nat.le_succ n)))
  have hrow : PredRow v3 v3.heap.size (.slice (some ⟨n + 1, 0, none⟩) 1 1) [⟨⟨[112], [1]⟩, some ⟨n, 0, none⟩, 1⟩] :=
    row_one (d := ⟨⟨[112], [1]⟩, some ⟨n, 0, none⟩, 1⟩) g3 (one_int (g2.below b3 (by omega)) (by omega)) ⟨by unfold maxLen; simp, by simp, by simp⟩
  have hcall := sbput_any (some ⟨n + 1, 0, none⟩) 1 [⟨⟨[112], [1]⟩, some ⟨n, 0, none⟩, 1⟩] v3 hrow
  rw [List.map_cons, List.map_nil, put_ex] at hcall
  have HC := Lib.hid hcall
  have hn3 : n ≤ v3.heap.size := by omega
  clear hcall hrow b2 b3 g2 g3 s2 s3 hv2 hv3 hn
  refine HC.out.mono ?_
  rintro e w4 ⟨A4, c4, rfl, hown, hb4⟩
  have HB4 := Lib.hid (HB3.out.trans (hb4.mono hn3))
  have hcv := fun W (h : Below w4.heap.size w4 W) => ((Row.of_own hown).below h).convert (P := Try.prog) 25 5 9 Try.underlying25 Try.underlying5 Try.underlying9
  rw [str_ex] at hcv
  have hcv1 : (convert 25 9 (.slice A4 5 c4)).run Try.prog w4 = .ok (.string ⟨#[1, 1, 112, 1, 1]⟩) w4 := hcv w4 (Below.refl _ _)
  clear hown hb4 hcv
  go_wp2_with fail
  go_ret
  exact ⟨rfl, HB4.out⟩
#print axioms bfix_any
end Go.Proofs.Ytnjhkjlekepjoaa
