/-
  The document's own answers for this layer: a number's bytes as a text, and the number of a text.
-/
import Derived.Test.YtlmpicfhbpnpbaaRows
import Derived.Test.YtlmpicfhbpnpbaaPlains
import Derived.Test.YtlmpicfhbpnpbaaSlices
import Derived.WalkKit
import Derived.WalkSpells
import Derived.WalkLawsBesides
import Derived.LoopTactic
import Derived.Lib.Hide
import Derived.Outline
import Derived.Deep.RegionWith
import Derived.Deep.RegionHeld3
namespace Go.Proofs.Ytlmpicfhbpnpbaa
open Go.RowKit

/-- string([]byte{x}), of a slice of one cell, wherever that lies. -/
theorem conv_one (W : World) (b : Nat) (x : Int) (h : W.cell? ⟨b, 0, none⟩ = some (.int .u8 x)) : (convert 46 9 (.slice (some ⟨b, 0, none⟩) 1 1)).run Try.prog W = .ok (.string (strOfNums [x])) W := by
  refine run_convert_bytes_arg (P := Try.prog) W 46 5 Try.underlying46 Try.underlying5 b 0 1 1 [x] rfl ?_ 9 Try.underlying9
  intro i hi
  have hi0 : i = 0 := by omega
  subst hi0
  simpa using h

set_option maxRecDepth 100000 in
theorem rput_small (n : Nat) (w : World) (hs : n < 128) :
    Calls Try.prog 63 #[.int .u64 n] w fun e w' => e = .returned (.string (strOfNums (encI n))) ∧ Below w.heap.size w w' := by
  have hcv := fun W b => conv_one W b (n : Int)
  have e1 := encI_small hs
  have E1 := Lib.hid e1; clear e1
  go_enter Try.func63, Try.ntmps63
  go_wp2_with fail
  go_ret
  exact ⟨by rw [E1.out]; rfl, (Below.refl _ _).alloc (Nat.le_refl _) _⟩

set_option maxRecDepth 100000 in
set_option maxHeartbeats 2000000 in
theorem rput_any (k : Nat) : ∀ (n : Nat) (w : World), n < 128 ^ (k + 1) → n < 18446744073709551616 →
    Calls Try.prog 63 #[.int .u64 n] w fun e w' => e = .returned (.string (strOfNums (encI n))) ∧ Below w.heap.size w w' := by
  induction k with
  | zero => intro n w h1 h2; exact rput_small n w (by omega)
  | succ k ih =>
    intro n w h1 h2
    by_cases hs : n < 128
    · exact rput_small n w hs
    · have hge : ¬ ((n : Int) < 128) := by omega
      have ih2 := fun w => ih (n / 128) w (by rw [Nat.pow_succ] at h1; omega) (by omega)
      rw [show (((n / 128 : Nat)) : Int) = (n : Int) / 128 by omega] at ih2
      have IH := Lib.hid ih2; clear ih2 ih h1
      have e1 := encI_great hs
      rw [Int.add_comm] at e1
      have E1 := Lib.hid e1; clear e1
      have hcv := fun W b => conv_one W b (128 + (n : Int) % 128)
      have t1 : (n : Int).tmod 128 = (n : Int) % 128 := by rw [Int.tmod_eq_emod_of_nonneg (by omega)]
      have t2 : IntKind.u64.wrap (128 + (n : Int) % 128) = 128 + (n : Int) % 128 := by rw [IntKind.wrap_u64]; omega
      have t3 : IntKind.u8.wrap (128 + (n : Int) % 128) = 128 + (n : Int) % 128 := by rw [IntKind.wrap_u8]; omega
      have t4 : IntKind.u64.wrap ((n : Int) / 128) = (n : Int) / 128 := by rw [IntKind.wrap_u64]; omega
      have hlen := (encI_ten (n := n / 128) (by omega)).2
      have hadd : ∀ W, (Op.stringOp .add (strOfNums [128 + (n : Int) % 128]) (strOfNums (encI (n / 128)))).run Try.prog W = .ok (.string (strOfNums ((128 + (n : Int) % 128) :: encI (n / 128)))) W := fun W => by
        rw [run_string_add_sum (P := Try.prog) (w := W) _ _ (by rw [strOfNums_size, strOfNums_size]; simp; omega), str_append]; rfl
      clear hlen
      go_enter Try.func63, Try.ntmps63
      go_wp2_with fail
      go_region_with (go_at_call 63; refine (IH.out _).mono ?_; rintro e w1 ⟨rfl, hb⟩; have hcl := fun h => hb.cell (p := ⟨w.heap.size, 0, none⟩) h)
      all_goals go_wp2_with fail
      all_goals go_ret
      all_goals refine ⟨by rw [E1.out]; rfl, ?_⟩
      all_goals first
        | exact ((Below.refl w.heap.size w).alloc (Nat.le_refl _) _).drew.trans (hb.mono (by simp))
        | exact ((Below.refl w.heap.size w).drew.trans (hb.mono (by simp))).alloc (by have := hb.size; simpa using this) _

theorem rput (n : Nat) (hn : n < 18446744073709551616) (w : World) :
    Calls Try.prog 63 #[.int .u64 n] w fun e w' => e = .returned (.string (strOfNums (encI n))) ∧ Below w.heap.size w w' := rput_any 9 n w (by omega) hn
end Go.Proofs.Ytlmpicfhbpnpbaa
