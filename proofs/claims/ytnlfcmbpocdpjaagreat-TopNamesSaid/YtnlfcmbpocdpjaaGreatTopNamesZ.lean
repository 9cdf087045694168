/-
  The law on the numbers of errors, kinds, types and limits answers true, and nothing that lay in memory has changed. No condition.
-/
import Derived.Test.YtnlfcmbpocdpjaaGreatRows
import Derived.WalkKit
import Derived.ProofKit
import Derived.OpenShut
import Derived.ShutString
import Derived.ChangeOld
import Derived.Below
import Derived.Lib.SmallJoins
import Derived.Deep.LoopGhost
import Derived.Test.YtnlfcmbpocdpjaaGreatTopNamesZ13
set_option maxRecDepth 100000
set_option maxHeartbeats 16000000
namespace Go.Proofs.YtnlfcmbpocdpjaaGreat.topNames
open Lib (hid)
open Go.Proofs.YtnlfcmbpocdpjaaGreat
open Go.ChangeShapes Go.WideShapes Go.ChangeAt Go.RowKit
open Go.ChangeMaps (open_string shut_string)
set_option linter.unusedVariables false
theorem own : ownKnob Tryz.prog.godebug = none := by kernel_rfl
theorem walk (w : World) :
  Calls Tryz.prog 7 #[] w fun e w' => e = .returned (.bool true) ∧ Below w.heap.size w w' := by
 obtain ⟨u, hu⟩ : ∃ u, w.alloc (.cells #[.int .i64 0, .int .i64 1, .int .i64 2, .int .i64 3, .int .i64 4, .int .i64 5, .int .i64 6, .int .i64 7, .int .i64 8, .int .i64 9, .int .i64 10] 32) = u := ⟨_, rfl⟩
 have bu : Below w.heap.size w u := by rw [← hu]; exact (Below.refl _ _).alloc (Nat.le_refl _) _
 have su : u.heap.size = w.heap.size + 1 := by rw [← hu, World.size_alloc]
 have hc : ∀ k : Nat, k < 11 → u.cell? ⟨w.heap.size, k, none⟩ = some (.int .i64 (k : Int)) := fun k hk => by
  have hh : Held u w.heap.size 32 #[.int .i64 0, .int .i64 1, .int .i64 2, .int .i64 3, .int .i64 4, .int .i64 5, .int .i64 6, .int .i64 7, .int .i64 8, .int .i64 9, .int .i64 10] := by rw [← hu]; exact heap_alloc_new w _
  rw [hh.cell k]
  rcases (show k = 0 ∨ k = 1 ∨ k = 2 ∨ k = 3 ∨ k = 4 ∨ k = 5 ∨ k = 6 ∨ k = 7 ∨ k = 8 ∨ k = 9 ∨ k = 10 by omega) with rfl | rfl | rfl | rfl | rfl | rfl | rfl | rfl | rfl | rfl | rfl <;> rfl
 have HC := hid hc
 have HBU := hid bu
 have HSP := hid (speaks_any u)
 clear hc bu
 go_enter Tryz.func7, Tryz.ntmps7
 go_wp2_with fail
 go_loopg [8] 11 (fun gk iv wr => ∃ k : Nat, iv = .int .i64 k ∧ k ≤ 11 ∧ Hid (11 - k = gk) ∧ wr = u)
 case atStart => exact ⟨0, rfl, by omega, hid rfl, rfl⟩
 case round =>
  obtain ⟨k, rfl, hk, HGK, hww⟩ := hrel
  obtain rfl : u = wr := hww.symm
  by_cases hlt : k < 11
  ·have x0 := HC.out k hlt
   have hki : (k : Int) < 11 := by omega
   go_wp2_with fail
   go_roundg (11 - (k + 1))
   case measure => have := HGK.out; omega
   case rel => exact ⟨k + 1, by go_num, hlt, hid rfl, rfl⟩
  ·obtain rfl : k = 11 := by omega
   go_wp2_with fail
   refine HSP.out.mono ?_
   rintro e w3 ⟨rfl, hb3⟩
   have HB3 := hid (HBU.out.trans (hb3.mono HBU.out.size))
   clear hb3
   go_wp2_with fail
   go_ret
   exact ⟨rfl, HB3.out⟩
theorem lifted (os : Os) (started : os.Started) (H : Type) (enc : TypeId × Value → H) :
  ReturnsInHanded {} Tryz.checked os 7 .any (Rows.topNamesSpec.pre6 enc Tryz.prog Tryz.f7 Rows.topNamesRow.domain false) (Rows.topNamesSpec.post enc Tryz.prog Tryz.f7 false true false false) := by
 refine returnsInHanded_of_change (C := Tryz.checked) own started (by kernel_rfl) Tryz.func7
  (ChangeSpec.witness6 (enc := enc) (C := Tryz.checked) false ⟨#[], #[], []⟩ 8 (by kernel_rfl) (by kernel_rfl) (by kernel_rfl) (by kernel_rfl)) ?_
 intro W base args ds gs before hval0 hW hcnd _
 have hval : ∀ (j : Nat) t v, Tryz.f7.params[j]? = some t → args[j]? = some v → Value.okWide Tryz.prog W .any base t v := hval0
 have hW' := hW
 obtain ⟨p, q, hA0, hV, rfl, hfz, hnd⟩ := hW
 have hA : DataW.TrodAll enc Tryz.prog W 0 (fun _ => true) true Tryz.f7.params.toList args.toList ds p := hA0
 rw [Tryz.params7] at hA hval
 obtain ⟨hargs, rfl, rfl⟩ := trodAll_nil hA
 obtain rfl : args = #[] := by cases args; simp_all
 obtain ⟨rfl, rfl⟩ := trodVars_none hV
 clear hA0 hval0
 refine (walk W).mono fun e W' ⟨he, bel⟩ => ?_
 subst he
 exact ⟨_, rfl, _, _, _, [], _, [], hW', trodAll_mk1 (shut_bool Tryz.underlying4 _), (trodAll_mk0), rfl, bel.frame _, fun h => by cases h⟩
theorem over : Rows.topNamesRow.holds Tryz.pinned (OpenSpec.ofChange Rows.topNamesSpec) :=
 OpenClaim.holds_of_wide 7 Tryz.f7 rfl rfl rfl rfl rfl rfl rfl ⟨rfl, rfl, rfl, rfl, rfl⟩ rfl rfl rfl rfl rfl (by kernel_rfl) Tryz.func7 (by kernel_rfl)
  (of_decide_eq_true (by kernel_rfl)) (by unfold Func.isWrapper; first | (rw [if_pos (by decide +kernel)]; kernel_rfl) | (rw [if_neg (by decide +kernel)]; exact ⟨rfl, rfl⟩))
  (fun os started H enc _ => lifted os started H enc)
theorem proved : Rows.TopNamesSaid := over
end Go.Proofs.YtnlfcmbpocdpjaaGreat.topNames
