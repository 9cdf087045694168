/-
  The document's mark; its own answers for frames.
-/
import Derived.Test.YtlnddmojmgelkaaRows
import Derived.Test.YtlnddmojmgelkaaPlains
import Derived.Test.YtlnddmojmgelkaaSlices
import Derived.WalkKit
import Derived.WalkSpells
import Derived.WalkLawsBesides
import Derived.LoopTactic
import Derived.Lib.Hide
import Derived.Outline
import Derived.Deep.RegionWith
import Derived.Deep.RegionHeld3
import Derived.Test.YtlnddmojmgelkaaPlainFrames
import Derived.Test.YtlnddmojmgelkaaCrcs
import Derived.Deep.QuietTactic
import Derived.BigQuiet
import Derived.Test.YtlnddmojmgelkaaRef
namespace Go.Proofs.Ytlnddmojmgelkaa
open Go.RowKit

/-- string([]byte{..}), of a slice of four cells: the mark. -/
theorem rmark_any (w : World) : Calls Try.prog 62 #[] w fun e w' => e = .returned (.string (strOfNums markL)) ∧ Below w.heap.size w w' := by
  have hcv := fun W b => conv_four W b 199 84 71 1
  go_enter Try.func62, Try.ntmps62
  go_wp2
  go_ret
  exact ⟨rfl, (Below.refl _ _).alloc (Nat.le_refl _) _⟩

end Go.Proofs.Ytlnddmojmgelkaa

namespace Go.Proofs.Ytlnddmojmgelkaa
open Go.RowKit

set_option maxRecDepth 100000 in
set_option maxHeartbeats 1000000 in
theorem rfput_bad (k : Int) (A : Option Addr) (c : Nat) (p : List Int) (hbad : ¬ ((k = 1 ∨ k = 2) ∧ p.length ≤ 4096)) (hsm : p.length ≤ 9223372036854775807) (w : World) :
    Calls Try.prog 37 #[.agg #[.int .i64 k, .slice A p.length c]] w fun e w' => e = .returned (.tuple #[.string ⟨#[]⟩, .int .i64 1]) ∧ Below w.heap.size w w' := by
  by_cases h1 : k < 1
  · clear hbad
    go_enter Try.func37, Try.ntmps37
    go_wp2_with fail
    go_ret2
    exact ⟨rfl, (Below.refl _ _).alloc (Nat.le_refl _) _⟩
  by_cases h2 : 2 < k
  · have h10 : 1 ≤ k := by omega
    clear hbad
    go_enter Try.func37, Try.ntmps37
    go_wp2_with fail
    go_ret2
    exact ⟨rfl, (Below.refl _ _).alloc (Nat.le_refl _) _⟩
  have hl : (4096 : Int) < (p.length : Int) := by
    rcases Nat.lt_or_ge 4096 p.length with h | h
    · omega
    · exact absurd ⟨by omega, h⟩ hbad
  have h10 : 1 ≤ k := by omega
  have h20 : k ≤ 2 := by omega
  clear hbad
  go_enter Try.func37, Try.ntmps37
  go_wp2_with fail
  go_ret2
  exact ⟨rfl, (Below.refl _ _).alloc (Nat.le_refl _) _⟩

set_option maxRecDepth 100000 in
set_option maxHeartbeats 1000000 in
theorem rfput_any (k : Int) (hk : k = 1 ∨ k = 2) (A : Option Addr) (c : Nat) (p : List Int) (hp : p.length ≤ 4096) (hb : ∀ x ∈ p, 0 ≤ x ∧ x < 256) (w : World) (hrow : Row w w.heap.size (.slice A p.length c) p) :
    Calls Try.prog 37 #[.agg #[.int .i64 k, .slice A p.length c]] w fun e w' => e = .returned (.tuple #[.string (strOfNums (encFr k p)), .int .i64 0]) ∧ Below w.heap.size w w' := by
  have h10 : 1 ≤ k := by omega
  have h20 : k ≤ 2 := by omega
  have hk8 : IntKind.u8.wrap k = k := by rw [IntKind.wrap_u8]; omega
  have hu64 : IntKind.u64.wrap (p.length : Int) = (p.length : Int) := by rw [IntKind.wrap_u64]; omega
  have hcv := fun W b => conv_one W b k
  have hlen := encI_ten (n := p.length) (by omega)
  obtain ⟨l1, l2⟩ := hlen
  have ha1 := fun W => add_strs (P := Try.prog) W [k] (encI p.length) (by simp; omega)
  have ha2 := fun W => add_strs (P := Try.prog) W ([k] ++ encI p.length) p (by simp; omega)
  have e1 : [k] ++ encI p.length ++ p = bodyL k p := by simp [bodyL, encT]
  rw [e1] at ha2
  have hbb : ∀ x ∈ bodyL k p, 0 ≤ x ∧ x < 256 := by
    intro x hx
    simp only [bodyL, encT, List.mem_cons, List.mem_append] at hx
    rcases hx with rfl | hx | hx
    · omega
    · exact encI_bytes (by omega) x hx
    · exact hb x hx
  have hbl : (bodyL k p).length ≤ 5000 := by simp [bodyL, encT]; omega
  have ha3 := fun W => add_strs (P := Try.prog) W markL (bodyL k p) (by simp [markL]; omega)
  have hsl := sumX_lt hbb
  have ha4 := fun W => add_strs (P := Try.prog) W (markL ++ bodyL k p) (le4 (sumX (bodyL k p))) (by simp [markL, le4]; omega)
  rw [show markL ++ bodyL k p ++ le4 (sumX (bodyL k p)) = encFr k p by simp [encFr]] at ha4
  have HP := Lib.hid (fun W => rput p.length (by omega) W)
  have HS := Lib.hid (fun W => rsum_any (bodyL k p) hbb (by omega) W)
  have HF := Lib.hid (fun W => rfour_any (sumX (bodyL k p)) hsl W)
  have HROW := Lib.hid hrow
  have HHK := Lib.hid hk
  clear hb hbb hrow e1 hk
  generalize strOfNums ([k] ++ encI p.length) = s1 at ha1 ha2
  generalize hE : encFr k p = ef at ha4 ⊢
  have HE := Lib.hid hE; clear hE
  generalize sumX (bodyL k p) = sb at ha4 HS HF hsl
  generalize strOfNums (le4 sb) = le at ha4 HF
  generalize markL ++ bodyL k p = mb at ha3 ha4
  generalize strOfNums mb = smb at ha3 ha4
  generalize strOfNums (bodyL k p) = sbo at ha2 ha3 HS
  generalize hSM : strOfNums markL = sm at ha3
  have HSM := Lib.hid hSM; clear hSM
  have hall : ∀ W, Below w.heap.size w W → (convert 46 9 (.slice A p.length c)).run Try.prog W = .ok (.string (strOfNums p)) W := fun W h => (HROW.out.below h).convert (P := Try.prog) 46 5 9 Try.underlying46 Try.underlying5 Try.underlying9
  have HALL := Lib.hid hall; clear hall
  have b0 : Below w.heap.size w (w.alloc (.cells #[.int .i64 k, .slice A p.length c] 80)) := (Below.refl _ _).alloc (Nat.le_refl _) _
  have HMK := Lib.hid (fun W => rmark_any W)
  rw [HSM.out] at HMK
  go_enter Try.func37, Try.ntmps37
  go_wp2_with fail
  go_region_held (fun W => Below w.heap.size w W ∧ W.cell? ⟨w.heap.size, 0, none⟩ = some (.int .i64 k) ∧ W.cell? ⟨w.heap.size, 1, none⟩ = some (.slice A p.length c) ∧ (convert 46 9 (.slice A p.length c)).run Try.prog W = .ok (.string (strOfNums p)) W)
    (first
      | exact ⟨b0, by go_simp, by go_simp, HALL.out _ b0⟩
      | exact ⟨b0.drew, by go_simp, by go_simp, HALL.out _ b0.drew⟩
      | exact ⟨(b0.alloc (by simp) _).drew, by go_simp, by go_simp, HALL.out _ (b0.alloc (by simp) _).drew⟩
      | exact ⟨b5, (hb5.cell (p := ⟨w.heap.size, 0, none⟩) (by simp <;> omega)).trans (by go_simp), (hb5.cell (p := ⟨w.heap.size, 1, none⟩) (by simp <;> omega)).trans (by go_simp), HALL.out _ b5⟩
      | (go_split_ands; exact ⟨b5.alloc b5.size _, by go_keep, by go_keep, HALL.out _ (b5.alloc b5.size _)⟩))
    (first
      | (go_at_call 61; refine (HP.out _).mono ?_; rintro e w5 ⟨rfl, hb5⟩; have b5 : Below w.heap.size w w5 := (by first | exact b0.drew.trans (hb5.mono (by simp)) | exact (b0.alloc (by simp) _).drew.trans (hb5.mono (by simp <;> omega))); have hcl := fun h => hb5.cell (p := ⟨w.heap.size + 1, 0, none⟩) h))
  all_goals
    have hz5 := b5.size
    have B5 := Lib.hid b5
    clear b5 hb5 b0 hcl
    go_wp2_with fail
    refine (HMK.out _).mono ?_
    rintro e w6 ⟨rfl, hb6⟩
    go_wp2_with fail
    refine (HS.out _).mono ?_
    rintro e w7 ⟨rfl, rfl⟩
    go_wp2_with fail
    refine (HF.out _).mono ?_
    rintro e w8 ⟨rfl, hb8⟩
    go_wp2_with fail
    go_ret2
    refine ⟨rfl, ?_⟩
    first
      | exact (B5.out.trans (hb6.mono hz5)).trans (hb8.mono (Nat.le_trans hz5 hb6.size))
      | exact ((B5.out.alloc hz5 _).trans (hb6.mono (by simp; omega))).trans (hb8.mono (by have := hb6.size; simp at this; omega))
#print axioms rfput_any

end Go.Proofs.Ytlnddmojmgelkaa
