/-
  What block's Frame answers.
-/
import Derived.Test.YtlnddmojmgelkaaBlockCode
namespace Go.Proofs.Ytlnddmojmgelkaa
open Go.RowKit
set_option linter.unusedVariables false

theorem encFr_two_byte {p : List Int} (hp : p.length ≤ 4096) (hb : ∀ x ∈ p, 0 ≤ x ∧ x < 256) : ∀ x ∈ encFr 2 p, 0 ≤ x ∧ x < 256 := by
  intro x hx
  have hbody := bodyL_byte (k := 2) (.inr rfl) hp hb
  simp only [encFr, List.mem_append] at hx
  rcases hx with hx | hx | hx
  · exact markL_byte x hx
  · exact hbody x hx
  · exact le4_byte (sumX_lt hbody) x hx

set_option maxRecDepth 100000 in
set_option maxHeartbeats 1000000 in
theorem bframe_any (A : Option Addr) (c : Nat) (ds : List Pd) (T : Option Addr) (ct : Nat) (ps : List Pm) (w : World) (hrow : PredRow w w.heap.size (.slice A ds.length c) ds) (ht : TrRow w w.heap.size (.slice T ps.length ct) ps) :
    Calls Try.prog 19 #[.slice A ds.length c, .slice T ps.length ct] w (BGot w (frameB (ds.map (·.p)) ps)) := by
  have hput := blput_any A c ds T ct ps w hrow ht
  unfold frameB
  by_cases h0 : (putB (ds.map (·.p)) ps).2 = 0
  · rw [if_pos h0]
    obtain ⟨h1, h2, h3⟩ := putB_ok h0
    have hby := payB_bytes (ht.bok h1)
    clear hrow ht
    rw [h3] at hput ⊢
    dsimp only at hput ⊢
    generalize payB ps = p at hput h2 hby ⊢
    have HP := Lib.hid hput
    have HBY := Lib.hid hby
    clear hput hby h0 h1 h3
    go_enter Try.func19, Try.ntmps19
    go_wp2_with fail
    refine HP.out.mono ?_
    rintro e w1 ⟨A1, c1, rfl, hown, hb1⟩
    have HF := Lib.hid (fput_any 2 (.inr rfl) A1 c1 p h2 HBY.out w1 (Row.of_own hown))
    have HB1 := Lib.hid hb1
    clear hown hb1
    go_wp2_with fail
    refine HF.out.mono ?_
    rintro e w2 ⟨cap, g, rfl, hown2, hb2⟩
    have HO2 := Lib.hid (own_base hown2 HB1.out.size)
    have HB2 := Lib.hid (HB1.out.trans (hb2.mono HB1.out.size))
    clear hown2 hb2
    go_wp2_with fail
    go_ret2
    exact ⟨_, _, rfl, HO2.out, HB2.out⟩
  · rw [if_neg h0]
    have hne : ((putB (ds.map (·.p)) ps).2 != 0) = true := bne_iff_ne.2 h0
    generalize putB (ds.map (·.p)) ps = C at hput hne ⊢
    have HP := Lib.hid hput
    clear hput h0 hrow ht
    go_enter Try.func19, Try.ntmps19
    go_wp2_with fail
    refine HP.out.mono ?_
    rintro e w1 ⟨A1, c1, rfl, hown, hb1⟩
    have HB1 := Lib.hid hb1
    clear hown hb1
    go_wp2_with fail
    go_ret2
    exact ⟨none, 0, rfl, World.ownsRow_nil _ _ _ _, HB1.out⟩
#print axioms bframe_any
end Go.Proofs.Ytlnddmojmgelkaa
