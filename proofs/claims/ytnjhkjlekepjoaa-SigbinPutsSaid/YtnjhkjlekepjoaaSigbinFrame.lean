/-
  What sigbin.Frame answers: the bytes of a signature's frame.
-/
import Derived.Test.YtnjhkjlekepjoaaSigbinPut
import Derived.Test.YtnjhkjlekepjoaaFramePut
namespace Go.Proofs.Ytnjhkjlekepjoaa
open Go.RowKit

theorem encFr_one_byte {p : List Int} (hp : p.length ≤ 4096) (hb : ∀ x ∈ p, 0 ≤ x ∧ x < 256) : ∀ x ∈ encFr 1 p, 0 ≤ x ∧ x < 256 := by
  intro x hx
  have hbody := bodyL_byte (k := 1) (.inl rfl) hp hb
  simp only [encFr, List.mem_append] at hx
  rcases hx with hx | hx | hx
  · exact markL_byte x hx
  · exact hbody x hx
  · exact le4_byte (sumX_lt hbody) x hx
/-- What Frame answers. -/
def frameS (l : List Pr) : List Int × Int := if checkP l = 0 then (encFr 1 (encS l), 0) else ([], checkP l)

set_option maxRecDepth 100000 in
set_option maxHeartbeats 1000000 in
theorem framed_any (A : Option Addr) (c : Nat) (p : List Int) (hp : p.length ≤ 4096) (hb : ∀ x ∈ p, 0 ≤ x ∧ x < 256) (w : World) (hrow : Row w w.heap.size (.slice A p.length c) p) :
    Calls Try.prog 22 #[.slice A p.length c] w (PutGot w (encFr 1 p, 0)) := by
  have HP := Lib.hid (fput_any 1 (.inl rfl) A c p hp hb w hrow)
  have hpi : (p.length : Int) ≤ 4096 := by omega
  clear hrow hb
  go_enter Try.func22, Try.ntmps22
  go_wp2_with fail
  refine HP.out.mono ?_
  rintro e w1 ⟨cap, g, rfl, hown, hb1⟩
  have HO := Lib.hid hown
  clear hown
  go_wp2_with fail
  go_ret2
  exact ⟨_, _, rfl, HO.out, hb1⟩
#print axioms framed_any

set_option maxRecDepth 100000 in
set_option maxHeartbeats 1000000 in
theorem sbframe_any (A : Option Addr) (c : Nat) (ds : List Pd) (w : World) (hrow : PredRow w w.heap.size (.slice A ds.length c) ds) :
    Calls Try.prog 10 #[.slice A ds.length c] w (PutGot w (frameS (ds.map (·.p)))) := by
  have hput := sbput_any A c ds w hrow
  clear hrow
  unfold frameS
  unfold putS at hput
  by_cases h0 : checkP (ds.map (·.p)) = 0
  · rw [if_pos h0] at hput ⊢
    obtain ⟨_, hl⟩ := encS_le h0
    have hby := encS_bytes h0
    generalize encS (ds.map (·.p)) = p at hput hl hby ⊢
    have HP := Lib.hid hput
    have HBY := Lib.hid hby
    clear hput hby h0
    go_enter Try.func10, Try.ntmps10
    go_wp2_with fail
    refine HP.out.mono ?_
    rintro e w1 ⟨A1, c1, rfl, hown, hb1⟩
    have HF := Lib.hid (framed_any A1 c1 p (by omega) HBY.out w1 (Row.of_own hown))
    have HB1 := Lib.hid hb1
    clear hown hb1
    go_wp2_with fail
    refine HF.out.mono ?_
    rintro e w2 ⟨A2, c2, rfl, hown2, hb2⟩
    have HO2 := Lib.hid (own_base hown2 HB1.out.size)
    have HB2 := Lib.hid (HB1.out.trans (hb2.mono HB1.out.size))
    clear hown2 hb2
    go_wp2_with fail
    go_ret2
    exact ⟨A2, c2, rfl, HO2.out, HB2.out⟩
  · rw [if_neg h0] at hput ⊢
    have hne : (checkP (ds.map (·.p)) != 0) = true := bne_iff_ne.2 h0
    generalize checkP (ds.map (·.p)) = C at hput hne ⊢
    have HP := Lib.hid hput
    clear hput h0
    go_enter Try.func10, Try.ntmps10
    go_wp2_with fail
    refine HP.out.mono ?_
    rintro e w1 ⟨A1, c1, rfl, hown, hb1⟩
    have HB1 := Lib.hid hb1
    clear hown hb1
    go_wp2_with fail
    go_ret2
    exact ⟨none, 0, rfl, World.ownsRow_nil _ _ _ _, HB1.out⟩
#print axioms sbframe_any
end Go.Proofs.Ytnjhkjlekepjoaa
