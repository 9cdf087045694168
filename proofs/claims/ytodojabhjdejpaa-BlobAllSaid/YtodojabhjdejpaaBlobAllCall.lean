/-
  blob.All: the texts of bytes, or why they are none's.
-/
import Derived.Test.YtodojabhjdejpaaBlobGet
import Derived.Test.YtodojabhjdejpaaCells
import Derived.Deep.RegionLaw
import Derived.OwnWalk
import Derived.WalkMore
import Derived.Deep.LoopGhost
namespace Go.Proofs.Ytodojabhjdejpaa
open Go.RowKit

theorem Try.infoStr : (Try.prog.info? 9).map (fun i => (i.zero, i.size, i.bytes)) = some (some (.string ⟨#[]⟩), 1, 16) := by kernel_rfl

set_option maxRecDepth 100000 in
set_option maxHeartbeats 1000000 in
/-- blob.All. -/
theorem ball_any (A : Option Addr) (c : Nat) (xs : List Int) (most : Int) (hm0 : -9223372036854775808 ≤ most) (hm1 : most ≤ 9223372036854775807) (w : World) (hrow : Row w w.heap.size (.slice A xs.length c) xs) (hb : ∀ x ∈ xs, 0 ≤ x ∧ x < 256) (hl : xs.length ≤ 1000000000) :
    Calls Try.prog 25 #[.slice A xs.length c, .int .i64 most] w fun e W' => ∃ v, e = .returned (.tuple #[v, .int .i64 (allT most xs).2]) ∧ W'.ownsRow w.heap.size 9 1 v (allT most xs).1.length (strVs (allT most xs).1) ∧ Below w.heap.size w W' := by
  obtain ⟨i0, hi, hz0, hz1, hz2⟩ := info_parts Try.infoStr
  have HROW := Lib.hid hrow; clear hrow
  have HB := Lib.hid hb; clear hb
  go_enter Try.func25, Try.ntmps25
  go_wp2_with fail
  go_step3
  go_wp2_with fail
  go_step3
  go_wp2_with fail
  go_loopg [6, 7, 8] xs.length (fun g v0 y r wr => ∃ (v : Value) (ys : List Int) (pre : List (List Int)) (A2 : Option Addr) (c2 : Nat), v = v0 ∧ y = .int .i64 0 ∧ r = .slice A2 ys.length c2 ∧ Hid (ys.length = g) ∧ pre.length + ys.length ≤ xs.length ∧ Hid (∀ x ∈ ys, 0 ≤ x ∧ x < 256) ∧ Hid (glue pre (allT most ys) = allT most xs) ∧
    wr.ownsRow w.heap.size 9 1 v pre.length (strVs pre) ∧ Row wr w.heap.size (.slice A2 ys.length c2) ys ∧ Below w.heap.size w wr)
  case atStart => exact ⟨_, xs, [], A, c, rfl, rfl, rfl, Lib.hid rfl, by simp, HB, Lib.hid (glue_nil _ (allT_none most xs)), World.ownsRow_nil _ _ _ _, HROW.out, Below.refl _ _⟩
  case round =>
    obtain ⟨v, ys, pre, A2, c2, rfl, rfl, rfl, HG0, hlen, HYB, HGL, hown, hr, hbw⟩ := hrel
    have HR := Lib.hid hr; clear hr
    by_cases h0 : ys.length = 0
    · obtain rfl : ys = [] := List.eq_nil_of_length_eq_zero h0
      have hfin : allT most xs = (pre, 0) := by rw [← HGL.out, allT_nil]; simp [glue]
      have HF := Lib.hid hfin; clear hfin
      go_wp2_with fail
      rw [Exit.noGoto_ret]
      go_ret2
      rw [HF.out]
      exact ⟨v, rfl, hown, hbw⟩
    · have hpos : 0 < ys.length := by omega
      have hne : ys ≠ [] := fun h => by subst h; simp at h0
      have HNE := Lib.hid hne; clear hne h0
      have hg := bget_any A2 c2 ys most hm0 hm1 wr (HR.out.more hbw.size) HYB.out
      by_cases he : (getT most ys).2.2 = 0
      · have hok := allT_ok HYB.out HNE.out he
        obtain ⟨k1, k2, _, k4, _⟩ := getT_back ys HYB.out he
        rw [he] at hg
        generalize (getT most ys).1 = t at hg hok k4
        generalize (getT most ys).2.1 = s at hg hok k1 k2
        have hr2 := HR.out.drop k2
        have HOK := Lib.hid hok; clear hok he
        have HG := Lib.hid hg; clear hg
        have hcs : ys.length ≤ c2 ∧ c2 ≤ 9223372036854775807 := by
          obtain ⟨_, _, hv, q1, q2, _, _⟩ := HR.out
          injection hv with e1 e2 e3
          subst e3
          unfold maxLen at q2
          omega
        obtain ⟨cs1, cs2⟩ := hcs
        have i1 : (0 : Int) ≤ (s : Int) := by omega
        have i2 : (s : Int) ≤ (ys.length : Int) := by omega
        have hdl : (ys.drop s).length = ys.length - s := by simp
        rw [hdl] at hr2
        have HDL := Lib.hid hdl; clear hdl
        have HR2 := Lib.hid hr2; clear hr2
        go_wp2_with (go_at_call 22; refine HG.out.mono ?_; rintro e w1 ⟨rfl, hb1⟩)
        have hown1 : w1.ownsRow w.heap.size 9 1 v pre.length (strVs pre) := own_below hown hb1
        have hsz1 : w.heap.size ≤ w1.heap.size := by have := hb1.size; have := hbw.size; omega
        go_region_law (first | (refine step_append_lies _ rfl (.tmp 27) (.tmp 29) 46 rfl w.heap.size 9 i0 (.string ⟨#[]⟩) 1 16 Try.underlying46 hi hz0 hz1 hz2 rfl (by decide) _ _ _ rfl (hown1.alloc _) ⟨w1.heap.size, 0, none⟩ 1 1 [.string (strOfNums t)] rfl rfl (cell_one_new _ _ _) (by simp [Value.oneCell']) (by decide) (by simp only [maxLen]; omega) (by omega) (by simp; omega) _ rfl ?_; intro g cap w2 hown2 hg2 hlie hlt2))
        generalize (if c2 = s then A2 else Option.map (fun x : Addr => x.add s) A2) = A3 at HR2 ⊢
        go_wp2_with fail
        go_roundg (ys.length - s)
        case measure => have := HG0.out; omega
        case rel =>
          have hb2 : Below w.heap.size wr w2 := by
            refine ((hb1.mono hbw.size).drew.alloc hsz1 _).grown hg2 (by simp; omega) (fun j ej => ?_)
            exact (hown1.lt j ej).1
          refine ⟨_, ys.drop s, pre ++ [t], _, _, rfl, rfl, by rw [HDL.out], Lib.hid HDL.out, by rw [HDL.out]; simp; omega, Lib.hid (fun x hx => HYB.out x (List.mem_of_mem_drop hx)), Lib.hid ?_, ?_, ?_, hbw.trans hb2⟩
          · rw [← HGL.out, HOK.out, glue_glue]
          · rw [strVs_snoc]
            simpa using hown2
          · rw [HDL.out]
            exact HR2.out.below hb2
      · have HE := Lib.hid (allT_err HNE.out he)
        generalize (getT most ys).2.2 = er at hg he HE
        have HG := Lib.hid hg; clear hg
        have hne1 : (er == 0) = false := by simpa using he
        clear he
        go_wp2_with (go_at_call 22; refine HG.out.mono ?_; rintro e w1 ⟨rfl, hb1⟩)
        rw [Exit.noGoto_ret]
        go_ret2
        have hfin : allT most xs = ([], er) := by
          rw [← HGL.out, HE.out]
          have : er ≠ 0 := by simpa using hne1
          simp [glue, this]
        rw [hfin]
        exact ⟨_, rfl, World.ownsRow_nil _ _ _ _, hbw.trans (hb1.mono hbw.size)⟩
#print axioms ball_any
end Go.Proofs.Ytodojabhjdejpaa
