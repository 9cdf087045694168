/-
  At every two slices of bytes and every number the law on sums answers true, and nothing that lay in memory has changed. No condition.
-/
import Derived.Test.YtbapmcocnhkjcaaRows
import Derived.WalkKit
import Derived.ProofKit
import Derived.OpenShut
import Derived.ShutString
import Derived.ChangeOld
import Derived.Below
import Derived.Test.YtbapmcocnhkjcaaCrcFixed
import Derived.Test.YtbapmcocnhkjcaaArg
import Derived.Deep.RegionHeld3
namespace Go.Proofs.Ytbapmcocnhkjcaa.crcSums
open Go.Proofs.Ytbapmcocnhkjcaa
open Go.ChangeShapes Go.WideShapes Go.ChangeAt Go.RowKit
open Go.ChangeMaps (open_string shut_string)
set_option linter.unusedVariables false

theorem own : ownKnob Try.prog.godebug = none := by kernel_rfl
theorem laidOut : laidOutB Try.prog = true := by kernel_rfl

set_option maxRecDepth 100000 in
set_option maxHeartbeats 1000000 in
theorem walk (a0 : Option Addr) (len0 cap0 : Nat) (z0 : List Int) (a1 : Option Addr) (len1 cap1 : Nat) (z1 : List Int) (a2 : Int) (w : World) (w0 : IsRow .u8 w a0 len0 cap0 z0) (w1 : IsRow .u8 w a1 len1 cap1 z1) (w2 : (Lit.int .u32 a2).wf = true) :
    Calls Try.prog 3 #[.slice a0 len0 cap0, .slice a1 len1 cap1, .int .u32 a2] w fun e w' => e = .returned (.bool true) ∧ Below w.heap.size w w' := by
  obtain ⟨b21, b22⟩ := bounds_u32 w2
  clear w2
  obtain ⟨n, rfl⟩ := Int.eq_ofNat_of_zero_le b21
  have hn : n < 4294967296 := by omega
  obtain ⟨xs, rfl, hrow, hbx⟩ := Row.of_arg w0
  obtain ⟨ys, rfl, hrow2, hby⟩ := Row.of_arg w1
  clear w0 w1
  by_cases hgt : 1000 < xs.length
  · have hgi : (1000 : Int) < (xs.length : Int) := by omega
    go_enter Try.func3, Try.ntmps3
    go_wp2_with (go_at_call 9; refine (cfix_any _).mono ?_; rintro e w3 ⟨rfl, hb3⟩)
    go_ret
    exact ⟨rfl, hb3⟩
  · by_cases hgt2 : 1000 < ys.length
    · have hgi : (1000 : Int) < (ys.length : Int) := by omega
      have hle : (xs.length : Int) ≤ 1000 := by omega
      go_enter Try.func3, Try.ntmps3
      go_wp2_with (go_at_call 9; refine (cfix_any _).mono ?_; rintro e w3 ⟨rfl, hb3⟩)
      go_ret
      exact ⟨rfl, hb3⟩
    · have hle : xs.length ≤ 1000 := by omega
      have hle2 : ys.length ≤ 1000 := by omega
      have HF := Lib.hid (fun W => four_any n hn W)
      simp only [le4V] at HF
      have hbxy : ∀ x ∈ xs ++ ys, 0 ≤ x ∧ x < 256 := fun x hx => by
        rcases List.mem_append.1 hx with h | h
        · exact hbx x h
        · exact hby x h
      have hsxy := sumX_lt hbxy
      have hsx := sumX_lt hbx
      have hrs := fun W => rsum_any (xs ++ ys) hbxy (by rw [List.length_append]; omega) W
      have hs2 := fun W v h => sum_any v [xs, ys] W h (by intro l hl; simp at hl; rcases hl with rfl | rfl <;> assumption)
      have hs1 := fun W v h => sum_any v [xs] W h (by intro l hl; simp at hl; subst hl; assumption)
      have hs0 := fun W => sum_any (.slice none 0 0) [] W (Parts.none_ _ _) (by simp)
      rw [show [xs, ys].flatten = xs ++ ys by simp] at hs2
      rw [show [xs].flatten = xs by simp] at hs1
      rw [show ([] : List (List Int)).flatten = [] by simp, sumX_nil] at hs0
      have hmo := fun W h => more_any (sumX xs) hsx a1 cap1 ys W h hby
      rw [← sumX_more] at hmo
      have hadd := fun W => add_strs (P := Try.prog) W xs ys (by omega)
      generalize sumX (xs ++ ys) = s at hrs hs2 hmo hsxy
      generalize sumX xs = sx at hs1 hmo hsx
      generalize xs ++ ys = xys at hrs hadd hbxy
      simp only [Int.natCast_zero] at hs0
      have HRS := Lib.hid hrs; clear hrs
      have HS2 := Lib.hid hs2; clear hs2
      have HS1 := Lib.hid hs1; clear hs1
      have HS0 := Lib.hid hs0; clear hs0
      have HMO := Lib.hid hmo; clear hmo hbxy hsx
      have hlb := le4_byte hn
      have HLB := Lib.hid hlb; clear hlb
      have HRF := Lib.hid (fun W => rfour_any n hn W)
      have HROW := Lib.hid hrow; clear hrow
      have HROW2 := Lib.hid hrow2; clear hrow2
      have HBX := Lib.hid hbx; clear hbx
      have HBY := Lib.hid hby; clear hby
      go_enter Try.func3, Try.ntmps3
      go_wp2_with fail
      refine (HF.out _).mono ?_
      rintro e w1 ⟨rfl, hb1⟩
      go_wp2_with fail
      obtain ⟨N1, hN1⟩ : ∃ N1, w1.heap.size = N1 := ⟨_, rfl⟩
      simp only [hN1]
      have HSZ1 : Hid (w1.heap.size = N1) := Lib.hid hN1
      generalize hw2 : (w1.alloc (.cells #[.int .u8 ((n : Int) % 256), .int .u8 ((n : Int) / 256 % 256), .int .u8 ((n : Int) / 65536 % 256), .int .u8 ((n : Int) / 16777216)] 25)).alloc (.cells #[.slice a0 xs.length cap0, .slice a1 ys.length cap1] 22) = w2
      have hz2 : w2.heap.size = N1 + 2 := by rw [← hw2]; simp [hN1]
      have b2 : Below w.heap.size w w2 := by rw [← hw2]; exact (hb1.alloc hb1.size _).alloc (by have := hb1.size; simp; omega) _
      have hq : ∀ i, w2.cell? ⟨N1, i, none⟩ = (#[.int .u8 ((n : Int) % 256), .int .u8 ((n : Int) / 256 % 256), .int .u8 ((n : Int) / 65536 % 256), .int .u8 ((n : Int) / 16777216)] : Array Value)[i]? := by
        intro i
        rw [← hw2, ← hN1, World.cell?_alloc_lt _ _ _ (by simp), World.cell?_alloc_new]
      have hp2 : ∀ i, w2.cell? ⟨N1 + 1, i, none⟩ = (#[.slice a0 xs.length cap0, .slice a1 ys.length cap1] : Array Value)[i]? := by
        intro i
        rw [← hw2, show N1 + 1 = (w1.alloc (.cells #[.int .u8 ((n : Int) % 256), .int .u8 ((n : Int) / 256 % 256), .int .u8 ((n : Int) / 65536 % 256), .int .u8 ((n : Int) / 16777216)] 25)).heap.size by simp [hN1], World.cell?_alloc_new]
      clear hw2 hN1
      have hc2 := HS2.out w2 (.slice (some ⟨N1 + 1, 0, none⟩) 2 2) (Parts.two (by omega) (hp2 0) (hp2 1) ((HROW.out.below b2).more b2.size) ((HROW2.out.below b2).more b2.size))
      have hr4 : Row w2 w2.heap.size (.slice (some ⟨N1, 0, none⟩) 4 4) (le4 n) := Row.of_cells (xs := le4 n) (by simp [le4]) (by omega) (fun i hi => by
        rw [hq i]
        simp [le4] at hi
        rcases (by omega : i = 0 ∨ i = 1 ∨ i = 2 ∨ i = 3) with rfl | rfl | rfl | rfl <;> rfl)
      have hall : ∀ W, Below w2.heap.size w2 W → (convert 22 9 (.slice (some ⟨N1, 0, none⟩) 4 4)).run Try.prog W = .ok (.string (strOfNums (le4 n))) W ∧ (convert 22 9 (.slice a0 xs.length cap0)).run Try.prog W = .ok (.string (strOfNums xs)) W ∧ (convert 22 9 (.slice a1 ys.length cap1)).run Try.prog W = .ok (.string (strOfNums ys)) W := fun W h =>
        ⟨(hr4.below h).convert (P := Try.prog) 22 5 9 Try.underlying22 Try.underlying5 Try.underlying9,
         (HROW.out.below (b2.trans (h.mono b2.size))).convert (P := Try.prog) 22 5 9 Try.underlying22 Try.underlying5 Try.underlying9,
         (HROW2.out.below (b2.trans (h.mono b2.size))).convert (P := Try.prog) 22 5 9 Try.underlying22 Try.underlying5 Try.underlying9⟩
      have HALL := Lib.hid hall; clear hall hr4 hq hp2
      have HC2 := Lib.hid hc2; clear hc2
      have HB2 := Lib.hid b2; clear b2 hb1
      have HZ2 := Lib.hid hz2; clear hz2
      refine HC2.out.mono ?_
      rintro e w3 ⟨rfl, rfl⟩
      go_wp2_with fail
      go_region_held3 (fun W => Below w2.heap.size w2 W ∧ (convert 22 9 (.slice (some ⟨N1, 0, none⟩) 4 4)).run Try.prog W = .ok (.string (strOfNums (le4 n))) W ∧ (convert 22 9 (.slice a0 xs.length cap0)).run Try.prog W = .ok (.string (strOfNums xs)) W ∧ (convert 22 9 (.slice a1 ys.length cap1)).run Try.prog W = .ok (.string (strOfNums ys)) W)
        (first | exact ⟨Below.refl _ _, HALL.out _ (Below.refl _ _)⟩ | exact ⟨(Below.refl _ _).drew, HALL.out _ (Below.refl _ _).drew⟩ | exact ⟨b5, HALL.out _ b5⟩ | exact ⟨b4, HALL.out _ b4⟩ | exact ⟨b5.alloc b5.size _, HALL.out _ (b5.alloc b5.size _)⟩)
        (first
          | (go_at_call 9; refine (cfix_any _).mono ?_; rintro e w4 ⟨rfl, hb4⟩; have b4 : Below w2.heap.size w2 w4 := (Below.refl w2.heap.size w2).drew.trans hb4)
          | (go_at_call 12; refine (HRS.out _).mono ?_; rintro e w6 ⟨rfl, rfl⟩)
          | (go_at_call 13; refine (HRF.out _).mono ?_; rintro e w5 ⟨rfl, hb5⟩; have b5 : Below w2.heap.size w2 w5 := b4.trans (hb5.mono b4.size))
          | (go_at_call 14; refine (HMO.out _ ((HROW2.out.below (HB2.out.trans ((b5.alloc b5.size _).mono HB2.out.size))).more (Below.size (HB2.out.trans ((b5.alloc b5.size _).mono HB2.out.size))))).mono ?_; rintro e w7 ⟨rfl, rfl⟩)
          | (go_at_call 11; (with_reducible refine (HS0.out _).mono ?_); rintro e w7 ⟨rfl, rfl⟩)
          | (go_at_call 11; refine (HS1.out _ _ (Parts.one (by simp) (by simp [World.cell?_alloc_new]) ((HROW.out.below (HB2.out.trans ((b5.alloc b5.size _).mono HB2.out.size))).more (Below.size (HB2.out.trans ((b5.alloc b5.size _).mono HB2.out.size)))))).mono ?_; rintro e w7 ⟨rfl, rfl⟩))
      go_wp2_with fail
      go_ret
      exact ⟨rfl, HB2.out.trans ((b5.alloc b5.size _).mono HB2.out.size)⟩

set_option maxRecDepth 100000 in
theorem lifted (os : Os) (started : os.Started) (H : Type) (enc : TypeId × Value → H) :
    ReturnsInHanded {} Try.checked os 3 .any (Rows.crcSumsSpec.pre6 enc Try.prog Try.f3 Rows.crcSumsRow.domain false) (Rows.crcSumsSpec.post enc Try.prog Try.f3 false true false false) := by
  refine returnsInHanded_of_change (C := Try.checked) own started (by kernel_rfl) Try.func3
    (ChangeSpec.witness6 (enc := enc) (C := Try.checked) false ⟨#[], #[.slice none 0 0, .slice none 0 0, .int .u32 0], []⟩ 8 (by kernel_rfl) (by kernel_rfl) (by kernel_rfl) (by kernel_rfl)) ?_
  intro W base args ds gs before hval0 hW hcnd _
  have hval : ∀ (j : Nat) t v, Try.f3.params[j]? = some t → args[j]? = some v → Value.okWide Try.prog W .any base t v := hval0
  have hW' := hW
  obtain ⟨p, q, hA0, hV, rfl, hfz, hnd⟩ := hW
  have hA : DataW.TrodAll enc Try.prog W 0 (fun _ => true) true Try.f3.params.toList args.toList ds p := hA0
  rw [Try.params3] at hA hval
  obtain ⟨v0, vs0, d0, ds0, p0, q0, hargs, rfl, rfl, h0, r0⟩ := trodAll_cons hA
  obtain ⟨v1, vs1, d1, ds1, p1, q1, rfl, rfl, rfl, h1, r1⟩ := trodAll_cons r0
  obtain ⟨v2, vs2, d2, ds2, p2, q2, rfl, rfl, rfl, h2, r2⟩ := trodAll_cons r1
  obtain ⟨rfl, rfl, rfl⟩ := trodAll_nil r2
  obtain rfl : args = #[v0, v1, v2] := by cases args; simp_all
  obtain ⟨rfl, rfl⟩ := trodVars_none hV
  obtain ⟨a0, len0, cap0, rfl⟩ := okWide_slice Try.underlying22 (hval 0 22 v0 rfl rfl)
  have k0 := h0
  have lt0 : ∀ x ∈ p0, x.block < W.heap.size := by obtain ⟨m, hm⟩ := k0; exact DataW.trod_lt m _ _ _ hm
  obtain ⟨z0, w0⟩ : ∃ zs, IsRow .u8 W a0 len0 cap0 zs := by
    obtain ⟨fuel, hf⟩ := h0
    rcases open_ints Try.underlying22 Try.underlying5 (by kernel_rfl) hf with ⟨hcs, _⟩ | ⟨x, l, c, zs, hcs, _, hl, hm, hz, _, hcell, hwz⟩
    · simp [Value.cells] at hcs
      obtain ⟨rfl, rfl, rfl⟩ := hcs
      exact ⟨[], .inl ⟨rfl, rfl, rfl, rfl⟩⟩
    · simp [Value.cells] at hcs
      obtain ⟨rfl, rfl, rfl⟩ := hcs
      exact ⟨zs, .inr ⟨_, rfl, hl, hm, by simpa using hz, hcell, hwz⟩⟩
  obtain ⟨a1, len1, cap1, rfl⟩ := okWide_slice Try.underlying22 (hval 1 22 v1 rfl rfl)
  have k1 := h1
  have lt1 : ∀ x ∈ p1, x.block < W.heap.size := by obtain ⟨m, hm⟩ := k1; exact DataW.trod_lt m _ _ _ hm
  obtain ⟨z1, w1⟩ : ∃ zs, IsRow .u8 W a1 len1 cap1 zs := by
    obtain ⟨fuel, hf⟩ := h1
    rcases open_ints Try.underlying22 Try.underlying5 (by kernel_rfl) hf with ⟨hcs, _⟩ | ⟨x, l, c, zs, hcs, _, hl, hm, hz, _, hcell, hwz⟩
    · simp [Value.cells] at hcs
      obtain ⟨rfl, rfl, rfl⟩ := hcs
      exact ⟨[], .inl ⟨rfl, rfl, rfl, rfl⟩⟩
    · simp [Value.cells] at hcs
      obtain ⟨rfl, rfl, rfl⟩ := hcs
      exact ⟨zs, .inr ⟨_, rfl, hl, hm, by simpa using hz, hcell, hwz⟩⟩
  obtain ⟨a2, rfl, rfl, rfl, w2⟩ := open_int Try.underlying23 (hval 2 23 v2 rfl rfl) h2
  clear hA0 hval0
  refine (walk a0 len0 cap0 z0 a1 len1 cap1 z1 a2 W w0 w1 w2).mono fun e W' ⟨he, bel⟩ => ?_
  subst he
  exact ⟨_, rfl, _, _, _, [], _, [], hW', trodAll_mk1 (shut_bool Try.underlying4 _), (trodAll_cons_mk (Below.trod laidOut (by kernel_rfl) (of_decide_eq_true (by kernel_rfl)) k0 bel lt0) (trodAll_cons_mk (Below.trod laidOut (by kernel_rfl) (of_decide_eq_true (by kernel_rfl)) k1 bel lt1) (trodAll_cons_mk (shut_int Try.underlying23 w2) trodAll_mk0))), rfl, bel.frame _, fun h => by cases h⟩

theorem over : Rows.crcSumsRow.holds Try.pinned (OpenSpec.ofChange Rows.crcSumsSpec) :=
  OpenClaim.holds_of_wide 3 Try.f3 rfl rfl rfl rfl rfl rfl rfl ⟨rfl, rfl, rfl, rfl, rfl⟩ rfl rfl rfl rfl rfl (by kernel_rfl) Try.func3 (by kernel_rfl)
    (of_decide_eq_true (by kernel_rfl)) (by unfold Func.isWrapper; first | (rw [if_pos (by decide +kernel)]; kernel_rfl) | (rw [if_neg (by decide +kernel)]; exact ⟨rfl, rfl⟩))
    (fun os started H enc _ => lifted os started H enc)

theorem proved : Rows.CrcSumsSaid := over
#print axioms proved
end Go.Proofs.Ytbapmcocnhkjcaa.crcSums

