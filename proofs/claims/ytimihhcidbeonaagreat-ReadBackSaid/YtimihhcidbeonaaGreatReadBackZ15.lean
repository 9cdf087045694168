/-
  What the theorem of ReadBack rests on, part 15 of 15.
-/
import Derived.IntWalk
import Derived.Test.YtimihhcidbeonaaGreatReadBackZ14
namespace Go.Proofs.YtimihhcidbeonaaGreat
open Go.RowKit Go.ChangeShapes Go.WideShapes
set_option linter.unusedVariables false
set_option maxRecDepth 100000 in
set_option maxHeartbeats 4000000 in
theorem tgreat_len (T : Option Addr) (ct : Nat) (ps : List Pm) (most : Int) (w : World) (hrow : TrRow w w.heap.size (.slice T ps.length ct) ps) (hft : TrFit ps) (hm0 : 0 ≤ most) :
    Calls Tryz.prog 64 #[.slice T ps.length ct, .int .i64 most] w fun e w' => (∃ b, e = .returned (.bool b) ∧ (b = false → (ps.length : Int) ≤ most)) ∧ Below w.heap.size w w' := by
  obtain ⟨-, hc1, hc2⟩ := hrow.1.len
  have HTR := Lib.hid hrow
  have HFT := Lib.hid hft
  have HM0 := Lib.hid hm0
  clear hrow hft hm0
  go_enter Tryz.func64, Tryz.ntmps64
  go_wp2_with fail
  go_loopg [5, 16] ps.length (fun gk n i wr => ∃ (k : Nat) (s : Int), k ≤ ps.length ∧ i = .int .i64 k ∧ n = .int .i64 s ∧ Hid (ps.length - k = gk) ∧ Hid (Below w.heap.size w wr) ∧ Hid ((k = 0 ∧ s = (ps.length : Int)) ∨ (ps.length : Int) ≤ most))
  case atStart => exact ⟨0, _, Nat.zero_le _, rfl, rfl, Lib.hid rfl, Lib.hid (Below.refl _ _), Lib.hid (.inl ⟨rfl, rfl⟩)⟩
  case round =>
    obtain ⟨k, s, hk, rfl, rfl, HGK, HB, HL⟩ := hrel
    by_cases hlt : k < ps.length
    · obtain ⟨d, hd⟩ : ∃ d, ps[k]? = some d := ⟨_, List.getElem?_eq_getElem hlt⟩
      have hz := HB.out.size
      have hev1 := (HFT.out.2 d (List.mem_of_getElem? hd)).1
      obtain ⟨b, o, rfl, hb, x0, x1, hok, hl1, hl2⟩ := (HTR.out.below HB.out).at hd
      obtain ⟨w4, hw4⟩ : ∃ w4, wr.alloc (.cells #[.int .u64 d.tm, .slice d.A d.evs.length d.c] 51) = w4 := ⟨_, rfl⟩
      have s4 : w4.heap.size = wr.heap.size + 1 := by rw [← hw4, World.size_alloc]
      have hb4 : Below wr.heap.size wr w4 := by rw [← hw4]; exact (Below.refl _ _).alloc (Nat.le_refl _) _
      have hh4 : Held w4 wr.heap.size 51 #[.int .u64 d.tm, .slice d.A d.evs.length d.c] := by rw [← hw4]; exact heap_alloc_new wr _
      have y1 := hh4.cell 1
      simp at y1
      have HB4 := Lib.hid (HB.out.trans (hb4.mono hz))
      have hok4 := hok.below (hb4.mono hz)
      obtain ⟨dA, hdA⟩ : ∃ dA, d.A = dA := ⟨_, rfl⟩
      have hgr := hok4.1
      rw [hdA] at hgr y1 x1 hw4
      have HGR := Lib.hid hgr
      clear hok hd hh4 hok4 hgr hdA
      obtain ⟨wx, hwx⟩ : ∃ wx, wx = wr := ⟨_, rfl⟩
      subst hwx
      by_cases hm : most < wrap64 (s + (d.evs.length : Int))
      · go_wp2_with fail
        go_ret
        exact ⟨⟨true, rfl, fun h => by cases h⟩, HB4.out⟩
      · have hmd : decide (most < wrap64 (s + (d.evs.length : Int))) = false := decide_eq_false hm
        have HL2 := Lib.hid (show (ps.length : Int) ≤ most from by
          rcases HL.out with ⟨h1, h2⟩ | h
          · have h3 := HFT.out.1
            rw [h2] at hm
            rw [IntWalk.wrap64_in _ (by have := hev1; omega)] at hm
            omega
          · exact h)
        clear hm
        go_wp2_with fail
        clear hw4 x0 x1 y1
        go_loopg [5, 31] d.evs.length (fun gm n i wr2 => ∃ (m : Nat) (s2 : Int), m ≤ d.evs.length ∧ i = .int .i64 m ∧ n = .int .i64 s2 ∧ Hid (d.evs.length - m = gm) ∧ Hid (Below w4.heap.size w4 wr2))
        case atStart => exact ⟨0, _, Nat.zero_le _, rfl, rfl, Lib.hid rfl, Lib.hid (Below.refl _ _)⟩
        case round =>
          obtain ⟨m, s2, hm, rfl, rfl, HGM, HB5⟩ := hrel
          by_cases hml : m < d.evs.length
          · obtain ⟨x, hx⟩ : ∃ x, d.evs[m]? = some x := ⟨_, List.getElem?_eq_getElem hml⟩
            have hz5 := HB5.out.size
            obtain ⟨b2, o2, rfl, hb2, u0, u1, hokx, hl3, hl4⟩ := (HGR.out.below (HB5.out.mono (by omega))).at hx
            obtain ⟨w6, hw6⟩ : ∃ w6, wr.alloc (.cells #[.int .i64 x.p, .slice x.A x.args.length x.c] 100) = w6 := ⟨_, rfl⟩
            have s6 : w6.heap.size = wr.heap.size + 1 := by rw [← hw6, World.size_alloc]
            have hb6 : Below wr.heap.size wr w6 := by rw [← hw6]; exact (Below.refl _ _).alloc (Nat.le_refl _) _
            have hh6 : Held w6 wr.heap.size 100 #[.int .i64 x.p, .slice x.A x.args.length x.c] := by rw [← hw6]; exact heap_alloc_new wr _
            have v1 := hh6.cell 1
            simp at v1
            have HB6 := Lib.hid (HB5.out.trans (hb6.mono hz5))
            have hok6 := hokx.below (hb6.mono (by omega))
            obtain ⟨xA, hxA⟩ : ∃ xA, x.A = xA := ⟨_, rfl⟩
            have hgx := hok6.1
            rw [hxA] at hgx u1 v1 hw6
            have HGX := Lib.hid hgx
            clear hokx hx hh6 hok6 hgx hxA
            obtain ⟨wy, hwy⟩ : ∃ wy, wy = wr := ⟨_, rfl⟩
            subst hwy
            go_wp2_with fail
            clear hw6 u0 u1 v1
            go_loopg [5, 43] x.args.length (fun gj n i wr3 => ∃ (j : Nat) (s3 : Int), j ≤ x.args.length ∧ i = .int .i64 j ∧ n = .int .i64 s3 ∧ Hid (x.args.length - j = gj) ∧ Hid (Below w6.heap.size w6 wr3))
            case atStart => exact ⟨0, _, Nat.zero_le _, rfl, rfl, Lib.hid rfl, Lib.hid (Below.refl _ _)⟩
            case round =>
              obtain ⟨j, s3, hj, rfl, rfl, HGJ, HB7⟩ := hrel
              by_cases hjl : j < x.args.length
              · obtain ⟨a, ha⟩ : ∃ a, x.args[j]? = some a := ⟨_, List.getElem?_eq_getElem hjl⟩
                have hz7 := HB7.out.size
                obtain ⟨b3, o3, rfl, hb3, q0, q1, q2, hfit⟩ := (HGX.out.below (HB7.out.mono (by omega))).at ha
                have hsn := strOfNums_size a.s
                have hsl : a.s.length ≤ 9223372036854775807 := by have := hfit.1; unfold maxLen at this; simpa using this
                have HB8 := Lib.hid (HB7.out.alloc hz7 (.cells #[.int .i64 a.t, .int .i64 a.n, .string (strOfNums a.s)] 97))
                clear hfit ha
                go_wp2_with fail
                go_roundg (x.args.length - (j + 1))
                case measure => have := HGJ.out; omega
                case rel => exact ⟨j + 1, _, by omega, by go_num, rfl, Lib.hid rfl, HB8⟩
              · obtain rfl : j = x.args.length := by omega
                go_wp2_with fail
                go_roundg (d.evs.length - (m + 1))
                case measure => have := HGM.out; omega
                case rel => exact ⟨m + 1, _, by omega, by go_num, rfl, Lib.hid rfl, Lib.hid (HB6.out.trans (HB7.out.mono (by omega)))⟩
          · obtain rfl : m = d.evs.length := by omega
            go_wp2_with fail
            go_roundg (ps.length - (k + 1))
            case measure => have := HGK.out; omega
            case rel => exact ⟨k + 1, _, by omega, by go_num, rfl, Lib.hid rfl, Lib.hid (HB4.out.trans (HB5.out.mono (by omega))), Lib.hid (.inr HL2.out)⟩
    · obtain rfl : k = ps.length := by omega
      go_wp2_with fail
      go_ret
      refine ⟨⟨_, rfl, fun h => ?_⟩, HB.out⟩
      rcases HL.out with ⟨h1, h2⟩ | h2
      · have := HM0.out
        omega
      · exact h2
set_option maxRecDepth 100000 in
set_option maxHeartbeats 1000000 in
theorem great17_len (A : Option Addr) (c : Nat) (ds : List Pd) (T : Option Addr) (ct : Nat) (ps : List Pm) (w : World) (hrow : PredRow w w.heap.size (.slice A ds.length c) ds) (ht : TrRow w w.heap.size (.slice T ps.length ct) ps) (hft : TrFit ps) :
    Calls Tryz.prog 18 #[.slice A ds.length c, .slice T ps.length ct] w fun e w' => (∃ b, e = .returned (.bool b) ∧ (b = false → ps.length ≤ 1500)) ∧ Below w.heap.size w w' := by
  have HG := Lib.hid (great_any A c ds w hrow)
  have HT := Lib.hid (fun W (hb : Below w.heap.size w W) => tgreat_len T ct ps 1500 W ((ht.below hb).more hb.size) hft (by omega))
  generalize greatP (ds.map (·.p)) = g at HG
  clear hrow ht hft
  cases g with
  | true =>
    go_enter Tryz.func18, Tryz.ntmps18
    go_wp2_with fail
    refine HG.out.mono ?_
    rintro e w1 ⟨rfl, hb1⟩
    go_wp2_with fail
    go_ret
    exact ⟨⟨true, rfl, fun h => (by cases h)⟩, hb1⟩
  | false =>
    go_enter Tryz.func18, Tryz.ntmps18
    go_wp2_with fail
    refine HG.out.mono ?_
    rintro e w1 ⟨rfl, hb1⟩
    have HT1 := Lib.hid (HT.out w1 hb1)
    have HB1 := Lib.hid hb1
    clear hb1
    go_wp2_with fail
    refine HT1.out.mono ?_
    rintro e w2 ⟨⟨b, rfl, hbl⟩, hb2⟩
    have HBL := Lib.hid hbl
    have HB2 := Lib.hid (HB1.out.trans (hb2.mono HB1.out.size))
    clear hb2 hbl
    go_wp2_with fail
    go_ret
    exact ⟨⟨b, rfl, fun h => by have := HBL.out h; omega⟩, HB2.out⟩
end Go.Proofs.YtimihhcidbeonaaGreat
