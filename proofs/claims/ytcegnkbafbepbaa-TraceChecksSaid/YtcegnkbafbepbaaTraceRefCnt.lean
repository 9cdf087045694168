/-
  The document's own answer: how much a trace has.
-/
import Derived.Test.YtcegnkbafbepbaaTraceRef
import Derived.Test.YtcegnkbafbepbaaTraceCount
namespace Go.Proofs.Ytcegnkbafbepbaa
open Go.RowKit Go.Shelf

/-- The three numbers in their block, behind what was there. -/
def C3 (N : Nat) (w1 : World) (x y z : Int) (W : World) : Prop := Held W (N + 1) 34 #[.int .i64 x, .int .i64 y, .int .i64 z] ∧ Below (N + 1) w1 W
theorem C3.put01 {N : Nat} {w1 W : World} {x y z : Int} (h : C3 N w1 x y z W) (u v : Int) : C3 N w1 u v z ((W.setCell ⟨N + 1, 0, none⟩ (.int .i64 u)).setCell ⟨N + 1, 1, none⟩ (.int .i64 v)) := by
  refine ⟨?_, (h.2.setCell (p := ⟨N + 1, 0, none⟩) (by simp) _).setCell (p := ⟨N + 1, 1, none⟩) (by simp) _⟩
  have := (h.1.put 0 (.int .i64 u)).put 1 (.int .i64 v)
  simpa using this
theorem C3.put2 {N : Nat} {w1 W : World} {x y z : Int} (h : C3 N w1 x y z W) (u : Int) : C3 N w1 x y u (W.setCell ⟨N + 1, 2, none⟩ (.int .i64 u)) := by
  refine ⟨?_, h.2.setCell (p := ⟨N + 1, 2, none⟩) (by simp) _⟩
  have := h.1.put 2 (.int .i64 u)
  simpa using this
theorem C3.low {N : Nat} {w1 W : World} {x y z : Int} (h : C3 N w1 x y z W) (n : Nat) : C3 N w1 x y z (W.drewN n) := ⟨h.1, h.2.trans (drewN_low _ _ _)⟩
theorem C3.c0 {N : Nat} {w1 W : World} {x y z : Int} (h : C3 N w1 x y z W) : W.cell? ⟨N + 1, 0, none⟩ = some (.int .i64 x) := by have := h.1.cell 0; simpa using this
theorem C3.c1 {N : Nat} {w1 W : World} {x y z : Int} (h : C3 N w1 x y z W) : W.cell? ⟨N + 1, 1, none⟩ = some (.int .i64 y) := by have := h.1.cell 1; simpa using this
theorem C3.c2 {N : Nat} {w1 W : World} {x y z : Int} (h : C3 N w1 x y z W) : W.cell? ⟨N + 1, 2, none⟩ = some (.int .i64 z) := by have := h.1.cell 2; simpa using this
theorem wrap_wrap (a : Int) : wrap64 (wrap64 a) = wrap64 a := by unfold wrap64; omega
theorem wrap_add' (n m : Nat) : wrap64 (wrap64 n + m) = wrap64 ((n + m : Nat) : Int) := by rw [wrap_add]; congr 1
theorem wrap_succ' (n : Nat) : wrap64 (wrap64 n + 1) = wrap64 ((n + 1 : Nat) : Int) := by rw [wrap_succ]; congr 1

set_option maxRecDepth 100000 in
set_option maxHeartbeats 2000000 in
theorem rtcount_any (A : Option Addr) (c : Nat) (ps : List Pm) (w : World) (hrow : TrRow w w.heap.size (.slice A ps.length c) ps) :
    Calls Try.prog 12 #[.slice A ps.length c] w fun e w' => e = .returned (.agg #[.int .i64 (wrap64 (evsOf ps).length), .int .i64 (wrap64 (agsOf (evsOf ps)).length), .int .i64 (wrap64 (sumS (agsOf (evsOf ps))))]) ∧ Below w.heap.size w w' := by
  obtain ⟨-, hc1, hc2⟩ := hrow.1.len
  have HTR := Lib.hid hrow
  clear hrow
  obtain ⟨N, hN⟩ : ∃ N, w.heap.size = N := ⟨_, rfl⟩
  obtain ⟨w1, hw1⟩ : ∃ w1, (w.alloc (.cells #[.int .i64 0, .int .i64 0, .int .i64 0] 34)).alloc (.cells #[.int .i64 0, .int .i64 0, .int .i64 0] 34) = w1 := ⟨_, rfl⟩
  have s1 : (w.alloc (.cells #[.int .i64 0, .int .i64 0, .int .i64 0] 34)).heap.size = N + 1 := by rw [World.size_alloc, hN]
  have s2 : w1.heap.size = N + 2 := by rw [← hw1, World.size_alloc, s1]
  have hb1 : Below N w w1 := by rw [← hw1]; exact ((Below.refl _ _).alloc (by omega) _).alloc (by omega) _
  have hh0 : Held w1 N 34 #[.int .i64 0, .int .i64 0, .int .i64 0] := by rw [← hw1, ← hN]; exact Held.below (heap_alloc_new w _) ((Below.refl _ _).alloc (Nat.le_refl _) _) (by omega)
  have hh1 : Held w1 (N + 1) 34 #[.int .i64 0, .int .i64 0, .int .i64 0] := by rw [← hw1, ← s1]; exact heap_alloc_new _ _
  have HC0 := Lib.hid (show C3 N w1 (wrap64 (evsOf (ps.take 0)).length) (wrap64 (agsOf (evsOf (ps.take 0))).length) (wrap64 (sumS (agsOf (evsOf (ps.take 0))))) (((w1.setCell ⟨N + 1, 0, none⟩ (.int .i64 0)).setCell ⟨N + 1, 1, none⟩ (.int .i64 0)).setCell ⟨N + 1, 2, none⟩ (.int .i64 0)) from by
    have h : C3 N w1 0 0 0 w1 := ⟨hh1, Below.refl _ _⟩
    have := (h.put01 0 0).put2 0
    simpa [evsOf, agsOf, sumS, wrap64] using this)
  have y0 := hh1.cell 0
  have y1 := hh1.cell 1
  have y2 := hh1.cell 2
  simp at y0 y1 y2
  have f0 := hh1.frozen 0
  have f1 := hh1.frozen 1
  have f2 := hh1.frozen 2
  have HH0 := Lib.hid hh0
  have HB1 := Lib.hid hb1
  rw [hN] at HTR
  clear hh0 hh1 hb1 s1
  obtain ⟨X, hX⟩ : ∃ X, wrap64 ((evsOf ps).length : Int) = X := ⟨_, rfl⟩
  obtain ⟨Y, hY⟩ : ∃ Y, wrap64 ((agsOf (evsOf ps)).length : Int) = Y := ⟨_, rfl⟩
  obtain ⟨Z, hZ⟩ : ∃ Z, wrap64 ((sumS (agsOf (evsOf ps)) : Nat) : Int) = Z := ⟨_, rfl⟩
  have HXYZ := Lib.hid (And.intro hX (And.intro hY hZ))
  rw [hX, hY, hZ]
  clear hX hY hZ
  go_enter Try.func12, Try.ntmps12
  go_wp2_with fail
  clear hw1
  clear y0 y1 y2 f0 f1 f2
  go_loopg [4] ps.length (fun gk i wr => ∃ k : Nat, k ≤ ps.length ∧ i = .int .i64 k ∧ Hid (ps.length - k = gk) ∧ Hid (C3 N w1 (wrap64 (evsOf (ps.take k)).length) (wrap64 (agsOf (evsOf (ps.take k))).length) (wrap64 (sumS (agsOf (evsOf (ps.take k))))) wr))
  case atStart => exact ⟨0, Nat.zero_le _, rfl, Lib.hid rfl, HC0⟩
  case round =>
    obtain ⟨k, hk, rfl, HGK, HC⟩ := hrel
    by_cases hlt : k < ps.length
    · obtain ⟨d, hd⟩ : ∃ d, ps[k]? = some d := ⟨_, List.getElem?_eq_getElem hlt⟩
      have hbk := HB1.out.trans (HC.out.2.mono (by omega))
      obtain ⟨b, o, rfl, hb, x0, x1, hok, hl1, hl2⟩ := (HTR.out.below hbk).at hd
      have hne : b ≠ N + 1 := by omega
      have HXX := Lib.hid (fun (W : World) (h : Below N w W) => (h.cell (p := ⟨b, o + k * 2 + 1, none⟩) hb).trans ((hbk.cell (p := ⟨b, o + k * 2 + 1, none⟩) hb).symm.trans x1))
      have HOK := Lib.hid (fun (W : World) (h : Below N w W) => (HTR.out.below h).2 d (List.mem_of_getElem? hd))
      have HES := Lib.hid (evsOf_succ hd)
      obtain ⟨P, hP⟩ : ∃ P, evsOf (ps.take k) = P := ⟨_, rfl⟩
      rw [hP] at HES HC
      clear hok hd hbk x0 x1 hP
      go_wp2_with fail
      go_loopg [5] d.evs.length (fun gm i wr2 => ∃ m : Nat, m ≤ d.evs.length ∧ i = .int .i64 m ∧ Hid (d.evs.length - m = gm) ∧ Hid (C3 N w1 (wrap64 (P ++ d.evs.take m).length) (wrap64 (agsOf (P ++ d.evs.take m)).length) (wrap64 (sumS (agsOf (P ++ d.evs.take m)))) wr2))
      case atStart => exact ⟨0, Nat.zero_le _, rfl, Lib.hid rfl, by rw [List.take_zero, List.append_nil]; exact HC⟩
      case round =>
        obtain ⟨m, hm, rfl, HGM, HM⟩ := hrel
        have hbm := HB1.out.trans (HM.out.2.mono (by omega))
        have x1 := HXX.out _ hbm
        have y0 := HM.out.c0
        have y1 := HM.out.c1
        have f0 := HM.out.1.frozen 0
        have f1 := HM.out.1.frozen 1
        by_cases hml : m < d.evs.length
        · obtain ⟨x, hx⟩ : ∃ x, d.evs[m]? = some x := ⟨_, List.getElem?_eq_getElem hml⟩
          obtain ⟨b2, o2, e2, hb2, u0, u1, hokx, hl3, hl4⟩ := (HOK.out _ hbm).1.at hx
          rw [e2] at x1
          have hne2 : b2 ≠ N + 1 := by omega
          have HOX := Lib.hid (fun (W : World) (h : Below N w W) => (show GRow W N (.slice x.A x.args.length x.c) x.args from ((HOK.out _ h).1.2 x (List.mem_of_getElem? hx)).1))
          obtain ⟨xA, hxA⟩ : ∃ xA, x.A = xA := ⟨_, rfl⟩
          rw [hxA] at u1 HOX
          have HQ := Lib.hid (show P ++ d.evs.take (m + 1) = (P ++ d.evs.take m) ++ [x] by rw [take_snoc hx, List.append_assoc])
          obtain ⟨Q, hQ⟩ : ∃ Q, P ++ d.evs.take m = Q := ⟨_, rfl⟩
          rw [hQ] at HQ HM y0 y1
          have HE0 := Lib.hid (show wrap64 (wrap64 (Q.length : Int) + 1) = wrap64 ((Q ++ [x]).length : Int) by rw [wrap_succ', List.length_append]; rfl)
          have HE1 := Lib.hid (show wrap64 (wrap64 ((agsOf Q).length : Int) + x.args.length) = wrap64 ((agsOf (Q ++ [x])).length : Int) by rw [wrap_add', agsOf_snoc, List.length_append])
          have HC1 := Lib.hid (HM.out.put01 (wrap64 (wrap64 (Q.length : Int) + 1)) (wrap64 (wrap64 ((agsOf Q).length : Int) + x.args.length)))
          rw [HE0.out, HE1.out] at HC1
          obtain ⟨X1, hX1⟩ : ∃ X1, wrap64 (Q.length : Int) = X1 := ⟨_, rfl⟩
          obtain ⟨Y1, hY1⟩ : ∃ Y1, wrap64 ((agsOf Q).length : Int) = Y1 := ⟨_, rfl⟩
          rw [hX1] at y0 HE0
          rw [hY1] at y1 HE1
          obtain ⟨X2, hX2⟩ : ∃ X2, wrap64 ((Q ++ [x]).length : Int) = X2 := ⟨_, rfl⟩
          obtain ⟨Y2, hY2⟩ : ∃ Y2, wrap64 ((agsOf (Q ++ [x])).length : Int) = Y2 := ⟨_, rfl⟩
          rw [hX2] at HE0 HC1
          rw [hY2] at HE1 HC1
          have h2e := HE0.out
          have h3e := HE1.out
          have HXY := Lib.hid (And.intro hX2 hY2)
          clear hx hokx e2 hxA hQ hX1 hY1 hX2 hY2 hbm
          go_wp2_with fail
          go_loopg [7] x.args.length (fun gj i wr3 => ∃ j : Nat, j ≤ x.args.length ∧ i = .int .i64 j ∧ Hid (x.args.length - j = gj) ∧ Hid (C3 N w1 X2 Y2 (wrap64 (sumS (agsOf Q ++ x.args.take j))) wr3))
          case atStart =>
            refine ⟨0, Nat.zero_le _, rfl, Lib.hid rfl, Lib.hid ?_⟩
            rw [List.take_zero, List.append_nil]
            exact HC1.out
          case round =>
            obtain ⟨j, hj, rfl, HGJ, HI⟩ := hrel
            have hbj := HB1.out.trans (HI.out.2.mono (by omega))
            have y2 := HI.out.c2
            have f2 := HI.out.1.frozen 2
            clear y0 y1 f0 f1 u0 u1 x1
            by_cases hjl : j < x.args.length
            · obtain ⟨a, ha⟩ : ∃ a, x.args[j]? = some a := ⟨_, List.getElem?_eq_getElem hjl⟩
              obtain ⟨b3, o3, rfl, hb3, v0, v1, v2, hfit⟩ := (HOX.out _ hbj).at ha
              have hne3 : b3 ≠ N + 1 := by omega
              have hsn := strOfNums_size a.s
              have hsl : a.s.length ≤ 9223372036854775807 := by have := hfit.1; unfold maxLen at this; simpa using this
              have HZ := Lib.hid (show wrap64 (wrap64 (sumS (agsOf Q ++ x.args.take j) : Nat) + a.s.length) = wrap64 (sumS (agsOf Q ++ x.args.take (j + 1)) : Nat) by rw [wrap_add', take_snoc ha, ← List.append_assoc, sumS_snoc])
              have HC2 := Lib.hid (HI.out.put2 (wrap64 (wrap64 (sumS (agsOf Q ++ x.args.take j) : Nat) + a.s.length)))
              obtain ⟨Z1, hZ1⟩ : ∃ Z1, wrap64 (sumS (agsOf Q ++ x.args.take j) : Nat) = Z1 := ⟨_, rfl⟩
              rw [hZ1] at y2 HC2 HZ
              clear ha hfit hZ1 hbj
              go_wp2_with fail
              go_region
              go_wp2_with fail
              go_roundg (x.args.length - (j + 1))
              case measure => have := HGJ.out; omega
              case rel => exact ⟨j + 1, by omega, by go_num, Lib.hid rfl, by rw [← HZ.out]; exact Lib.hid ⟨HC2.out.1, HC2.out.2.drew⟩⟩
            · obtain rfl : j = x.args.length := by omega
              have HJ := HI
              rw [List.take_length, ← agsOf_snoc, ← HXY.out.1, ← HXY.out.2, ← HQ.out] at HJ
              clear y2 f2 hbj
              go_wp2_with fail
              go_roundg (d.evs.length - (m + 1))
              case measure => have := HGM.out; omega
              case rel => exact ⟨m + 1, by omega, by go_num, Lib.hid rfl, HJ⟩
        · obtain rfl : m = d.evs.length := by omega
          have HJ := HM
          rw [List.take_length, ← HES.out] at HJ
          clear y0 y1 f0 f1 hbm
          go_wp2_with fail
          go_roundg (ps.length - (k + 1))
          case measure => have := HGK.out; omega
          case rel => exact ⟨k + 1, by omega, by go_num, Lib.hid rfl, HJ⟩
    · obtain rfl : k = ps.length := by omega
      have hc := HC.out
      rw [List.take_length, HXYZ.out.1, HXYZ.out.2.1, HXYZ.out.2.2] at hc
      have y0 := hc.c0
      have y1 := hc.c1
      have y2 := hc.c2
      have hh := HH0.out.below hc.2 (by omega)
      have f0 := hh.frozen 0
      have f1 := hh.frozen 1
      have f2 := hh.frozen 2
      have z0 := hh.cell 0
      have z1 := hh.cell 1
      have z2 := hh.cell 2
      simp at z0 z1 z2
      have HW := Lib.hid (show Held (((wr.setCell ⟨N, 0, none⟩ (.int .i64 X)).setCell ⟨N, 1, none⟩ (.int .i64 Y)).setCell ⟨N, 2, none⟩ (.int .i64 Z)) N 34 #[.int .i64 X, .int .i64 Y, .int .i64 Z] from by
        have := ((hh.put 0 (.int .i64 X)).put 1 (.int .i64 Y)).put 2 (.int .i64 Z)
        simpa using this)
      have HBL := Lib.hid ((((HB1.out.trans (hc.2.mono (by omega))).setCell (p := ⟨N, 0, none⟩) (by simp) (.int .i64 X)).setCell (p := ⟨N, 1, none⟩) (by simp) (.int .i64 Y)).setCell (p := ⟨N, 2, none⟩) (by simp) (.int .i64 Z))
      clear hc hh
      go_wp2_with fail
      generalize ((wr.setCell ⟨N, 0, none⟩ (.int .i64 X)).setCell ⟨N, 1, none⟩ (.int .i64 Y)).setCell ⟨N, 2, none⟩ (.int .i64 Z) = W3 at HW HBL ⊢
      have e0 := HW.out.cell 0
      have e1 := HW.out.cell 1
      have e2 := HW.out.cell 2
      simp at e0 e1 e2
      exact bodyPost_ret (v := .agg #[.int .i64 X, .int .i64 Y, .int .i64 Z]) (by simp [results, Try.results12, go_sem, e0, e1, e2]) rfl ⟨rfl, by rw [hN]; exact HBL.out⟩
#print axioms rtcount_any
end Go.Proofs.Ytcegnkbafbepbaa
