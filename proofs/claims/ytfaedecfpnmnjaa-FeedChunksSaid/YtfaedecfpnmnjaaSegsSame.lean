/-
  The document's Same: the same parts are the same.
-/
import Derived.Test.YtfaedecfpnmnjaaSegRows
import Derived.Test.YtfaedecfpnmnjaaFrameSame
import Derived.Deep.RegionHeld3
namespace Go.Proofs.Ytfaedecfpnmnjaa
open Go.RowKit

theorem same_at {ps1 ps2 : List Pt} (h : ps1.map (·.s) = ps2.map (·.s)) {k : Nat} (hk : k < ps1.length) : ∃ (s : Sg) (A1 A2 : Option Addr) (c1 c2 : Nat), ps1[k]? = some ⟨s, A1, c1⟩ ∧ ps2[k]? = some ⟨s, A2, c2⟩ := by
  have hl : ps1.length = ps2.length := by have := congrArg List.length h; simpa using this
  have e : (ps1.map (·.s))[k]? = (ps2.map (·.s))[k]? := by rw [h]
  rw [List.getElem?_map, List.getElem?_map, List.getElem?_eq_getElem hk, List.getElem?_eq_getElem (by omega : k < ps2.length)] at e
  simp only [Option.map_some, Option.some.injEq] at e
  refine ⟨ps1[k].s, ps1[k].A, ps2[k].A, ps1[k].c, ps2[k].c, List.getElem?_eq_getElem hk, ?_⟩
  rw [e, List.getElem?_eq_getElem (by omega : k < ps2.length)]

set_option maxRecDepth 100000 in
set_option maxHeartbeats 1000000 in
theorem rsame_any (ps1 ps2 : List Pt) (hps : ps1.map (·.s) = ps2.map (·.s)) (v1 v2 : Value) (w : World) (h1 : SegRow w w.heap.size v1 ps1) (h2 : SegRow w w.heap.size v2 ps2) :
    Calls Try.prog 17 #[v1, v2] w fun e w' => e = .returned (.bool true) ∧ Below w.heap.size w w' := by
  obtain ⟨A1, c1, rfl, hc1, hm1⟩ := h1.form
  obtain ⟨A2, c2, rfl, hc2, hm2⟩ := h2.form
  have hl : ps2.length = ps1.length := by have := congrArg List.length hps; simpa using this.symm
  have H1 := Lib.hid (fun W (h : Below w.heap.size w W) => h1.below h)
  have H2 := Lib.hid (fun W (h : Below w.heap.size w W) => h2.below h)
  have HPS := Lib.hid hps
  rw [hl] at hc2 h2
  clear h1 h2 hps
  rw [hl] at H2 ⊢
  clear hl
  obtain ⟨N, hN⟩ : ∃ N, ps1.length = N := ⟨_, rfl⟩
  have HN := Lib.hid hN
  rw [hN] at hc1 hc2 H1 H2 ⊢
  clear hN
  go_enter Try.func17, Try.ntmps17
  go_wp2_with fail
  go_loopw [5] (fun i wr => ∃ k : Nat, k ≤ N ∧ i = .int .i64 k ∧ Below w.heap.size w wr) (fun i _ => N - (intOf i).toNat)
  case atStart => exact ⟨0, Nat.zero_le _, rfl, Below.refl _ _⟩
  case round =>
    obtain ⟨k, hk, rfl, hbw⟩ := hrel
    by_cases hlt : k < N
    · obtain ⟨s, B1, B2, d1, d2, e1, e2⟩ := same_at HPS.out (k := k) (by rw [HN.out]; exact hlt)
      obtain ⟨b1, o1, rfl, hb1, x0, x1, x2, x3, x4, hr1⟩ := (H1.out wr hbw).at e1
      obtain ⟨b2, o2, rfl, hb2, y0, y1, y2, y3, y4, hr2⟩ := (H2.out wr hbw).at e2
      simp only at x0 x1 x2 x3 x4 y0 y1 y2 y3 y4
      have HSM := Lib.hid (fun W (h : Below wr.heap.size wr W) => fsame_yes s.kind B1 B2 d1 d2 s.pay W ((hr1.below h)) ((hr2.below h)))
      have HS := Lib.hid (show ∀ W, Below wr.heap.size wr W → W.cell? ⟨b1, o1 + k * 5, none⟩ = some (.int .i64 s.frm) ∧ W.cell? ⟨b1, o1 + k * 5 + 1, none⟩ = some (.int .i64 s.n) ∧ W.cell? ⟨b1, o1 + k * 5 + 2, none⟩ = some (.bool s.isf) ∧ W.cell? ⟨b1, o1 + k * 5 + 3, none⟩ = some (.int .i64 s.kind) ∧ W.cell? ⟨b1, o1 + k * 5 + 4, none⟩ = some (.slice B1 s.pay.length d1) ∧
          W.cell? ⟨b2, o2 + k * 5, none⟩ = some (.int .i64 s.frm) ∧ W.cell? ⟨b2, o2 + k * 5 + 1, none⟩ = some (.int .i64 s.n) ∧ W.cell? ⟨b2, o2 + k * 5 + 2, none⟩ = some (.bool s.isf) ∧ W.cell? ⟨b2, o2 + k * 5 + 3, none⟩ = some (.int .i64 s.kind) ∧ W.cell? ⟨b2, o2 + k * 5 + 4, none⟩ = some (.slice B2 s.pay.length d2) from
        fun W h => ⟨(h.cell (p := ⟨b1, o1 + k * 5, none⟩) hb1).trans x0, (h.cell (p := ⟨b1, o1 + k * 5 + 1, none⟩) hb1).trans x1, (h.cell (p := ⟨b1, o1 + k * 5 + 2, none⟩) hb1).trans x2, (h.cell (p := ⟨b1, o1 + k * 5 + 3, none⟩) hb1).trans x3, (h.cell (p := ⟨b1, o1 + k * 5 + 4, none⟩) hb1).trans x4,
          (h.cell (p := ⟨b2, o2 + k * 5, none⟩) hb2).trans y0, (h.cell (p := ⟨b2, o2 + k * 5 + 1, none⟩) hb2).trans y1, (h.cell (p := ⟨b2, o2 + k * 5 + 2, none⟩) hb2).trans y2, (h.cell (p := ⟨b2, o2 + k * 5 + 3, none⟩) hb2).trans y3, (h.cell (p := ⟨b2, o2 + k * 5 + 4, none⟩) hb2).trans y4⟩)
      have HBW := Lib.hid hbw
      clear x0 x1 x2 x3 x4 y0 y1 y2 y3 y4 hr1 hr2 e1 e2 hbw
      generalize s.frm = sf at *
      generalize s.n = sn at *
      generalize s.isf = si at *
      generalize s.kind = sk at *
      generalize s.pay = sp at *
      go_wp2_with fail
      go_region_held3 (fun W => Below wr.heap.size wr W ∧ W.cell? ⟨b1, o1 + k * 5, none⟩ = some (.int .i64 sf) ∧ W.cell? ⟨b1, o1 + k * 5 + 1, none⟩ = some (.int .i64 sn) ∧ W.cell? ⟨b1, o1 + k * 5 + 2, none⟩ = some (.bool si) ∧ W.cell? ⟨b1, o1 + k * 5 + 3, none⟩ = some (.int .i64 sk) ∧ W.cell? ⟨b1, o1 + k * 5 + 4, none⟩ = some (.slice B1 sp.length d1) ∧
          W.cell? ⟨b2, o2 + k * 5, none⟩ = some (.int .i64 sf) ∧ W.cell? ⟨b2, o2 + k * 5 + 1, none⟩ = some (.int .i64 sn) ∧ W.cell? ⟨b2, o2 + k * 5 + 2, none⟩ = some (.bool si) ∧ W.cell? ⟨b2, o2 + k * 5 + 3, none⟩ = some (.int .i64 sk) ∧ W.cell? ⟨b2, o2 + k * 5 + 4, none⟩ = some (.slice B2 sp.length d2))
        (first | exact ⟨Below.refl _ _, HS.out _ (Below.refl _ _)⟩ | exact ⟨(Below.refl _ _).drew, HS.out _ (Below.refl _ _).drew⟩ | exact ⟨b5, HS.out _ b5⟩)
        (first | (go_at_call 14; refine (HSM.out _ (Below.refl _ _).drew).mono ?_; rintro e w5 ⟨rfl, hb5⟩; have b5 : Below wr.heap.size wr w5 := (Below.refl wr.heap.size wr).drew.trans hb5))
      go_wp2_with fail
      go_roundw
      case rel => exact ⟨k + 1, by omega, by go_num, HBW.out.trans (b5.mono HBW.out.size)⟩
      case measure => simp [intOf]; omega
    · go_wp2_with fail
      go_ret
      exact ⟨rfl, hbw⟩
#print axioms rsame_any
end Go.Proofs.Ytfaedecfpnmnjaa
