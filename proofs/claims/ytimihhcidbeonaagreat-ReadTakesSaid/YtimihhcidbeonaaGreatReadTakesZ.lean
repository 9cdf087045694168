/-
  Whatever parts are taken by a taker, and however they are handed in, what was read of them is the document's, and what is written into an answer is of no account: ReadTakes answers true at every slice of parts and every number. No conditions.
-/
import Derived.Test.YtimihhcidbeonaaGreatRows
import Derived.WalkKit
import Derived.ProofKit
import Derived.OpenShut
import Derived.ShutString
import Derived.ChangeOld
import Derived.Below
import Derived.Lib.SmallJoins
import Derived.Deep.LoopGhost
import Derived.Test.YtimihhcidbeonaaGreatReadTakesZ17
set_option maxRecDepth 100000
set_option maxHeartbeats 16000000
namespace Go.Proofs.YtimihhcidbeonaaGreat.readTakes
open Lib (hid)
open Go.Proofs.YtimihhcidbeonaaGreat
open Go.ChangeShapes Go.WideShapes Go.ChangeAt Go.RowKit
open Go.ChangeMaps (open_string shut_string)
set_option linter.unusedVariables false
theorem own : ownKnob Tryz.prog.godebug = none := by kernel_rfl
theorem laidOut : laidOutB Tryz.prog = true := by kernel_rfl
theorem walk (a0 : Option Addr) (len0 cap0 : Nat) (l0 : List Jm) (a1 : Int) (w : World) (w0 : l0.length = len0 ∧ SRow w (.slice a0 len0 cap0) l0) (w1 : (Lit.int .u8 a1).wf = true) :
  Calls Tryz.prog 6 #[.slice a0 len0 cap0, .int .u8 a1] w fun e w' => e = .returned (.bool true) ∧ Below w.heap.size w w' := by
 obtain ⟨rfl, hrow⟩ := w0
 obtain ⟨u0, u1⟩ := bounds_u8 w1
 have HFX := hid (fun W => fix18_any W)
 have HROW := hid hrow
 have hfld := run_field18
 obtain ⟨-, hc1, hc2⟩ := hrow.1.len
 by_cases h40 : 40 < l0.length
 ·have h40i : (40 : Int) < (l0.length : Int) := by omega
  clear hrow h40
  go_enter Tryz.func6, Tryz.ntmps6
  go_wp2_with fail
  refine (HFX.out _).mono ?_
  rintro e w1 ⟨rfl, hb1⟩
  have HB1 := hid hb1
  clear hb1
  go_wp2_with fail
  go_ret
  exact ⟨rfl, HB1.out⟩
 ·have h40i : ¬ (40 : Int) < (l0.length : Int) := by omega
  obtain ⟨n, hn⟩ : ∃ n, l0.length = n := ⟨_, rfl⟩
  have HN := hid hn
  obtain ⟨kk, hkk, hkl⟩ : ∃ kk : Nat, a1.tmod ((n : Int) + 1) = (kk : Int) ∧ kk ≤ n := by
   rw [Int.tmod_eq_emod_of_nonneg u0]
   have q1 := Int.emod_nonneg a1 (show (n : Int) + 1 ≠ 0 by omega)
   have q2 := Int.emod_lt_of_pos a1 (show (0 : Int) < (n : Int) + 1 by omega)
   exact ⟨(a1 % ((n : Int) + 1)).toNat, by omega, by omega⟩
  have hrem : ¬ (n : Int) + 1 = 0 := by omega
  have hrem2 : (((n : Int) + 1) == 0) = false := beq_eq_false_iff_ne.2 hrem
  rw [hn] at HROW hc1 h40 h40i ⊢
  clear hrow hn
  go_enter Tryz.func6, Tryz.ntmps6
  go_wp2_with fail
  go_loopg [18] n (fun gk iv wr => ∃ k : Nat, iv = .int .i64 k ∧ k ≤ n ∧ Hid (n - k = gk) ∧ Hid (∀ j d, j < k → l0[j]? = some d → d.Few) ∧ Hid (Below w.heap.size w wr))
  case atStart => exact ⟨0, rfl, Nat.zero_le _, hid rfl, hid (fun j d hj => absurd hj (Nat.not_lt_zero _)), hid (Below.refl _ _)⟩
  case round =>
   obtain ⟨k, rfl, hk, HGK, HFEW, HB⟩ := hrel
   by_cases hlt : k < n
   ·obtain ⟨d, hd⟩ : ∃ d, l0[k]? = some d := ⟨_, List.getElem?_eq_getElem (by rw [HN.out]; exact hlt)⟩
    have hsr := HROW.out.below HB.out
    obtain ⟨b, o, rfl, hbl, hc0⟩ := hsr.1.block (by rw [HN.out]; omega)
    obtain ⟨m0, m1, m2, m3, m4⟩ := flatS5_at l0 k d hd
    have y0 := hc0 _ _ m0
    have y1 := hc0 _ _ m1
    have y2 := hc0 _ _ m2
    have y3 := hc0 _ _ m3
    have y4 := hc0 _ _ m4
    rw [← Nat.add_assoc] at y1 y2 y3 y4
    obtain ⟨un, hun⟩ : ∃ un, wr.alloc (.cells #[.int .i64 d.s.frm, .int .i64 d.s.n, .bool d.s.isf, .int .i64 d.s.kind, .slice d.A d.s.pay.length d.c] 80) = un := ⟨_, rfl⟩
    have kn : Held un wr.heap.size 80 #[.int .i64 d.s.frm, .int .i64 d.s.n, .bool d.s.isf, .int .i64 d.s.kind, .slice d.A d.s.pay.length d.c] := by rw [← hun]; exact heap_alloc_new wr _
    have HBN := hid (show Below w.heap.size w un from by rw [← hun]; exact HB.out.alloc HB.out.size _)
    have q1 := kn.cell 1
    have q4 := kn.cell 4
    simp at q1 q4
    have hpl : d.s.pay.length ≤ 9223372036854775807 := by
     obtain ⟨_, _, hv, r1, r2, _⟩ := (hsr.2 d (List.mem_of_getElem? hd)).1
     unfold maxLen at r2
     omega
    have HD := hid hd
    clear hsr hc0 m0 m1 m2 m3 m4 kn hd
    by_cases hp1 : 1500 < d.s.pay.length
    ·have hp2 : (1500 : Int) < (d.s.pay.length : Int) := by omega
     clear hp1
     go_wp2_with fail
     refine (HFX.out _).mono ?_
     rintro e w5 ⟨rfl, hb5⟩
     have HB5 := hid (HBN.out.trans (hb5.mono HBN.out.size))
     clear hb5
     go_wp2_with fail
     go_ret
     exact ⟨rfl, HB5.out⟩
    ·have hp2 : ¬ (1500 : Int) < (d.s.pay.length : Int) := by omega
     by_cases hp3 : 1099511627776 < d.s.n
     ·go_wp2_with fail
      refine (HFX.out _).mono ?_
      rintro e w5 ⟨rfl, hb5⟩
      have HB5 := hid (HBN.out.trans (hb5.mono HBN.out.size))
      clear hb5
      go_wp2_with fail
      go_ret
      exact ⟨rfl, HB5.out⟩
     ·by_cases hp4 : d.s.n < -1099511627776
      ·go_wp2_with fail
       refine (HFX.out _).mono ?_
       rintro e w5 ⟨rfl, hb5⟩
       have HB5 := hid (HBN.out.trans (hb5.mono HBN.out.size))
       clear hb5
       go_wp2_with fail
       go_ret
       exact ⟨rfl, HB5.out⟩
      ·have HF2 := hid (show d.Few from ⟨by omega, by omega, by omega⟩)
       go_wp2_with fail
       go_roundg (n - (k + 1))
       case measure => have := HGK.out; omega
       case rel => exact ⟨k + 1, by go_num, hlt, hid rfl, hid (fun j e hj he => by
        by_cases hjk : j < k
        ·exact HFEW.out j e hjk he
        ·have hjk2 : j = k := by omega
         rw [hjk2, HD.out] at he
         injection he with he
         rw [← he]
         exact HF2.out), HBN⟩
   ·have hkn : k = n := by omega
    have hfew : ∀ x ∈ l0, x.Few := fun x hx => by
     obtain ⟨j, hj⟩ := List.mem_iff_getElem?.1 hx
     have := (List.getElem?_eq_some_iff.1 hj).1
     exact HFEW.out j x (by rw [hkn, ← HN.out]; exact this) hj
    obtain ⟨n0, hn0⟩ : ∃ n0, wr.heap.size = n0 := ⟨_, rfl⟩
    have hsr := HROW.out.below HB.out
    have hj0 : JRow wr n0 (.slice a0 l0.length cap0) l0 := by rw [← hn0, HN.out]; exact hsr.few hfew
    have HJ := hid (fun (W : World) (hW : Below n0 wr W) => (hj0.below hW))
    have HFW := hid hfew
    have HNW := hid (rnew_any wr)
    rw [hn0] at HNW
    have hn0' := hn0
    have HLT := hid (show (l0.take kk).length = kk by rw [List.length_take, HN.out]; omega)
    have HLD := hid (show (l0.drop kk).length = n - kk by rw [List.length_drop, HN.out])
    clear hsr hj0 hfew hkn
    go_wp2_with fail
    refine HNW.out.mono ?_
    rintro e w2 ⟨rfl, ht2, hb2⟩
    have z2 := ht2.held.lt
    obtain ⟨g1, hg1⟩ : ∃ g1, takeL noG ((l0.take kk).map (·.s)) = g1 := ⟨_, rfl⟩
    have hig1 : Ig g1 := by
     rw [← hg1]
     refine Ig.zero.take fun s hs => ?_
     obtain ⟨x, hx, rfl⟩ := List.mem_map.1 hs
     exact ((HROW.out.2 x (List.mem_of_mem_take hx))).2.1
    have hbz1 : Bz kk g1 := by
     have h := Bz.take ((l0.take kk).map (·.s)) Bz.zero (few_take HFW.out kk)
     rw [hg1, List.length_map, HLT.out, Nat.zero_add] at h
     exact h
    have hTS0 : ∀ i, i < n0 → ¬ TS n0 none none i := fun i hi e => by
     rcases e with e | e | e
     ·omega
     ·cases e
     ·cases e
    have HTS0 := hid hTS0
    have hjt : ∀ W', PartN (TS n0 none none) w2 W' → JRow W' W'.heap.size (.slice a0 (l0.take kk).length cap0) (l0.take kk) := fun W' hp => by
     have hl := hp.low (N0 := n0) (by omega) HTS0.out
     exact ((HJ.out W' (hb2.trans hl)).take (by rw [HN.out]; exact hkl)).more (by have := hl.size; have := hp.size; omega)
    have HT2 := hid (rtake_any ht2 Ig.zero Bd.zero a0 cap0 (l0.take kk) hjt (by rw [HLT.out]; omega))
    rw [HLT.out, hg1] at HT2
    have HG1 := hid hg1
    have HB2 := hid hb2
    have HIG1 := hid hig1
    have HBZ1 := hid hbz1
    have hkk0 : (0 : Int) ≤ (kk : Int) := by omega
    have hkc : (kk : Int) ≤ (cap0 : Int) := by omega
    have hkc2 : kk ≤ cap0 := by omega
    clear ht2 hb2 hg1 hig1 hbz1 hjt hTS0
    go_wp2_with fail
    refine HT2.out.mono ?_
    rintro e w3 ⟨rfl, SA, Sc, es, PA, Pc, ps, RA, Rc, h3, hp3, hs3⟩
    have hl3 := hp3.low (N0 := n0) (by omega) HTS0.out
    have HB3 := hid (HB2.out.trans hl3)
    have HT3 := hid h3
    have hz3 := h3.held.lt
    have HGO := hid (rgot_any h3 HIG1.out.trc (by have := HBZ1.out.pts; rw [← h3.ptsp, List.length_map] at this; omega) (by have := HBZ1.out.rej; omega))
    have hz23 := hp3.size
    clear h3 hp3 hs3 hl3
    go_wp2_with fail
    refine HGO.out.mono ?_
    rintro e w4 ⟨SA4, Sc4, es4, PA4, Pc4, ps4, RA4, Rc4, rfl, hg4, hb4⟩
    obtain ⟨B, hB⟩ : ∃ B, w4.heap.size = B := ⟨_, rfl⟩
    obtain ⟨u, hu⟩ : ∃ u, w4.alloc (.cells #[.slice SA4 es4.length Sc4, .slice PA4 ps4.length Pc4, .int .i64 g1.sk, .int .i64 g1.fr, .slice RA4 g1.rej.length Rc4] 64) = u := ⟨_, rfl⟩
    have su : u.heap.size = B + 1 := by rw [← hu, World.size_alloc, hB]
    have bu : Below w4.heap.size w4 u := by rw [← hu]; exact (Below.refl _ _).alloc (Nat.le_refl _) _
    have ku : Held u B 64 #[.slice SA4 es4.length Sc4, .slice PA4 ps4.length Pc4, .int .i64 g1.sk, .int .i64 g1.fr, .slice RA4 g1.rej.length Rc4] := by rw [← hu, ← hB]; exact heap_alloc_new w4 _
    have hz34 := hb4.size
    have HKU := hid ku
    have HGU := hid (hg4.below bu)
    have HBU := hid (hb4.trans (bu.mono hb4.size))
    have HV := hid (fun W (hW : Below u.heap.size u W) => show W.cell? ⟨B, 0, none⟩ = some (.slice SA4 es4.length Sc4) ∧ W.cell? ⟨B, 1, none⟩ = some (.slice PA4 ps4.length Pc4) ∧ W.cell? ⟨B, 2, none⟩ = some (.int .i64 g1.sk) ∧ W.cell? ⟨B, 3, none⟩ = some (.int .i64 g1.fr) ∧ W.cell? ⟨B, 4, none⟩ = some (.slice RA4 g1.rej.length Rc4) from by
     have h := HKU.out.below hW (by omega)
     exact ⟨h.cell 0, h.cell 1, h.cell 2, h.cell 3, h.cell 4⟩)
    have hn0u : n0 ≤ u.heap.size := by omega
    have HB3U := hid (HB3.out.trans (HBU.out.mono (by omega)))
    have HRT := hid (fun W (hW : Below u.heap.size u W) => rgtake_any noG none 0 [] none 0 [] none 0 a0 cap0 (l0.take kk) W (fun _ => False) (noG_in _ _) (fun _ _ e => e) (((HJ.out W (HB3U.out.trans (hW.mono hn0u))).take (by rw [HN.out]; exact hkl)).more (Nat.le_trans hn0u hW.size)) (by rw [HLT.out]; omega) Bd.zero)
    rw [HLT.out, HG1.out] at HRT
    have HRT2 : Hid (∀ W, Below u.heap.size u W → Calls Tryz.prog 38 #[.agg #[.slice none 0 0, .slice none 0 0, .int .i64 0, .int .i64 0, .slice none 0 0, .bool false], .slice a0 kk cap0] W (TGot (fun _ => False) W g1)) := hid HRT.out
    have HSG := hid (show sameG g1 g1 = true by unfold sameG; exact decide_eq_true ⟨rfl, rfl, rfl, rfl, rfl⟩)
    clear hg4 bu ku hb4 HRT
    go_wp2_with fail
    go_region_held3 (fun W => W.cell? ⟨B, 0, none⟩ = some (.slice SA4 es4.length Sc4) ∧ W.cell? ⟨B, 1, none⟩ = some (.slice PA4 ps4.length Pc4) ∧ W.cell? ⟨B, 2, none⟩ = some (.int .i64 g1.sk) ∧ W.cell? ⟨B, 3, none⟩ = some (.int .i64 g1.fr) ∧ W.cell? ⟨B, 4, none⟩ = some (.slice RA4 g1.rej.length Rc4))
     (first | exact HV.out _ (Below.refl _ _) | exact HV.out _ (Below.refl _ _).drew | exact HV.out _ b6 | exact HV.out _ b5)
     (first
      | (go_at_call 38; (with_reducible refine (HRT2.out _ (Below.refl _ _).drew).mono ?_); rintro e w5 ⟨SA5, Sc5, es5, PA5, Pc5, ps5, RA5, Rc5, rfl, hg5, hb5⟩; have b5 : Below u.heap.size u w5 := (Below.refl u.heap.size u).drew.trans hb5; have HSM := hid (rgsame_any g1 SA4 Sc4 es4 PA4 Pc4 ps4 RA4 Rc4 g1 SA5 Sc5 es5 PA5 Pc5 ps5 RA5 Rc5 w5 (HGU.out.below b5).row hg5.here); rw [HSG.out] at HSM)
      | (go_at_call 32; (with_reducible refine HSM.out.mono ?_); rintro e w6 ⟨rfl, hb6⟩; have b6 : Below u.heap.size u w6 := b5.trans (hb6.mono b5.size)))
    have z6 := b6.size
    have HB6 := hid (HBU.out.trans (b6.mono (by omega)))
    have HK6 := hid (HKU.out.below b6 (by omega))
    have hg6 := HGU.out.below b6
    have hnm : ∀ d ∈ es4, d.p.name.length ≤ 100 := fun d hd => by
     have hm : d.p ∈ g1.sig := by rw [← hg6.sigp]; exact List.mem_map_of_mem hd
     obtain ⟨i, hi⟩ := List.mem_iff_getElem?.1 hm
     have := okName_len ((checkP_zero.1 (checkT_p HIG1.out.trc)).2 i d.p hi).1
     omega
    have HPB := hid hg6.pts.block
    have HSB := hid (hg6.sig.block hnm)
    obtain ⟨-, hpc1, hpc2⟩ := hg6.pts.row.1.len
    obtain ⟨hsc1, hsc2⟩ : es4.length ≤ Sc4 ∧ Sc4 ≤ 9223372036854775807 := by
     obtain ⟨A', c', hv, q1, q2⟩ := hg6.sig.row.form
     injection hv with _ _ e3
     exact ⟨by omega, by omega⟩
    clear hnm hg6 hb5 hb6 hg5 b5 b6
    have hk6 := HK6.out
    have HK6b := hid hk6
    have x1 := hk6.cell 1
    simp at x1
    have hBl := hk6.lt
    clear hk6
    go_wp2_with fail
    have HPB2 := hid (show 0 < ps4.length → ∃ g cs, PA4 = some ⟨g, 0, none⟩ ∧ w3.heap.size ≤ g ∧ Held w6 g 51 cs ∧ PtN cs ps4.length from fun h => by
     rcases HPB.out with e | e
     ·rw [e] at h
      exact absurd h (by simp)
     ·exact e)
    have HSB2 := hid (show 0 < es4.length → ∃ g cs, SA4 = some ⟨g, 0, none⟩ ∧ w3.heap.size ≤ g ∧ Held w6 g 88 cs ∧ SgN cs es4.length 0 from fun h => by
     rcases HSB.out with e | e
     ·rw [e] at h
      exact absurd h (by simp)
     ·exact e)
    go_loopg [67] ps4.length (fun gk iv wr => ∃ (k : Nat) (cs : Array Value), iv = .int .i64 k ∧ k ≤ ps4.length ∧ Hid (ps4.length - k = gk) ∧ Hid (∀ g, PA4 = some ⟨g, 0, none⟩ → 0 < ps4.length → Held wr g 51 cs ∧ PtN cs ps4.length) ∧ Hid (PartN (fun j => 0 < ps4.length ∧ ob PA4 = some j) w6 wr))
    case atStart =>
     by_cases h0 : 0 < ps4.length
     ·obtain ⟨g, cs, e1, e2, e3, e4⟩ := HPB2.out h0
      exact ⟨0, cs, rfl, Nat.zero_le _, hid rfl, hid (fun g' e _ => by
       rw [e1] at e
       injection e with e
       injection e with e
       rw [← e]
       exact ⟨e3, e4⟩), hid (PartN.refl _ _)⟩
     ·exact ⟨0, #[], rfl, Nat.zero_le _, hid rfl, hid (fun g' e h => absurd h h0), hid (PartN.refl _ _)⟩
    case round =>
     obtain ⟨k, cs, rfl, hk2, HGK2, HPC, HPP⟩ := hrel
     by_cases hlt : k < ps4.length
     ·have h0 : 0 < ps4.length := by omega
      obtain ⟨g, cs0, e1, e2, e3, -⟩ := HPB2.out h0
      obtain ⟨hh, hpn⟩ := HPC.out g e1 h0
      obtain ⟨⟨x, hx⟩, vv, hvv⟩ := hpn k hlt
      have hgB : g ≠ B := fun e => by
       have h1 : Held w6 B 51 cs0 := by rw [← e]; exact e3
       have h2 := HK6b.out
       have h3 : some (Obj.cells cs0 51 (0, 0)) = some (Obj.cells _ 64 (0, 0)) := (show w6.heap[B]? = _ from h1).symm.trans h2
       injection h3 with h3
       injection h3 with _ h3 _
       exact absurd h3 (by decide)
      have hkb : Held wr B 64 #[.slice SA4 es4.length Sc4, .slice PA4 ps4.length Pc4, .int .i64 g1.sk, .int .i64 g1.fr, .slice RA4 g1.rej.length Rc4] := (HPP.out.block B hBl (fun e => by
       have := e.2
       rw [e1] at this
       injection this with this
       exact hgB this)).trans HK6b.out
      subst e1
      have q0 : wr.cell? ⟨g, k * 2, none⟩ = some (.int .u64 x) := (hh.cell (k * 2)).trans hx
      have q0f := hh.frozen (k * 2)
      have q1 := fun y => ((hh.put (k * 2) y).cell (k * 2 + 1))
      have q1' : ∀ y, (wr.setCell ⟨g, k * 2, none⟩ (.int .u64 y)).cell? ⟨g, k * 2 + 1, none⟩ = some vv := fun y => by
       rw [q1, Array.getElem?_setIfInBounds_ne (by omega)]
       exact hvv
      have q1f := fun y => (hh.put (k * 2) y).frozen (k * 2 + 1)
      have b1 := hkb.cell 1
      have b1' := fun y => (hkb.other_put (b := g) (i := k * 2) (fun e => hgB e.symm) y).cell 1
      simp at b1 b1'
      have hgl := hh.lt
      have HNX := hid (fun y => show Held ((wr.setCell ⟨g, k * 2, none⟩ (.int .u64 y)).setCell ⟨g, k * 2 + 1, none⟩ (.slice none 0 0)) g 51 ((cs.setIfInBounds (k * 2) (.int .u64 y)).setIfInBounds (k * 2 + 1) (.slice none 0 0)) ∧ PtN ((cs.setIfInBounds (k * 2) (.int .u64 y)).setIfInBounds (k * 2 + 1) (.slice none 0 0)) ps4.length from ⟨(hh.put _ _).put _ _, (hpn.tm hlt y).ev hlt _⟩)
      have HPX := hid (fun y => show PartN (fun j => 0 < ps4.length ∧ ob (some (⟨g, 0, none⟩ : Addr)) = some j) w6 ((wr.setCell ⟨g, k * 2, none⟩ (.int .u64 y)).setCell ⟨g, k * 2 + 1, none⟩ (.slice none 0 0)) from (HPP.out.trans (PartN.put (b := g) ⟨h0, rfl⟩ _ _)).trans (PartN.put (b := g) ⟨h0, rfl⟩ _ _))
      have i0 : (0 : Int) ≤ (k : Int) := by omega
      clear hh hpn hx hvv hkb q1 e3 x1
      go_wp2_with fail
      go_roundg (ps4.length - (k + 1))
      case measure => have := HGK2.out; omega
      case rel => exact ⟨k + 1, _, by go_num, hlt, hid rfl, hid (fun g' e _ => by
       injection e with e
       injection e with e
       rw [← e]
       exact HNX.out _), hid (HPX.out _)⟩
     ·obtain ⟨w7, hw7⟩ : ∃ w7, w7 = wr := ⟨_, rfl⟩
      subst hw7
      have HP67 := hid HPP.out
      have hz67 := HPP.out.size
      have hkb : Held w7 B 64 #[.slice SA4 es4.length Sc4, .slice PA4 ps4.length Pc4, .int .i64 g1.sk, .int .i64 g1.fr, .slice RA4 g1.rej.length Rc4] := (HPP.out.block B hBl (fun e => by
       obtain ⟨g, cs0, e1, e2, e3, -⟩ := HPB2.out e.1
       have h1 := e.2
       rw [e1] at h1
       injection h1 with h1
       have h1b : g = B := h1
       rw [h1b] at e3
       have h2 := HK6b.out
       have h3 : some (Obj.cells cs0 51 (0, 0)) = some (Obj.cells _ 64 (0, 0)) := (show w6.heap[B]? = _ from e3).symm.trans h2
       injection h3 with h3
       injection h3 with _ h3 _
       exact absurd h3 (by decide))).trans HK6b.out
      have HK7 := hid hkb
      have HSB3 := hid (show 0 < es4.length → ∃ g cs, SA4 = some ⟨g, 0, none⟩ ∧ w3.heap.size ≤ g ∧ Held w7 g 88 cs ∧ SgN cs es4.length 0 from fun h => by
       obtain ⟨g, cs, e1, e2, e3, e4⟩ := HSB2.out h
       refine ⟨g, cs, e1, e2, (HP67.out.block g e3.lt (fun e => ?_)).trans e3, e4⟩
       obtain ⟨g', cs', f1, f2, f3, -⟩ := HPB2.out e.1
       have h1 := e.2
       rw [f1] at h1
       injection h1 with h1
       have h1b : g' = g := h1
       rw [h1b] at f3
       have h3 : some (Obj.cells cs' 51 (0, 0)) = some (Obj.cells cs 88 (0, 0)) := (show w6.heap[g]? = _ from f3).symm.trans e3
       injection h3 with h3
       injection h3 with _ h3 _
       exact absurd h3 (by decide))
      have x0 := hkb.cell 0
      simp at x0
      have hBl7 := hkb.lt
      clear hkb x1
      go_wp2_with fail
      go_loopg [88] es4.length (fun gk iv wr => ∃ (k : Nat) (cs : Array Value), iv = .int .i64 k ∧ k ≤ es4.length ∧ Hid (es4.length - k = gk) ∧ Hid (∀ g, SA4 = some ⟨g, 0, none⟩ → 0 < es4.length → Held wr g 88 cs ∧ SgN cs es4.length k) ∧ Hid (PartN (fun j => 0 < es4.length ∧ ob SA4 = some j) w7 wr))
      case atStart =>
       by_cases h0 : 0 < es4.length
       ·obtain ⟨g, cs, e1, e2, e3, e4⟩ := HSB3.out h0
        exact ⟨0, cs, rfl, Nat.zero_le _, hid rfl, hid (fun g' e _ => by
         rw [e1] at e
         injection e with e
         injection e with e
         rw [← e]
         exact ⟨e3, e4⟩), hid (PartN.refl _ _)⟩
       ·exact ⟨0, #[], rfl, Nat.zero_le _, hid rfl, hid (fun g' e h => absurd h h0), hid (PartN.refl _ _)⟩
      case round =>
       obtain ⟨k, cs, rfl, hk3, HGK3, HSC, HSP⟩ := hrel
       by_cases hlt : k < es4.length
       ·have h0 : 0 < es4.length := by omega
        obtain ⟨g, cs0, e1, e2, e3, -⟩ := HSB3.out h0
        obtain ⟨hh, hsn⟩ := HSC.out g e1 h0
        obtain ⟨nm, hnl, hnm⟩ := hsn k (Nat.le_refl _) hlt
        have hgB : g ≠ B := fun e => by
         have h1 : Held w7 B 88 cs0 := by rw [← e]; exact e3
         have h2 := HK7.out
         have h3 : some (Obj.cells cs0 88 (0, 0)) = some (Obj.cells _ 64 (0, 0)) := (show w7.heap[B]? = _ from h1).symm.trans h2
         injection h3 with h3
         injection h3 with _ h3 _
         exact absurd h3 (by decide)
        have hkb : Held wr B 64 #[.slice SA4 es4.length Sc4, .slice PA4 ps4.length Pc4, .int .i64 g1.sk, .int .i64 g1.fr, .slice RA4 g1.rej.length Rc4] := (HSP.out.block B hBl7 (fun e => by
         have := e.2
         rw [e1] at this
         injection this with this
         exact hgB this)).trans HK7.out
        subst e1
        have hadd : ∀ W, (Op.stringOp .add nm { data := #[120] }).run Tryz.prog W = .ok (.string (nm ++ { data := #[120] })) W := fun W => run_string_add_sum (P := Tryz.prog) (w := W) _ _ (by show nm.size + 1 ≤ _; omega)
        have q0 : wr.cell? ⟨g, k * 2, none⟩ = some (.string nm) := (hh.cell (k * 2)).trans hnm
        have q0f := hh.frozen (k * 2)
        have b0 := hkb.cell 0
        simp at b0
        have hgl := hh.lt
        have HNX := hid (show Held (wr.setCell ⟨g, k * 2, none⟩ (.string (nm ++ { data := #[120] }))) g 88 (cs.setIfInBounds (k * 2) (.string (nm ++ { data := #[120] }))) ∧ SgN (cs.setIfInBounds (k * 2) (.string (nm ++ { data := #[120] }))) es4.length (k + 1) from ⟨hh.put _ _, hsn.put _⟩)
        have HPX := hid (show PartN (fun j => 0 < es4.length ∧ ob (some (⟨g, 0, none⟩ : Addr)) = some j) w7 (wr.setCell ⟨g, k * 2, none⟩ (.string (nm ++ { data := #[120] }))) from HSP.out.trans (PartN.put (b := g) ⟨h0, rfl⟩ _ _))
        have i0 : (0 : Int) ≤ (k : Int) := by omega
        clear hh hsn hnm hkb e3 x0
        go_wp2_with fail
        go_roundg (es4.length - (k + 1))
        case measure => have := HGK3.out; omega
        case rel => exact ⟨k + 1, _, by go_num, hlt, hid rfl, hid (fun g' e _ => by
         injection e with e
         injection e with e
         rw [← e]
         exact HNX.out), hid HPX.out⟩
       ·have hlow : Below w3.heap.size w3 wr := by
         have h1 : Below w3.heap.size w6 w7 := HP67.out.low (by have := HB6.out.size; exact this) (fun i hi e => by
          obtain ⟨g, cs0, e1, e2, e3, -⟩ := HPB2.out e.1
          have h1 := e.2
          rw [e1] at h1
          injection h1 with h1
          have h1b : g = i := h1
          omega)
         have h2 : Below w3.heap.size w7 wr := HSP.out.low (by have := HB6.out.size; omega) (fun i hi e => by
          obtain ⟨g, cs0, e1, e2, e3, -⟩ := HSB3.out e.1
          have h1 := e.2
          rw [e1] at h1
          injection h1 with h1
          have h1b : g = i := h1
          omega)
         exact (HB6.out.trans h1).trans h2
        have ht7 := HT3.out.below hlow
        obtain ⟨w8, hw8⟩ : ∃ w8, w8 = wr := ⟨_, rfl⟩
        subst hw8
        have hz8 := hlow.size
        have HB8 := hid (HB3.out.trans (hlow.mono (by omega)))
        have hTS1 : ∀ i, i < n0 → ¬ TS n0 PA RA i := fun i hi e => by have := (HT3.out.lt e).1; omega
        have HTS1 := hid hTS1
        have htk : ∀ A', (cap0 = kk ∨ A' = a0.map (fun x => x.add (kk * 5))) → Hid (Calls Tryz.prog 36 #[.pointer (some ⟨n0, 0, none⟩), .slice A' (n - kk) (cap0 - kk)] w8 fun e w' => e = .returned (.tuple #[]) ∧ TLeft w8 n0 n0 PA RA (takeL noG (l0.map (·.s))) w') := fun A' hA => by
         have h := rtake_any ht7 HIG1.out (HBZ1.out.bd (by omega)) A' (cap0 - kk) (l0.drop kk) (fun W' hp => by
          have hl := hp.low (N0 := n0) (by omega) HTS1.out
          exact ((HJ.out W' (HB8.out.trans hl)).drop (by rw [HN.out]; exact hkl) hA).more (by have := hl.size; have := hp.size; omega)) (by rw [HLD.out]; omega)
         rw [← HG1.out, takeL_cut, HLD.out] at h
         exact hid h
        have HTK := hid htk
        obtain ⟨gz, hgz⟩ : ∃ gz, takeL noG (l0.map (·.s)) = gz := ⟨_, rfl⟩
        rw [hgz] at HTK
        have HGZ := hid hgz
        have higz : Ig gz := by
         rw [← hgz]
         refine Ig.zero.take fun s hs => ?_
         obtain ⟨x, hx, rfl⟩ := List.mem_map.1 hs
         exact ((HROW.out.2 x hx)).2.1
        have hbzz : Bz n gz := by
         have h := Bz.take (l0.map (·.s)) Bz.zero (fun s hs => by
          obtain ⟨x, hx, rfl⟩ := List.mem_map.1 hs
          exact (HFW.out x hx).2)
         rw [hgz, List.length_map, HN.out, Nat.zero_add] at h
         exact h
        have HIGZ := hid higz
        have HBZZ := hid hbzz
        have hkn : (kk : Int) ≤ (n : Int) := by omega
        clear ht7 hlow htk hgz higz hbzz hTS1 x0
        rcases (show kk = cap0 ∨ ¬ cap0 = kk by omega) with rfl | hck
        ·have HTA := (HTK.out a0 (.inl rfl))
         have hnk : n = kk := by omega
         subst hnk
         rw [Nat.sub_self] at HTA
         go_wp2_with fail
         refine HTA.out.mono ?_
         rintro e w9 ⟨rfl, SA9, Sc9, es9, PA9, Pc9, ps9, RA9, Rc9, h9, hp9, hs9⟩
         have hl9 := hp9.low (N0 := n0) (by omega) HTS1.out
         have HB9 := hid (HB8.out.trans hl9)
         have HT9 := hid h9
         have z9 := hp9.size
         have HFX9 := hid (HFX.out w9)
         clear h9 hp9 hs9 hl9
         go_wp2_with fail
         refine HFX9.out.mono ?_
         rintro e w10 ⟨rfl, hb10⟩
         have z10 := hb10.size
         have h10 := HT9.out.below hb10
         have HGO2 := hid (rgot_any h10 HIGZ.out.trc (by have := HBZZ.out.pts; rw [← h10.ptsp, List.length_map] at this; omega) (by have := HBZZ.out.rej; omega))
         have HB10 := hid (HB9.out.trans (hb10.mono (by omega)))
         clear h10 hb10
         go_wp2_with fail
         refine HGO2.out.mono ?_
         rintro e w11 ⟨SA11, Sc11, es11, PA11, Pc11, ps11, RA11, Rc11, rfl, hg11, hb11⟩
         have z11 := hb11.size
         have HB11 := hid (HB10.out.trans (hb11.mono (by omega)))
         have HG11 := hid hg11
         have hn011 : n0 ≤ w11.heap.size := by omega
         have hrt := rgtake_any noG none 0 [] none 0 [] none 0 a0 n l0 w11 (fun _ => False) (noG_in _ _) (fun _ _ e => e) ((HJ.out w11 HB11.out).more hn011) (by rw [HN.out]; omega) Bd.zero
         rw [HN.out, HGZ.out] at hrt
         have HRT3 : Hid (Calls Tryz.prog 38 #[.agg #[.slice none 0 0, .slice none 0 0, .int .i64 0, .int .i64 0, .slice none 0 0, .bool false], .slice a0 n n] w11 (TGot (fun _ => False) w11 gz)) := hid hrt
         clear hg11 hb11 hrt
         go_wp2_with fail
         refine HRT3.out.mono ?_
         rintro e w12 ⟨SA12, Sc12, es12, PA12, Pc12, ps12, RA12, Rc12, rfl, hg12, hb12⟩
         have HSM := hid (rgsame_any gz SA11 Sc11 es11 PA11 Pc11 ps11 RA11 Rc11 gz SA12 Sc12 es12 PA12 Pc12 ps12 RA12 Rc12 w12 (HG11.out.below hb12).row hg12.here)
         rw [show sameG gz gz = true by unfold sameG; exact decide_eq_true ⟨rfl, rfl, rfl, rfl, rfl⟩] at HSM
         have HB12 := hid (HB11.out.trans (hb12.mono hn011))
         have z12 := hb12.size
         clear hg12 hb12
         go_wp2_with fail
         refine HSM.out.mono ?_
         rintro e w13 ⟨rfl, hb13⟩
         have HB13 := hid (HB12.out.trans (hb13.mono (by omega)))
         clear hb13
         go_wp2_with fail
         go_ret
         exact ⟨rfl, HB.out.trans (HB13.out.mono (by have := HB.out.size; omega))⟩
        ·have hck2 : ¬ (cap0 : Int) = (kk : Int) := by omega
         have HTA := (HTK.out _ (.inr rfl))
         go_wp2_with fail
         refine HTA.out.mono ?_
         rintro e w9 ⟨rfl, SA9, Sc9, es9, PA9, Pc9, ps9, RA9, Rc9, h9, hp9, hs9⟩
         have hl9 := hp9.low (N0 := n0) (by omega) HTS1.out
         have HB9 := hid (HB8.out.trans hl9)
         have HT9 := hid h9
         have z9 := hp9.size
         have HFX9 := hid (HFX.out w9)
         clear h9 hp9 hs9 hl9
         go_wp2_with fail
         refine HFX9.out.mono ?_
         rintro e w10 ⟨rfl, hb10⟩
         have z10 := hb10.size
         have h10 := HT9.out.below hb10
         have HGO2 := hid (rgot_any h10 HIGZ.out.trc (by have := HBZZ.out.pts; rw [← h10.ptsp, List.length_map] at this; omega) (by have := HBZZ.out.rej; omega))
         have HB10 := hid (HB9.out.trans (hb10.mono (by omega)))
         clear h10 hb10
         go_wp2_with fail
         refine HGO2.out.mono ?_
         rintro e w11 ⟨SA11, Sc11, es11, PA11, Pc11, ps11, RA11, Rc11, rfl, hg11, hb11⟩
         have z11 := hb11.size
         have HB11 := hid (HB10.out.trans (hb11.mono (by omega)))
         have HG11 := hid hg11
         have hn011 : n0 ≤ w11.heap.size := by omega
         have hrt := rgtake_any noG none 0 [] none 0 [] none 0 a0 cap0 l0 w11 (fun _ => False) (noG_in _ _) (fun _ _ e => e) ((HJ.out w11 HB11.out).more hn011) (by rw [HN.out]; omega) Bd.zero
         rw [HN.out, HGZ.out] at hrt
         have HRT3 : Hid (Calls Tryz.prog 38 #[.agg #[.slice none 0 0, .slice none 0 0, .int .i64 0, .int .i64 0, .slice none 0 0, .bool false], .slice a0 n cap0] w11 (TGot (fun _ => False) w11 gz)) := hid hrt
         clear hg11 hb11 hrt
         go_wp2_with fail
         refine HRT3.out.mono ?_
         rintro e w12 ⟨SA12, Sc12, es12, PA12, Pc12, ps12, RA12, Rc12, rfl, hg12, hb12⟩
         have HSM := hid (rgsame_any gz SA11 Sc11 es11 PA11 Pc11 ps11 RA11 Rc11 gz SA12 Sc12 es12 PA12 Pc12 ps12 RA12 Rc12 w12 (HG11.out.below hb12).row hg12.here)
         rw [show sameG gz gz = true by unfold sameG; exact decide_eq_true ⟨rfl, rfl, rfl, rfl, rfl⟩] at HSM
         have HB12 := hid (HB11.out.trans (hb12.mono hn011))
         have z12 := hb12.size
         clear hg12 hb12
         go_wp2_with fail
         refine HSM.out.mono ?_
         rintro e w13 ⟨rfl, hb13⟩
         have HB13 := hid (HB12.out.trans (hb13.mono (by omega)))
         clear hb13
         go_wp2_with fail
         go_ret
         exact ⟨rfl, HB.out.trans (HB13.out.mono (by have := HB.out.size; omega))⟩
theorem lifted (os : Os) (started : os.Started) (H : Type) (enc : TypeId × Value → H) :
  ReturnsInHanded {} Tryz.checked os 6 .any (Rows.readTakesSpec.pre6 enc Tryz.prog Tryz.f6 Rows.readTakesRow.domain false) (Rows.readTakesSpec.post enc Tryz.prog Tryz.f6 false true false false) := by
 refine returnsInHanded_of_change (C := Tryz.checked) own started (by kernel_rfl) Tryz.func6
  (ChangeSpec.witness6 (enc := enc) (C := Tryz.checked) false ⟨#[], #[.slice none 0 0, .int .u8 0], []⟩ 8 (by kernel_rfl) (by kernel_rfl) (by kernel_rfl) (by kernel_rfl)) ?_
 intro W base args ds gs before hval0 hW hcnd _
 have hval : ∀ (j : Nat) t v, Tryz.f6.params[j]? = some t → args[j]? = some v → Value.okWide Tryz.prog W .any base t v := hval0
 have hW' := hW
 obtain ⟨p, q, hA0, hV, rfl, hfz, hnd⟩ := hW
 have hA : DataW.TrodAll enc Tryz.prog W 0 (fun _ => true) true Tryz.f6.params.toList args.toList ds p := hA0
 rw [Tryz.params6] at hA hval
 obtain ⟨v0, vs0, d0, ds0, p0, q0, hargs, rfl, rfl, h0, r0⟩ := trodAll_cons hA
 obtain ⟨v1, vs1, d1, ds1, p1, q1, rfl, rfl, rfl, h1, r1⟩ := trodAll_cons r0
 obtain ⟨rfl, rfl, rfl⟩ := trodAll_nil r1
 obtain rfl : args = #[v0, v1] := by cases args; simp_all
 obtain ⟨rfl, rfl⟩ := trodVars_none hV
 obtain ⟨a0, len0, cap0, rfl⟩ := okWide_slice Tryz.underlying76 (hval 0 76 v0 rfl rfl)
 have k0 := h0
 have lt0 : ∀ x ∈ p0, x.block < W.heap.size := by obtain ⟨m, hm⟩ := k0; exact DataW.trod_lt m _ _ _ hm
 obtain ⟨l0, w0⟩ : ∃ ds : List Jm, ds.length = len0 ∧ SRow W (.slice a0 len0 cap0) ds := by
  obtain ⟨fuel, hf⟩ := h0
  exact segs_of hf
 obtain ⟨a1, rfl, rfl, rfl, w1⟩ := open_int Tryz.underlying5 (hval 1 5 v1 rfl rfl) h1
 clear hA0 hval0
 refine (walk a0 len0 cap0 l0 a1 W w0 w1).mono fun e W' ⟨he, bel⟩ => ?_
 subst he
 exact ⟨_, rfl, _, _, _, [], _, [], hW', trodAll_mk1 (shut_bool Tryz.underlying4 _), (trodAll_cons_mk (Below.trod laidOut (by kernel_rfl) (of_decide_eq_true (by kernel_rfl)) k0 bel lt0) (trodAll_cons_mk (shut_int Tryz.underlying5 w1) (trodAll_mk0))), rfl, bel.frame _, fun h => by cases h⟩
theorem over : Rows.readTakesRow.holds Tryz.pinned (OpenSpec.ofChange Rows.readTakesSpec) :=
 OpenClaim.holds_of_wide 6 Tryz.f6 rfl rfl rfl rfl rfl rfl rfl ⟨rfl, rfl, rfl, rfl, rfl⟩ rfl rfl rfl rfl rfl (by kernel_rfl) Tryz.func6 (by kernel_rfl)
  (of_decide_eq_true (by kernel_rfl)) (by unfold Func.isWrapper; first | (rw [if_pos (by decide +kernel)]; kernel_rfl) | (rw [if_neg (by decide +kernel)]; exact ⟨rfl, rfl⟩))
  (fun os started H enc _ => lifted os started H enc)
theorem proved : Rows.ReadTakesSaid := over
end Go.Proofs.YtimihhcidbeonaaGreat.readTakes
