/-
  What the theorem of ReadBack rests on, part 14 of 15.
-/
import Derived.Deep.RegionHeld3
import Derived.LoopTactic
import Derived.Deep.LoopGhost
import Derived.RangeFuncCalls
import Derived.Shelf.Abstract
import Derived.OwnWalkIn
import Derived.TacticsInMore
import Derived.LoopNIn
import Derived.LoopIn
import Derived.Lib.Hide
import Derived.Outline
import Derived.Test.YtimihhcidbeonaaGreatReadBackZ13
namespace Go.Proofs.YtimihhcidbeonaaGreat
open Go.RowKit Go.ChangeShapes Go.WideShapes
set_option linter.unusedVariables false
/-- What a taker's closure answers, and leaves. -/
def TkGot (w : World) (n t : Nat) (PA RA : Option Addr) (r : Gp × Int) (e : Ending) (w' : World) : Prop := e = .returned (.int .i64 r.2) ∧ TLeft w n t PA RA r.1 w'
section
variable {w : World} {n t : Nat} {g : Gp} {SA : Option Addr} {Sc : Nat} {es : List Pd} {PA : Option Addr} {Pc : Nat} {ps : List Pm} {RA : Option Addr} {Rc : Nat}
set_option maxRecDepth 100000 in
set_option maxHeartbeats 2000000 in
theorem tkSchema_any (h : TAt w n t g SA Sc es PA Pc ps RA Rc) (his : decide (0 < g.fr) = g.isg) (FA : Option Addr) (fc : Nat) (p : List Int) (hp : Row w w.heap.size (.slice FA p.length fc) p) (hb : ∀ x ∈ p, 0 ≤ x ∧ x < 256) (hl : p.length ≤ 1000000) :
    Calls Tryz.prog 131 #[.pointer (some ⟨t, 0, none⟩), .slice FA p.length fc] w (TkGot w n t PA RA (frameG g 1 p)) := by
  obtain ⟨RR, hRR⟩ : ∃ RR, frameG g 1 p = RR := ⟨_, rfl⟩
  rw [hRR]
  have hfr : RR = if (getSig p).2 ≠ 0 then (g, (getSig p).2) else if g.isg = true ∧ (getSig p).1 ≠ g.sig then (g, 7) else (⟨(getSig p).1, true, g.pts, g.sk, g.fr, g.rej⟩, 0) := by rw [← hRR]; unfold frameG; rw [if_pos rfl]
  have HGT := Lib.hid (bsget_any FA fc p (by omega) hb w hp)
  have HT := Lib.hid h
  have hlt := h.held.lt
  have hn := h.size
  obtain ⟨x0, x1, x2, x3, x4⟩ := h.cells
  generalize getSig p = Q at HGT hfr
  clear h hp hb hl hRR
  unfold TkGot
  by_cases hE : Q.2 = 0
  · rw [if_neg (fun h => h hE)] at hfr
    have HE := Lib.hid hE
    clear hE
    cases hs : g.isg with
    | true =>
      rw [hs] at his
      by_cases hq : Q.1 = g.sig
      · rw [if_neg (fun h => h.2 hq)] at hfr
        have HFR := Lib.hid hfr
        have HQ := Lib.hid hq
        clear hfr hq hs
        go_enter Tryz.func131, Tryz.ntmps131
        go_wp2_with fail
        refine HGT.out.mono ?_
        rintro e w1 ⟨⟨A3, c3, es3, rfl, hown, hes⟩, hb1⟩
        rw [HE.out]
        have h1 := HT.out.below hb1
        have HSG := Lib.hid (gsigned_any w1 SA es.length Sc PA ps.length Pc g.sk g.fr RA g.rej.length Rc true his)
        have hlt1 := h1.held.lt
        clear x0 x1 x2 x3 x4
        obtain ⟨x0, x1, x2, x3, x4⟩ := h1.cells
        have H1 := Lib.hid h1
        have HO1 := Lib.hid hown
        have HES := Lib.hid hes
        have HB1 := Lib.hid hb1
        clear h1 hown hes hb1
        go_wp2_with fail
        refine HSG.out.mono ?_
        rintro e w2 ⟨rfl, hb2⟩
        have h2 := H1.out.below hb2
        have hlt2 := h2.held.lt
        clear x0 x1 x2 x3 x4
        obtain ⟨x0, x1, x2, x3, x4⟩ := h2.cells
        have HO2 := Lib.hid (HO1.out.below hb2)
        have HSM := Lib.hid (ssame_any A3 c3 es3 SA Sc es w2 HO2.out.row h2.sig.row)
        rw [HES.out, h2.sigp, decide_eq_true HQ.out] at HSM
        have H2 := Lib.hid h2
        have HB2 := Lib.hid (HB1.out.trans (hb2.mono HB1.out.size))
        clear h2 hb2
        go_wp2_with fail
        refine HSM.out.mono ?_
        rintro e w3 ⟨rfl, hb3⟩
        have h3 := H2.out.below hb3
        have hlt3 := h3.held.lt
        clear x0 x1 x2 x3 x4
        obtain ⟨x0, x1, x2, x3, x4⟩ := h3.cells
        have f0 := h3.held.frozen 0
        have HO3 := Lib.hid (HO2.out.below hb3)
        have H3 := Lib.hid h3
        have HB3 := Lib.hid (HB2.out.trans (hb3.mono HB2.out.size))
        clear h3 hb3
        go_wp2_with fail
        go_ret
        rw [HFR.out]
        exact ⟨rfl, A3, c3, es3, PA, Pc, ps, RA, Rc, H3.out.putSig HO3.out hn HES.out, (PartN.of_below HB3.out).trans (PartN.put (.inl rfl) 0 _), fun j hj => .inl hj⟩
      · rw [if_pos ⟨hs, hq⟩] at hfr
        have HFR := Lib.hid hfr
        have HQ := Lib.hid hq
        clear hfr hq hs
        go_enter Tryz.func131, Tryz.ntmps131
        go_wp2_with fail
        refine HGT.out.mono ?_
        rintro e w1 ⟨⟨A3, c3, es3, rfl, hown, hes⟩, hb1⟩
        rw [HE.out]
        have h1 := HT.out.below hb1
        have HSG := Lib.hid (gsigned_any w1 SA es.length Sc PA ps.length Pc g.sk g.fr RA g.rej.length Rc true his)
        have hlt1 := h1.held.lt
        clear x0 x1 x2 x3 x4
        obtain ⟨x0, x1, x2, x3, x4⟩ := h1.cells
        have H1 := Lib.hid h1
        have HO1 := Lib.hid hown
        have HES := Lib.hid hes
        have HB1 := Lib.hid hb1
        clear h1 hown hes hb1
        go_wp2_with fail
        refine HSG.out.mono ?_
        rintro e w2 ⟨rfl, hb2⟩
        have h2 := H1.out.below hb2
        have hlt2 := h2.held.lt
        clear x0 x1 x2 x3 x4
        obtain ⟨x0, x1, x2, x3, x4⟩ := h2.cells
        have HO2 := Lib.hid (HO1.out.below hb2)
        have HSM := Lib.hid (ssame_any A3 c3 es3 SA Sc es w2 HO2.out.row h2.sig.row)
        rw [HES.out, h2.sigp, decide_eq_false HQ.out] at HSM
        have H2 := Lib.hid h2
        have HB2 := Lib.hid (HB1.out.trans (hb2.mono HB1.out.size))
        clear h2 hb2
        go_wp2_with fail
        refine HSM.out.mono ?_
        rintro e w3 ⟨rfl, hb3⟩
        have HB3 := Lib.hid (HB2.out.trans (hb3.mono HB2.out.size))
        clear hb3
        go_wp2_with fail
        go_ret
        rw [HFR.out]
        exact ⟨rfl, HT.out.left HB3.out⟩
    | false =>
      rw [hs] at his
      rw [if_neg (fun h => by rw [hs] at h; exact absurd h.1 (by decide))] at hfr
      have HFR := Lib.hid hfr
      clear hfr hs
      go_enter Tryz.func131, Tryz.ntmps131
      go_wp2_with fail
      refine HGT.out.mono ?_
      rintro e w1 ⟨⟨A3, c3, es3, rfl, hown, hes⟩, hb1⟩
      rw [HE.out]
      have h1 := HT.out.below hb1
      have HSG := Lib.hid (gsigned_any w1 SA es.length Sc PA ps.length Pc g.sk g.fr RA g.rej.length Rc false his)
      have hlt1 := h1.held.lt
      clear x0 x1 x2 x3 x4
      obtain ⟨x0, x1, x2, x3, x4⟩ := h1.cells
      have H1 := Lib.hid h1
      have HO1 := Lib.hid hown
      have HES := Lib.hid hes
      have HB1 := Lib.hid hb1
      clear h1 hown hes hb1
      go_wp2_with fail
      refine HSG.out.mono ?_
      rintro e w2 ⟨rfl, hb2⟩
      have h2 := H1.out.below hb2
      have hlt2 := h2.held.lt
      clear x0 x1 x2 x3 x4
      obtain ⟨x0, x1, x2, x3, x4⟩ := h2.cells
      have f0 := h2.held.frozen 0
      have HO2 := Lib.hid (HO1.out.below hb2)
      have H2 := Lib.hid h2
      have HB2 := Lib.hid (HB1.out.trans (hb2.mono HB1.out.size))
      clear h2 hb2
      go_wp2_with fail
      go_ret
      rw [HFR.out]
      exact ⟨rfl, A3, c3, es3, PA, Pc, ps, RA, Rc, H2.out.putSig HO2.out hn HES.out, (PartN.of_below HB2.out).trans (PartN.put (.inl rfl) 0 _), fun j hj => .inl hj⟩
  · have hEb : (Q.2 != 0) = true := bne_iff_ne.2 hE
    rw [if_pos hE] at hfr
    have HFR := Lib.hid hfr
    clear hfr
    go_enter Tryz.func131, Tryz.ntmps131
    go_wp2_with fail
    refine HGT.out.mono ?_
    rintro e w1 ⟨⟨A3, c3, es3, rfl, hown, hes⟩, hb1⟩
    have HB1 := Lib.hid hb1
    clear hown hes hb1
    go_wp2_with fail
    go_ret
    rw [HFR.out]
    exact ⟨rfl, HT.out.left HB1.out⟩
set_option maxRecDepth 100000 in
set_option maxHeartbeats 2000000 in
theorem tkEvents_any (h : TAt w n t g SA Sc es PA Pc ps RA Rc) (his : decide (0 < g.fr) = g.isg) (FA : Option Addr) (fc : Nat) (p : List Int) (hp : Row w w.heap.size (.slice FA p.length fc) p) (hb : ∀ x ∈ p, 0 ≤ x ∧ x < 256) (hl : p.length ≤ 1000000) (hP : ps.length ≤ 1000000000) :
    Calls Tryz.prog 132 #[.pointer (some ⟨t, 0, none⟩), .slice FA p.length fc] w (TkGot w n t PA RA (frameG g 2 p)) := by
  obtain ⟨RR, hRR⟩ : ∃ RR, frameG g 2 p = RR := ⟨_, rfl⟩
  rw [hRR]
  have hfr : RR = if g.isg = false then (g, 10) else if (getU g.sig p).2 ≠ 0 then (g, (getU g.sig p).2) else if lateG g.pts (getU g.sig p).1 = true then (g, 8) else (⟨g.sig, g.isg, g.pts ++ (getU g.sig p).1, g.sk, g.fr, g.rej⟩, 0) := by rw [← hRR]; unfold frameG; rw [if_neg (by decide), if_neg (by decide)]
  have hul := getU_len (sig := g.sig) (xs := p)
  have HGT := Lib.hid (fun W (hw : Below w.heap.size w W) => uget_any SA Sc es FA fc p hb (by omega) W ((h.below hw).sig.row) ((hp.below hw).more hw.size))
  rw [h.sigp] at HGT
  have HT := Lib.hid h
  have hlt := h.held.lt
  have hn := h.size
  obtain ⟨x0, x1, x2, x3, x4⟩ := h.cells
  generalize getU g.sig p = Q at HGT hfr hul
  clear h hp hb hl hRR
  unfold TkGot
  cases hs : g.isg with
  | false =>
    rw [hs] at his
    rw [if_pos hs] at hfr
    have HFR := Lib.hid hfr
    have HSG := Lib.hid (gsigned_any w SA es.length Sc PA ps.length Pc g.sk g.fr RA g.rej.length Rc false his)
    clear hfr hs
    go_enter Tryz.func132, Tryz.ntmps132
    go_wp2_with fail
    refine HSG.out.mono ?_
    rintro e w1 ⟨rfl, hb1⟩
    have HB1 := Lib.hid hb1
    clear hb1
    go_wp2_with fail
    go_ret
    rw [HFR.out]
    exact ⟨rfl, HT.out.left HB1.out⟩
  | true =>
    rw [hs] at his
    rw [if_neg (by rw [hs]; decide)] at hfr
    have HSG := Lib.hid (gsigned_any w SA es.length Sc PA ps.length Pc g.sk g.fr RA g.rej.length Rc true his)
    by_cases hE : Q.2 = 0
    · rw [if_neg (fun h => h hE)] at hfr
      have hl3 := hul hE
      have HE := Lib.hid hE
      clear hE hul
      obtain ⟨L, hL⟩ : ∃ L, lastT g.pts = L := ⟨_, rfl⟩
      have HL := Lib.hid hL
      have HFR := Lib.hid hfr
      clear hfr hs hL
      go_enter Tryz.func132, Tryz.ntmps132
      go_wp2_with fail
      refine HSG.out.mono ?_
      rintro e w1 ⟨rfl, hb1⟩
      have h1 := HT.out.below hb1
      have hlt1 := h1.held.lt
      clear x0 x1 x2 x3 x4
      obtain ⟨x0, x1, x2, x3, x4⟩ := h1.cells
      have H1 := Lib.hid h1
      have HG1 := Lib.hid (HGT.out w1 hb1)
      have HB1 := Lib.hid hb1
      clear h1 hb1
      go_wp2_with fail
      refine HG1.out.mono ?_
      rintro e w2 ⟨A3, c3, qs, rfl, hown, hqs, hb2⟩
      rw [HE.out]
      have hql : qs.length = Q.1.length := by rw [← hqs, List.length_map]
      obtain ⟨d, hd⟩ : ∃ d, qs[0]? = some d := ⟨_, List.getElem?_eq_getElem (by omega)⟩
      obtain ⟨b3, o3, rfl, hbl3, v3, -, hok3, -, -⟩ := hown.row.at hd
      rw [Nat.zero_mul, Nat.add_zero] at v3
      have hd0 : (Q.1.getD 0 default).tm = d.tm := by
        rw [← hqs]
        simp only [List.getD, List.getElem?_map, hd, Option.map_some, Option.getD_some]
      have hlate : lateG g.pts Q.1 = decide (d.tm < L) := by rw [late_last (by rw [hd0]; exact hok3.2.1), hd0, HL.out]
      have h2 := H1.out.below hb2
      have hlt2 := h2.held.lt
      clear x0 x1 x2 x3 x4
      obtain ⟨x0, x1, x2, x3, x4⟩ := h2.cells
      have e9 : (0 : Int) < (qs.length : Int) := by omega
      have e12 : 0 < qs.length := by omega
      have HLA := Lib.hid (fun W (hb : Below w2.heap.size w2 W) => rlast_any (h2.below hb))
      rw [HL.out] at HLA
      have HV := Lib.hid (fun W (hb : Below w2.heap.size w2 W) => show W.cell? ⟨b3, o3, none⟩ = some (.int .u64 d.tm) from (hb.cell hbl3).trans v3)
      have HO2 := Lib.hid hown
      have HQS := Lib.hid hqs
      have H2 := Lib.hid h2
      have HB2 := Lib.hid (HB1.out.trans (hb2.mono HB1.out.size))
      have hq1 := hl3.2
      have hqn : qs.length ≤ 1024 := by omega
      clear h2 hb2 hown hqs hd hok3 hd0 hql hl3
      by_cases hlt3 : d.tm < L
      · have HF2 := Lib.hid (show RR = (g, 8) by rw [HFR.out, hlate, decide_eq_true hlt3]; rfl)
        clear hlate
        go_wp2_with fail
        go_region_held3 (fun W => W.cell? ⟨b3, o3, none⟩ = some (.int .u64 d.tm))
          (first | exact HV.out _ (Below.refl _ _) | exact HV.out _ (Below.refl _ _).drew | exact HV.out _ b5)
          (first | (go_at_call 180; (with_reducible refine (HLA.out _ (Below.refl _ _).drew).mono ?_); rintro e w5 ⟨rfl, hb5⟩; have b5 : Below w2.heap.size w2 w5 := (Below.refl w2.heap.size w2).drew.trans hb5))
        go_wp2_with fail
        go_ret
        rw [HF2.out]
        exact ⟨rfl, HT.out.left (HB2.out.trans (b5.mono HB2.out.size))⟩
      · have HF2 := Lib.hid (show RR = ((⟨g.sig, g.isg, g.pts ++ Q.1, g.sk, g.fr, g.rej⟩ : Gp), (0 : Int)) by rw [HFR.out, hlate, decide_eq_false hlt3]; rfl)
        clear hlate
        obtain ⟨iP, hiP, hpz, hps, hpb⟩ := info_parts Tryz.infoPoint
        go_wp2_with fail
        go_region_held3 (fun W => W.cell? ⟨b3, o3, none⟩ = some (.int .u64 d.tm))
          (first | exact HV.out _ (Below.refl _ _) | exact HV.out _ (Below.refl _ _).drew | exact HV.out _ b5)
          (first | (go_at_call 180; (with_reducible refine (HLA.out _ (Below.refl _ _).drew).mono ?_); rintro e w5 ⟨rfl, hb5⟩; have b5 : Below w2.heap.size w2 w5 := (Below.refl w2.heap.size w2).drew.trans hb5))
        have h5 := H2.out.below b5
        have hlt5 := h5.held.lt
        clear x0 x1 x2 x3 x4
        obtain ⟨x0, x1, x2, x3, x4⟩ := h5.cells
        have HO5 := Lib.hid (HO2.out.below b5)
        have HP5 := Lib.hid h5.pts.1
        have hn5 := h5.size
        have HPT := Lib.hid (fun A7 c7 w7 => TAt.putPts (A7 := A7) (c7 := c7) (w1 := w7) h5 HO5.out (show n ≤ w1.heap.size by have := H1.out.size; omega) HQS.out (rfl : ps.length + qs.length = ps.length + qs.length))
        have HB5 := Lib.hid (HB2.out.trans (b5.mono HB2.out.size))
        clear h5 hb5 b5
        go_wp2_with (at_builtin; refine wpList_append_erow _ rfl _ _ 26 51 rfl n iP _ 2 32 Tryz.underlying26 hiP hpz hps hpb rfl (by decide) (.slice PA ps.length Pc) ps.length (flatN ps) (by rfl) HP5.out _ _ qs.length (flatN qs) (by rfl) HO5.out.row.1 (flatN_length _) (oneN _) (by unfold maxLen; omega) (by omega) hn5 (ps.length + qs.length) rfl (flatN (ps ++ qs)) (flatN_append _ _).symm ?_; intro A7 c7 w7 hown7 hg7 hat7; obtain ⟨k1, k2, k3, k4⟩ := HPT.out A7 c7 w7 hown7 hg7 hat7; have f1 := k1.frozen 1; have q1 := k1.cell 1; have hl7 := k1.lt; simp at q1; clear hown7 hg7 hat7 k1)
        go_ret
        rw [HF2.out]
        refine ⟨rfl, SA, Sc, es, A7, c7, ps ++ qs, RA, Rc, k2.out, (PartN.of_below HB5.out).trans k3.out, fun j hj => ?_⟩
        rcases k4.out j hj with k | k
        · exact .inl k
        · exact .inr (Nat.le_trans HB5.out.size k)
    · have hEb : (Q.2 != 0) = true := bne_iff_ne.2 hE
      rw [if_pos hE] at hfr
      have HFR := Lib.hid hfr
      clear hfr hul hs
      go_enter Tryz.func132, Tryz.ntmps132
      go_wp2_with fail
      refine HSG.out.mono ?_
      rintro e w1 ⟨rfl, hb1⟩
      have h1 := HT.out.below hb1
      have hlt1 := h1.held.lt
      clear x0 x1 x2 x3 x4
      obtain ⟨x0, x1, x2, x3, x4⟩ := h1.cells
      have HG1 := Lib.hid (HGT.out w1 hb1)
      have HB1 := Lib.hid hb1
      clear h1 hb1
      go_wp2_with fail
      refine HG1.out.mono ?_
      rintro e w2 ⟨A3, c3, qs, rfl, hown, hqs, hb2⟩
      have HB2 := Lib.hid (HB1.out.trans (hb2.mono HB1.out.size))
      clear hown hqs hb2
      go_wp2_with fail
      go_ret
      rw [HFR.out]
      exact ⟨rfl, HT.out.left HB2.out⟩
end
end Go.Proofs.YtimihhcidbeonaaGreat

namespace Go.Proofs.YtimihhcidbeonaaGreat
open Go.RowKit Go.ChangeShapes Go.WideShapes
set_option linter.unusedVariables false
theorem takeS_skip {g : Gp} {s : Sj} (hf : s.isf = false) : takeS g s = ⟨g.sig, g.isg, g.pts, g.sk + s.n, g.fr, g.rej⟩ := by unfold takeS; rw [if_pos hf]
theorem takeS_cnt {g : Gp} {s : Sj} (hf : s.isf = true) : takeS g s = cntG (frameG g s.kind s.pay).1 s.frm (frameG g s.kind s.pay).2 := by
  obtain ⟨c1, c2, c3⟩ := frameG_counts g s.kind s.pay
  unfold takeS cntG
  rw [if_neg (by rw [hf]; decide)]
  by_cases he : (frameG g s.kind s.pay).2 ≠ 0
  · rw [if_pos he, if_pos he, frameG_kept he]
  · rw [if_neg he, if_neg he, c1, c2, c3]
theorem frameG_other {g : Gp} {k : Int} {p : List Int} (h1 : k ≠ 1) (h2 : k ≠ 2) : frameG g k p = (g, 4) := by unfold frameG; rw [if_neg h1, if_pos h2]
theorem TkR.part {S : Nat → Prop} {w w' : World} {n t : Nat} {g : Gp} (h : TkR S w n t g w') : PartN S w w' := by
  obtain ⟨SA, Sc, es, PA, Pc, ps, RA, Rc, h1, h2, h3⟩ := h
  exact h2
theorem refuse_got {w : World} {n t : Nat} {g : Gp} {SA : Option Addr} {Sc : Nat} {es : List Pd} {PA : Option Addr} {Pc : Nat} {ps : List Pm} {RA : Option Addr} {Rc : Nat} (h : TAt w n t g SA Sc es PA Pc ps RA Rc) {k : Int} {p : List Int} (h1 : k ≠ 1) (h2 : k ≠ 2) (v : Value) :
    Calls Tryz.prog 81 #[v] w (TkGot w n t PA RA (frameG g k p)) := by
  rw [frameG_other h1 h2]
  refine (refuse_any w v).mono ?_
  rintro e w' ⟨rfl, rfl⟩
  exact ⟨rfl, h.left (Below.refl _ _)⟩
/-- What holds at the loop's head. -/
def TkLoop (S : Nat → Prop) (w : World) (n t m : Nat) (g : Gp) (l : List Sj) (gk : Nat) (iv : Value) (wr : World) : Prop :=
  ∃ k : Nat, iv = .int .i64 k ∧ k ≤ m ∧ Hid (m - k = gk) ∧ Hid (TkR S w n t (takeL g (l.take k)) wr)
theorem TkLoop.next {S S2 : Nat → Prop} {w wr w6 : World} {n t m k : Nat} {g g6 : Gp} {l : List Sj} (hp : PartN S w wr) (hs : ∀ j, S2 j → S j ∨ w.heap.size ≤ j) (h : TkR S2 wr n t g6 w6) (hg : takeL g (l.take (k + 1)) = g6) (hk : k < m) (h64 : m ≤ 1000000) :
    TkLoop S w n t m g l (m - (k + 1)) (.int .i64 ((k : Int) + 1)) w6 :=
  ⟨k + 1, by go_num, hk, Lib.hid rfl, Lib.hid (by rw [hg]; exact TkR.then hp hs h)⟩
section
variable {w : World} {n t : Nat} {g : Gp} {SA : Option Addr} {Sc : Nat} {es : List Pd} {PA : Option Addr} {Pc : Nat} {ps : List Pm} {RA : Option Addr} {Rc : Nat}
set_option maxRecDepth 100000 in
set_option maxHeartbeats 4000000 in
theorem rtake_any (h : TAt w n t g SA Sc es PA Pc ps RA Rc) (hig : Ig g) (hbd : Bd 0 g) (TA : Option Addr) (Tc : Nat) (ls : List Jm) (hJ : ∀ W', PartN (TS t PA RA) w W' → JRow W' W'.heap.size (.slice TA ls.length Tc) ls) (hls : ls.length ≤ 100000) :
    Calls Tryz.prog 36 #[.pointer (some ⟨t, 0, none⟩), .slice TA ls.length Tc] w fun e w' => e = .returned (.tuple #[]) ∧ TLeft w n t PA RA (takeL g (ls.map (·.s))) w' := by
  have hrow := hJ w (PartN.refl _ _)
  obtain ⟨-, hc1, hc2⟩ := hrow.1.len
  have HBD := Lib.hid (hbd.take (l := ls.map (·.s)) (fun s hs => by obtain ⟨x, hx, rfl⟩ := List.mem_map.1 hs; exact (hrow.2 x hx).2.2.2))
  have HIG := Lib.hid (fun k => hig.take (l := (ls.map (·.s)).take k) (fun s hs => by obtain ⟨x, hx, rfl⟩ := List.mem_map.1 (List.mem_of_mem_take hs); exact (hrow.2 x hx).2.1))
  have HK := Lib.hid (kinds_any w t)
  have HT := Lib.hid h
  have HJ := Lib.hid hJ
  obtain ⟨m, hm⟩ : ∃ m, ls.length = m := ⟨_, rfl⟩
  rw [hm] at hc1 hls HJ ⊢
  have HLN := Lib.hid hm
  have HNM := Lib.hid (show (ls.map (·.s)).length = m by rw [List.length_map, hm])
  obtain ⟨l, hl⟩ : ∃ l, ls.map (·.s) = l := ⟨_, rfl⟩
  rw [hl] at HBD HNM HIG ⊢
  have HL := Lib.hid hl
  clear h hig hbd hJ hrow hm hl
  go_enter Tryz.func36, Tryz.ntmps36
  go_wp2_with fail
  refine HK.out.mono ?_
  rintro e w1 ⟨rfl, hk1, hb1⟩
  have HKM := Lib.hid hk1
  have HB1 := Lib.hid hb1
  have hz1 := hb1.size
  have hkl := hk1.lt
  obtain ⟨r, hr⟩ : ∃ r, w.heap.size = r := ⟨_, rfl⟩
  rw [hr] at HKM hkl ⊢
  have HR := Lib.hid hr
  have hts := fun j => HT.out.lt (j := j)
  have HTS := Lib.hid hts
  clear hk1 hb1 hr hts
  go_wp2_with fail
  go_loopg [13] m (fun gk iv wr => TkLoop (TS t PA RA) w1 n t m g l gk iv wr)
  case atStart => exact ⟨0, rfl, Nat.zero_le _, Lib.hid rfl, Lib.hid ⟨SA, Sc, es, PA, Pc, ps, RA, Rc, HT.out.below HB1.out, PartN.refl _ _, fun j hj => .inl hj⟩⟩
  case round =>
    obtain ⟨k, rfl, hk, HGK, HTR⟩ := hrel
    obtain ⟨SA1, Sc1, es1, PA1, Pc1, ps1, RA1, Rc1, ht, hp, hq⟩ := HTR.out
    by_cases hlt : k < m
    · obtain ⟨x, hx⟩ : ∃ x, ls[k]? = some x := ⟨_, List.getElem?_eq_getElem (by rw [HLN.out]; exact hlt)⟩
      obtain ⟨gq, hgq⟩ : ∃ gq, takeL g (l.take k) = gq := ⟨_, rfl⟩
      have hbd := HBD.out k (by rw [HNM.out]; exact hk)
      have hig := HIG.out k
      have hsu : takeL g (l.take (k + 1)) = takeS gq x.s := by rw [← hgq]; exact takeL_succ (by rw [← HL.out, List.getElem?_map, hx]; rfl)
      rw [hgq] at ht hbd hig
      have hp0 : PartN (TS t PA RA) w wr := (PartN.of_below HB1.out).trans hp
      have hj := HJ.out wr hp0
      have hxr := (hj.2 x (List.mem_of_getElem? hx))
      obtain ⟨b, o, rfl, hbl, v0, v1, v2, v3, v4⟩ := hj.at hx
      obtain ⟨y0, y1, y2, y3, y4⟩ := ht.cells
      have hlt1 := ht.held.lt
      have hpz := hp.size
      have HSU := Lib.hid hsu
      have HXR := Lib.hid hxr
      have HT1 := Lib.hid ht
      have HP := Lib.hid hp
      have HQ := Lib.hid hq
      have HIQ := Lib.hid hig.isg
      have HKW : Hid (KMap wr r t) := Lib.hid (HKM.out.same (hp.block r hkl (fun e => by have := (HTS.out r e).2; have := HR.out; omega)))
      clear hsu hgq hx hxr hj hp0 ht hp hq hig HTR
      cases hf : x.s.isf with
      | false =>
        rw [hf] at v2
        have hwr : IntKind.i64.wrap (gq.sk + x.s.n) = gq.sk + x.s.n := by
          have h1 := hbd.sk
          have h2 := HXR.out.2.2.2
          exact IntWalk.i64_in _ (by omega)
        have HF := Lib.hid hf
        obtain ⟨u, hu⟩ : ∃ u, wr.alloc (.cells #[.int .i64 x.s.frm, .int .i64 x.s.n, .bool false, .int .i64 x.s.kind, .slice x.A x.s.pay.length x.c] 80) = u := ⟨_, rfl⟩
        have bu : Below wr.heap.size wr u := by rw [← hu]; exact (Below.refl _ _).alloc (Nat.le_refl _) _
        have hh : Held u wr.heap.size 80 #[.int .i64 x.s.frm, .int .i64 x.s.n, .bool false, .int .i64 x.s.kind, .slice x.A x.s.pay.length x.c] := by rw [← hu]; exact heap_alloc_new wr _
        have q1 := hh.cell 1
        have q2 := hh.cell 2
        simp at q1 q2
        have htu := HT1.out.below bu
        obtain ⟨u0, u1, u2, u3, u4⟩ := htu.cells
        have f2 := htu.held.frozen 2
        have hltu := htu.held.lt
        have HTU := Lib.hid htu
        have HBU := Lib.hid bu
        clear hf hbd hh htu bu
        go_wp2_with fail
        go_region
        all_goals (
        go_wp2_with fail
        go_roundg (m - (k + 1))
        case measure => have := HGK.out; omega
        case rel => exact TkLoop.next HP.out HQ.out ⟨SA1, Sc1, es1, PA1, Pc1, ps1, RA1, Rc1, (HTU.out.putSk (gq.sk + x.s.n)).below (Below.refl _ _).drew, ((PartN.of_below HBU.out).trans (PartN.put (.inl rfl) 2 _)).tail (Below.refl _ _).drew, fun j hj => .inl hj⟩ (HSU.out.trans (takeS_skip HF.out)) hlt (by omega))
      | true =>
        rw [hf] at v2
        have HF := Lib.hid hf
        have hpl := HT1.out.ptsp
        have hpb : ps1.length ≤ 1000000000 := by
          have h1 := hbd.pts
          rw [← hpl, List.length_map] at h1
          omega
        have HBQ := Lib.hid (show (gq.rej.length ≤ 1000000000 ∧ -4611686018427387904 ≤ gq.fr ∧ gq.fr ≤ 4611686018427387904) from by
          have h1 := hbd.rej
          have h2 := hbd.fr
          exact ⟨by omega, by omega, by omega⟩)
        clear hf hbd hpl
        by_cases k1 : x.s.kind = 1
        · rw [k1] at v3
          have HK1 := Lib.hid k1
          clear k1
          obtain ⟨u, hu⟩ : ∃ u, wr.alloc (.cells #[.int .i64 x.s.frm, .int .i64 x.s.n, .bool true, .int .i64 1, .slice x.A x.s.pay.length x.c] 80) = u := ⟨_, rfl⟩
          have bu : Below wr.heap.size wr u := by rw [← hu]; exact (Below.refl _ _).alloc (Nat.le_refl _) _
          have su : u.heap.size = wr.heap.size + 1 := by rw [← hu, World.size_alloc]
          have hh : Held u wr.heap.size 80 #[.int .i64 x.s.frm, .int .i64 x.s.n, .bool true, .int .i64 1, .slice x.A x.s.pay.length x.c] := by rw [← hu]; exact heap_alloc_new wr _
          have q0 := hh.cell 0
          have q2 := hh.cell 2
          have q3 := hh.cell 3
          have q4 := hh.cell 4
          simp at q0 q2 q3 q4
          have HKU := HKW.out.below bu (by have := HKW.out.lt; exact this)
          have hlk := kinds_one HKU
          have HV := Lib.hid (fun W (hW : PartN (TS t PA1 RA1) u W) => show W.cell? ⟨wr.heap.size, 0, none⟩ = some (.int .i64 x.s.frm) ∧ W.cell? ⟨wr.heap.size, 4, none⟩ = some (.slice x.A x.s.pay.length x.c) from by
            have hb := hW.block wr.heap.size (by omega) (fun e => by have := (HT1.out.lt e).2; omega)
            have hh2 : Held W wr.heap.size 80 #[.int .i64 x.s.frm, .int .i64 x.s.n, .bool true, .int .i64 1, .slice x.A x.s.pay.length x.c] := hb.trans hh
            exact ⟨hh2.cell 0, hh2.cell 4⟩)
          have HTU := Lib.hid (HT1.out.below bu)
          have HCL := Lib.hid (fun W (hW : Below u.heap.size u W) => tkSchema_any (HTU.out.below hW) HIQ.out x.A x.c x.s.pay ((HXR.out.1.below (bu.trans (hW.mono bu.size))).more (Nat.le_trans bu.size hW.size)) HXR.out.2.1 HXR.out.2.2.1)
          have HGE := Lib.hid (show takeL g (l.take (k + 1)) = cntG (frameG gq 1 x.s.pay).1 x.s.frm (frameG gq 1 x.s.pay).2 from by rw [HSU.out, takeS_cnt HF.out, HK1.out])
          have HCN := Lib.hid (frameG_counts gq 1 x.s.pay)
          obtain ⟨G, hG⟩ : ∃ G, frameG gq 1 x.s.pay = G := ⟨_, rfl⟩
          rw [hG] at HCL HGE HCN
          have HBU := Lib.hid bu
          clear hG hh bu HKU
          go_wp2_with fail
          go_region_held3 (fun W => W.cell? ⟨wr.heap.size, 0, none⟩ = some (.int .i64 x.s.frm) ∧ W.cell? ⟨wr.heap.size, 4, none⟩ = some (.slice x.A x.s.pay.length x.c))
            (first | exact HV.out _ (PartN.refl _ _) | exact HV.out _ (PartN.of_below (Below.refl _ _).drew) | exact HV.out _ p6 | exact HV.out _ p5)
            (first
              | (go_at_call 131; (with_reducible refine (HCL.out _ (Below.refl _ _).drew).mono ?_); rintro e w5 ⟨rfl, SA5, Sc5, es5, PA5, Pc5, ps5, RA5, Rc5, h5, hp5, hs5⟩; have p5 : PartN (TS t PA1 RA1) u w5 := (PartN.of_below (Below.refl _ _).drew).trans hp5; have HC5 := Lib.hid (rcount_any18 h5 x.s.frm G.2 (by rw [HCN.out.2.2]; exact HBQ.out.1) (by rw [HCN.out.2.1]; exact HBQ.out.2)))
              | (go_at_call 82; (with_reducible refine HC5.out.mono ?_); rintro e w6 ⟨rfl, h6⟩; have p6 : PartN (TS t PA1 RA1) u w6 := p5.then (TkR.part h6) hs5))
          go_wp2_with fail
          go_roundg (m - (k + 1))
          case measure => have := HGK.out; omega
          case rel => exact TkLoop.next HP.out HQ.out (TkR.then ((PartN.of_below HBU.out).trans p5) (fun j hj => (hs5 j hj).imp id (fun e => Nat.le_trans HBU.out.size e)) h6) HGE.out hlt (by omega)
        · by_cases k2 : x.s.kind = 2
          · rw [k2] at v3
            have HK1 := Lib.hid k2
            clear k1 k2
            obtain ⟨u, hu⟩ : ∃ u, wr.alloc (.cells #[.int .i64 x.s.frm, .int .i64 x.s.n, .bool true, .int .i64 2, .slice x.A x.s.pay.length x.c] 80) = u := ⟨_, rfl⟩
            have bu : Below wr.heap.size wr u := by rw [← hu]; exact (Below.refl _ _).alloc (Nat.le_refl _) _
            have su : u.heap.size = wr.heap.size + 1 := by rw [← hu, World.size_alloc]
            have hh : Held u wr.heap.size 80 #[.int .i64 x.s.frm, .int .i64 x.s.n, .bool true, .int .i64 2, .slice x.A x.s.pay.length x.c] := by rw [← hu]; exact heap_alloc_new wr _
            have q0 := hh.cell 0
            have q2 := hh.cell 2
            have q3 := hh.cell 3
            have q4 := hh.cell 4
            simp at q0 q2 q3 q4
            have HKU := HKW.out.below bu (by have := HKW.out.lt; exact this)
            have hlk := kinds_two HKU
            have HV := Lib.hid (fun W (hW : PartN (TS t PA1 RA1) u W) => show W.cell? ⟨wr.heap.size, 0, none⟩ = some (.int .i64 x.s.frm) ∧ W.cell? ⟨wr.heap.size, 4, none⟩ = some (.slice x.A x.s.pay.length x.c) from by
              have hb := hW.block wr.heap.size (by omega) (fun e => by have := (HT1.out.lt e).2; omega)
              have hh2 : Held W wr.heap.size 80 #[.int .i64 x.s.frm, .int .i64 x.s.n, .bool true, .int .i64 2, .slice x.A x.s.pay.length x.c] := hb.trans hh
              exact ⟨hh2.cell 0, hh2.cell 4⟩)
            have HTU := Lib.hid (HT1.out.below bu)
            have HCL := Lib.hid (fun W (hW : Below u.heap.size u W) => tkEvents_any (HTU.out.below hW) HIQ.out x.A x.c x.s.pay ((HXR.out.1.below (bu.trans (hW.mono bu.size))).more (Nat.le_trans bu.size hW.size)) HXR.out.2.1 HXR.out.2.2.1 hpb)
            have HGE := Lib.hid (show takeL g (l.take (k + 1)) = cntG (frameG gq 2 x.s.pay).1 x.s.frm (frameG gq 2 x.s.pay).2 from by rw [HSU.out, takeS_cnt HF.out, HK1.out])
            have HCN := Lib.hid (frameG_counts gq 2 x.s.pay)
            obtain ⟨G, hG⟩ : ∃ G, frameG gq 2 x.s.pay = G := ⟨_, rfl⟩
            rw [hG] at HCL HGE HCN
            have HBU := Lib.hid bu
            clear hG hh bu HKU
            go_wp2_with fail
            go_region_held3 (fun W => W.cell? ⟨wr.heap.size, 0, none⟩ = some (.int .i64 x.s.frm) ∧ W.cell? ⟨wr.heap.size, 4, none⟩ = some (.slice x.A x.s.pay.length x.c))
              (first | exact HV.out _ (PartN.refl _ _) | exact HV.out _ (PartN.of_below (Below.refl _ _).drew) | exact HV.out _ p6 | exact HV.out _ p5)
              (first
                | (go_at_call 132; (with_reducible refine (HCL.out _ (Below.refl _ _).drew).mono ?_); rintro e w5 ⟨rfl, SA5, Sc5, es5, PA5, Pc5, ps5, RA5, Rc5, h5, hp5, hs5⟩; have p5 : PartN (TS t PA1 RA1) u w5 := (PartN.of_below (Below.refl _ _).drew).trans hp5; have HC5 := Lib.hid (rcount_any18 h5 x.s.frm G.2 (by rw [HCN.out.2.2]; exact HBQ.out.1) (by rw [HCN.out.2.1]; exact HBQ.out.2)))
                | (go_at_call 82; (with_reducible refine HC5.out.mono ?_); rintro e w6 ⟨rfl, h6⟩; have p6 : PartN (TS t PA1 RA1) u w6 := p5.then (TkR.part h6) hs5))
            go_wp2_with fail
            go_roundg (m - (k + 1))
            case measure => have := HGK.out; omega
            case rel => exact TkLoop.next HP.out HQ.out (TkR.then ((PartN.of_below HBU.out).trans p5) (fun j hj => (hs5 j hj).imp id (fun e => Nat.le_trans HBU.out.size e)) h6) HGE.out hlt (by omega)
          · obtain ⟨K, hK⟩ : ∃ K, x.s.kind = K := ⟨_, rfl⟩
            rw [hK] at v3 k1 k2
            have HK1 := Lib.hid hK
            clear hK
            obtain ⟨u, hu⟩ : ∃ u, wr.alloc (.cells #[.int .i64 x.s.frm, .int .i64 x.s.n, .bool true, .int .i64 K, .slice x.A x.s.pay.length x.c] 80) = u := ⟨_, rfl⟩
            have bu : Below wr.heap.size wr u := by rw [← hu]; exact (Below.refl _ _).alloc (Nat.le_refl _) _
            have su : u.heap.size = wr.heap.size + 1 := by rw [← hu, World.size_alloc]
            have hh : Held u wr.heap.size 80 #[.int .i64 x.s.frm, .int .i64 x.s.n, .bool true, .int .i64 K, .slice x.A x.s.pay.length x.c] := by rw [← hu]; exact heap_alloc_new wr _
            have q0 := hh.cell 0
            have q2 := hh.cell 2
            have q3 := hh.cell 3
            have q4 := hh.cell 4
            simp at q0 q2 q3 q4
            have HKU := HKW.out.below bu (by have := HKW.out.lt; exact this)
            have hlk := kinds_none HKU k1 k2
            have HV := Lib.hid (fun W (hW : PartN (TS t PA1 RA1) u W) => show W.cell? ⟨wr.heap.size, 0, none⟩ = some (.int .i64 x.s.frm) ∧ W.cell? ⟨wr.heap.size, 4, none⟩ = some (.slice x.A x.s.pay.length x.c) from by
              have hb := hW.block wr.heap.size (by omega) (fun e => by have := (HT1.out.lt e).2; omega)
              have hh2 : Held W wr.heap.size 80 #[.int .i64 x.s.frm, .int .i64 x.s.n, .bool true, .int .i64 K, .slice x.A x.s.pay.length x.c] := hb.trans hh
              exact ⟨hh2.cell 0, hh2.cell 4⟩)
            have HTU := Lib.hid (HT1.out.below bu)
            have HCL := Lib.hid (fun W (hW : Below u.heap.size u W) => refuse_got (HTU.out.below hW) k1 k2 (.slice x.A x.s.pay.length x.c) (p := x.s.pay))
            have HGE := Lib.hid (show takeL g (l.take (k + 1)) = cntG (frameG gq K x.s.pay).1 x.s.frm (frameG gq K x.s.pay).2 from by rw [HSU.out, takeS_cnt HF.out, HK1.out])
            have HCN := Lib.hid (frameG_counts gq K x.s.pay)
            obtain ⟨G, hG⟩ : ∃ G, frameG gq K x.s.pay = G := ⟨_, rfl⟩
            rw [hG] at HCL HGE HCN
            have HBU := Lib.hid bu
            clear hG hh bu HKU
            go_wp2_with fail
            go_region_held3 (fun W => W.cell? ⟨wr.heap.size, 0, none⟩ = some (.int .i64 x.s.frm) ∧ W.cell? ⟨wr.heap.size, 4, none⟩ = some (.slice x.A x.s.pay.length x.c))
              (first | exact HV.out _ (PartN.refl _ _) | exact HV.out _ (PartN.of_below (Below.refl _ _).drew) | exact HV.out _ p6 | exact HV.out _ p5)
              (first
                | (go_at_call 81; (with_reducible refine (HCL.out _ (Below.refl _ _).drew).mono ?_); rintro e w5 ⟨rfl, SA5, Sc5, es5, PA5, Pc5, ps5, RA5, Rc5, h5, hp5, hs5⟩; have p5 : PartN (TS t PA1 RA1) u w5 := (PartN.of_below (Below.refl _ _).drew).trans hp5; have HC5 := Lib.hid (rcount_any18 h5 x.s.frm G.2 (by rw [HCN.out.2.2]; exact HBQ.out.1) (by rw [HCN.out.2.1]; exact HBQ.out.2)))
                | (go_at_call 82; (with_reducible refine HC5.out.mono ?_); rintro e w6 ⟨rfl, h6⟩; have p6 : PartN (TS t PA1 RA1) u w6 := p5.then (TkR.part h6) hs5))
            go_wp2_with fail
            go_roundg (m - (k + 1))
            case measure => have := HGK.out; omega
            case rel => exact TkLoop.next HP.out HQ.out (TkR.then ((PartN.of_below HBU.out).trans p5) (fun j hj => (hs5 j hj).imp id (fun e => Nat.le_trans HBU.out.size e)) h6) HGE.out hlt (by omega)
    · obtain rfl : m = k := by omega
      have hnk : takeL g (l.take m) = takeL g l := by rw [List.take_of_length_le (by rw [HNM.out]; exact Nat.le_refl _)]
      rw [hnk] at HTR
      go_wp2_with fail
      go_end0
      exact ⟨rfl, TkR.then (PartN.of_below HB1.out) (fun j hj => .inl hj) HTR.out⟩
end
end Go.Proofs.YtimihhcidbeonaaGreat

namespace Go.Proofs.YtimihhcidbeonaaGreat
open Go.RowKit Go.ChangeShapes Go.WideShapes
set_option linter.unusedVariables false
theorem held_put5 {w : World} {B : Nat} {t : TypeId} {a b c d e : Value} (h : Held w B t #[a, b, c, d, e]) (a' b' c' d' e' : Value) :
    Held (((((w.setCell ⟨B, 0, none⟩ a').setCell ⟨B, 1, none⟩ b').setCell ⟨B, 2, none⟩ c').setCell ⟨B, 3, none⟩ d').setCell ⟨B, 4, none⟩ e') B t #[a', b', c', d', e'] := by
  simpa using ((((h.put 0 a').put 1 b').put 2 c').put 3 d').put 4 e'
theorem grown_put5 (w : World) (B : Nat) (a' b' c' d' e' : Value) :
    w.grownBy (((((w.setCell ⟨B, 0, none⟩ a').setCell ⟨B, 1, none⟩ b').setCell ⟨B, 2, none⟩ c').setCell ⟨B, 3, none⟩ d').setCell ⟨B, 4, none⟩ e') (some B) :=
  grown_trans (grown_trans (grown_trans (grown_trans (grown_put _ _ _ _) (grown_put _ _ _ _)) (grown_put _ _ _ _)) (grown_put _ _ _ _)) (grown_put _ _ _ _)
/-- What was read, from block m on. -/
structure GOwn (w : World) (m : Nat) (g : Gp) (SA : Option Addr) (Sc : Nat) (es : List Pd) (PA : Option Addr) (Pc : Nat) (ps : List Pm) (RA : Option Addr) (Rc : Nat) : Prop where
  sig : OwnP w m (.slice SA es.length Sc) es
  sigp : es.map (·.p) = g.sig
  pts : OwnT w m (.slice PA ps.length Pc) ps
  ptsp : ps.map (·.p) = g.pts
  rej : w.ownsRow m 73 2 (.slice RA g.rej.length Rc) g.rej.length (flatJ g.rej)
section
variable {w w' : World} {m k : Nat} {g : Gp} {SA : Option Addr} {Sc : Nat} {es : List Pd} {PA : Option Addr} {Pc : Nat} {ps : List Pm} {RA : Option Addr} {Rc : Nat}
theorem GOwn.below (h : GOwn w m g SA Sc es PA Pc ps RA Rc) (hb : Below w.heap.size w w') : GOwn w' m g SA Sc es PA Pc ps RA Rc := ⟨h.sig.below hb, h.sigp, h.pts.below hb, h.ptsp, own_below h.rej hb⟩
theorem GOwn.base (h : GOwn w m g SA Sc es PA Pc ps RA Rc) (hk : k ≤ m) : GOwn w k g SA Sc es PA Pc ps RA Rc := ⟨h.sig.base hk, h.sigp, h.pts.base hk, h.ptsp, own_base h.rej hk⟩
theorem GOwn.kept {r : Nat} (h : GOwn w m g SA Sc es PA Pc ps RA Rc) (hg : w.grownBy w' (some r)) (hr : r < m) : GOwn w' m g SA Sc es PA Pc ps RA Rc := by
  have hne : ∀ {e : TypeId} {sz k : Nat} {v : Value} {us : List Value}, w.ownsRow m e sz v k us → w'.ownsRow m e sz v k us := fun h => h.kept hg (.inr (fun e => by have := (World.ownsRow.lt h r e).1; omega))
  exact ⟨⟨hne h.sig.1, fun d hd => ⟨hne (h.sig.2 d hd).1, (h.sig.2 d hd).2⟩⟩, h.sigp, ⟨hne h.pts.1, fun d hd => ⟨⟨hne (h.pts.2 d hd).1.1, fun x hx => ⟨hne ((h.pts.2 d hd).1.2 x hx).1, ((h.pts.2 d hd).1.2 x hx).2⟩⟩, (h.pts.2 d hd).2⟩⟩, h.ptsp, hne h.rej⟩
theorem GOwn.row (h : GOwn w m g SA Sc es PA Pc ps RA Rc) : GAt w w.heap.size g SA Sc es PA Pc ps RA Rc := ⟨h.sig.row, h.sigp, h.pts.row, h.ptsp, ERow.of_own h.rej⟩
end
theorem trfit_of {sig : List Pr} {l : List Pm} (h : (checkT sig (l.map (·.p))).1 = 0) (hl : l.length ≤ 1000000000) : TrFit l := by
  obtain ⟨hs, hw⟩ := checkT_zero.1 h
  have he := checkT_events h
  refine ⟨by omega, fun d hd => ⟨?_, fun x hx => ?_⟩⟩
  · obtain ⟨i, hi⟩ := List.mem_iff_getElem?.1 hd
    have hil := (List.getElem?_eq_some_iff.1 hi).1
    have := hw i (by rw [List.length_map]; exact hil)
    unfold whyT at this
    rw [getD_of (at_pn hi)] at this
    split at this
    · cases this
    · unfold whyE at this
      split at this
      · cases this
      · rename_i h1
        rw [List.length_map] at h1
        omega
  · have h1 := he d hd x hx
    by_cases hn : x.e.p < 0 ∨ (sig.length : Int) ≤ x.e.p
    · rw [eventT_name hn] at h1
      cases h1
    · obtain ⟨k, hk⟩ : ∃ k : Nat, x.e.p = (k : Int) := ⟨x.e.p.toNat, by omega⟩
      obtain ⟨p, hp⟩ : ∃ p, sig[k]? = some p := ⟨_, List.getElem?_eq_getElem (by omega)⟩
      rw [eventT_has hk hp] at h1
      split at h1
      · cases h1
      · rename_i h2
        have h3 := (sig_args hs p (List.mem_of_getElem? hp)).1
        have h4 : x.e.args.length = x.args.length := rfl
        omega
set_option maxRecDepth 100000 in
theorem rnew_any (w : World) :
    Calls Tryz.prog 35 #[] w fun e w' => e = .returned (.pointer (some ⟨w.heap.size, 0, none⟩)) ∧ TAt w' w.heap.size w.heap.size noG none 0 [] none 0 [] none 0 ∧ Below w.heap.size w w' := by
  obtain ⟨u, hu⟩ : ∃ u, w.alloc (.cells #[.slice none 0 0, .slice none 0 0, .int .i64 0, .int .i64 0, .slice none 0 0] 148) = u := ⟨_, rfl⟩
  have HB := Lib.hid (show Below w.heap.size w u from by rw [← hu]; exact (Below.refl _ _).alloc (Nat.le_refl _) _)
  have HH := Lib.hid (show Held u w.heap.size 148 #[.slice none 0 0, .slice none 0 0, .int .i64 0, .int .i64 0, .slice none 0 0] from by rw [← hu]; exact heap_alloc_new w _)
  go_enter Tryz.func35, Tryz.ntmps35
  go_wp2_with fail
  go_ret
  exact ⟨rfl, ⟨HH.out, Nat.le_refl _, OwnP.nil _ _, rfl, OwnT.nil _ _, rfl, World.ownsRow_nil _ _ _ _⟩, HB.out⟩
set_option maxRecDepth 100000 in
set_option maxHeartbeats 1000000 in
theorem jclone_any (w : World) (C : Option Addr) (cc : Nat) (bs : List (Int × Int)) (hrow : ERow w w.heap.size (.slice C bs.length cc) bs.length (flatJ bs)) (hl : bs.length ≤ 1000000000) :
    Calls Tryz.prog 83 #[.slice C bs.length cc] w fun e w' => ∃ C2 c2, e = .returned (.slice C2 bs.length c2) ∧ w'.ownsRow w.heap.size 73 2 (.slice C2 bs.length c2) bs.length (flatJ bs) ∧ Below w.heap.size w w' := by
  obtain ⟨i1, hi1, hy0, hy1, hy2⟩ := info_parts Tryz.infoReject
  obtain ⟨-, l1, l2⟩ := hrow.len
  have h1 := oneJ bs
  have hlen := flatJ_length bs
  rcases C with _ | ad
  · have h0 : bs.length = 0 := by
      obtain ⟨A', c', hv, q1, q2, q3, q4⟩ := hrow
      injection hv with e1 e2 e3
      subst e1 e3
      have := q3 rfl
      omega
    obtain rfl : cc = 0 := by
      obtain ⟨A', c', hv, q1, q2, q3, q4⟩ := hrow
      injection hv with e1 e2 e3
      subst e1 e3
      exact q3 rfl
    rw [List.length_eq_zero_iff.1 h0]
    clear hrow
    have hnl := Lib.run_eql_slice_nil (P := Tryz.prog) w 62 73 none 0 0 0 0 Tryz.underlying62
    go_enter Tryz.func83, Tryz.ntmps83
    go_wp2_with fail
    go_ret
    exact ⟨none, 0, rfl, World.ownsRow_nil _ _ _ _, Below.refl _ _⟩
  · have ba := (Below.refl w.heap.size w).alloc (Nat.le_refl _) (.cells #[] 73)
    have hno := own_none (w := w) (base := w.heap.size) (e := 73) (size := 2) (Nat.le_refl _)
    have HR2 := Lib.hid (hrow.below ba)
    have HNO := Lib.hid hno
    have HB := Lib.hid ba
    clear hrow hno ba
    generalize bs.length = k at *
    have hnl := Lib.run_eql_slice_nil (P := Tryz.prog) w 62 73 (some ad) k cc 0 0 Tryz.underlying62
    go_enter Tryz.func83, Tryz.ntmps83
    go_wp2_with (at_builtin; refine wpList_append_erow _ rfl _ _ 62 73 rfl w.heap.size i1 (.agg #[.int .i64 0, .int .i64 0]) 2 16 Tryz.underlying62 hi1 hy0 hy1 hy2 rfl (by decide) (.slice (some ⟨w.heap.size, 0, none⟩) 0 0) 0 [] (by rfl) HNO.out _ _ k (flatJ bs) (by rfl) HR2.out (by omega) h1 (by unfold maxLen; omega) (by omega) (by rw [World.size_alloc]; omega) k (by omega) (flatJ bs) (by simp) ?_; intro A6 c6 w6 hown6 hg6 hat6; have HO6 := Lib.hid hown6; have HG6 := Lib.hid hg6; clear hown6 hg6 hat6)
    go_ret
    have hlow : ∀ j, (Value.slice (some (⟨w.heap.size, 0, none⟩ : Addr)) 0 0).ownBlock = some j → w.heap.size ≤ j := fun j e => Nat.le_of_eq (by simpa [Value.ownBlock] using e)
    exact ⟨A6, c6, rfl, HO6.out, HB.out.grown HG6.out (by rw [World.size_alloc]; omega) hlow⟩
section
variable {w : World} {R : Nat} {a b c d e : Value} {T : Array Value}
theorem res_got (h : T[2]?.getD undef = .pointer (some ⟨R, 0, none⟩)) (hz : Held w R 64 #[a, b, c, d, e]) :
    (results Tryz.f37 T).run Tryz.prog w = .ok (.agg #[a, b, c, d, e]) w := by
  have z0 := hz.cell 0
  have z1 := hz.cell 1
  have z2 := hz.cell 2
  have z3 := hz.cell 3
  have z4 := hz.cell 4
  simp at z0 z1 z2 z3 z4
  simp [results, Tryz.results37, go_sem, h, z0, z1, z2, z3, z4]
end
section
variable {w : World} {n t : Nat} {g : Gp} {SA : Option Addr} {Sc : Nat} {es : List Pd} {PA : Option Addr} {Pc : Nat} {ps : List Pm} {RA : Option Addr} {Rc : Nat}
/-- What Got answers. -/
def GtGot (w : World) (g : Gp) (e : Ending) (w' : World) : Prop := ∃ SA Sc es PA Pc ps RA Rc, e = .returned (GW g SA Sc es PA Pc ps RA Rc) ∧ GOwn w' w.heap.size g SA Sc es PA Pc ps RA Rc ∧ Below w.heap.size w w'
set_option maxRecDepth 100000 in
set_option maxHeartbeats 2000000 in
theorem rgot_any (h : TAt w n t g SA Sc es PA Pc ps RA Rc) (htr : (checkT g.sig g.pts).1 = 0) (hP : ps.length ≤ 1000000000) (hR : g.rej.length ≤ 1000000000) :
    Calls Tryz.prog 37 #[.pointer (some ⟨t, 0, none⟩)] w (GtGot w g) := by
  have hsg := checkT_p htr
  have hsl : es.length ≤ 1000000000 := by
    have := (checkP_zero.1 hsg).1
    rw [← h.sigp, List.length_map] at this
    omega
  have hsa : ∀ d ∈ es, d.p.args.length ≤ 1000000000 := fun d hd => by
    have := (sig_args hsg d.p (by rw [← h.sigp]; exact List.mem_map_of_mem hd)).1
    omega
  have hfit : TrFit ps := trfit_of (sig := g.sig) (by rw [h.ptsp]; exact htr) hP
  have HCS := Lib.hid (fun W (hW : Below w.heap.size w W) => sclone_own SA Sc es W (h.below hW).sig.row hsl hsa)
  have HCT := Lib.hid (fun W (hW : Below w.heap.size w W) => tclone_any PA Pc ps W (h.below hW).pts.row hfit)
  have HCJ := Lib.hid (fun W (hW : Below w.heap.size w W) => jclone_any W RA Rc g.rej (ERow.of_own (h.below hW).rej) hR)
  rw [h.sigp] at HCS
  rw [h.ptsp] at HCT
  obtain ⟨N, hN⟩ : ∃ N, w.heap.size = N := ⟨_, rfl⟩
  have hlt := h.held.lt
  obtain ⟨u0, hu0⟩ : ∃ u, w.alloc (.cells #[.slice none 0 0, .slice none 0 0, .int .i64 0, .int .i64 0, .slice none 0 0] 64) = u := ⟨_, rfl⟩
  have s0 : u0.heap.size = N + 1 := by rw [← hu0, World.size_alloc, hN]
  have b0 : Below w.heap.size w u0 := by rw [← hu0]; exact (Below.refl _ _).alloc (Nat.le_refl _) _
  have k0 : Held u0 N 64 #[.slice none 0 0, .slice none 0 0, .int .i64 0, .int .i64 0, .slice none 0 0] := by rw [← hu0, ← hN]; exact heap_alloc_new w _
  obtain ⟨u1, hu1⟩ : ∃ u, u0.alloc (.cells #[.slice SA es.length Sc, .slice PA ps.length Pc, .int .i64 g.sk, .int .i64 g.fr, .slice RA g.rej.length Rc] 64) = u := ⟨_, rfl⟩
  have s1 : u1.heap.size = N + 2 := by rw [← hu1, World.size_alloc, s0]
  have b1 : Below u0.heap.size u0 u1 := by rw [← hu1]; exact (Below.refl _ _).alloc (Nat.le_refl _) _
  have k1 : Held u1 (N + 1) 64 #[.slice SA es.length Sc, .slice PA ps.length Pc, .int .i64 g.sk, .int .i64 g.fr, .slice RA g.rej.length Rc] := by rw [← hu1, ← s0]; exact heap_alloc_new u0 _
  have bb : Below w.heap.size w u1 := b0.trans (b1.mono (by omega))
  obtain ⟨x0, x1, x2, x3, x4⟩ := (h.below b0).cells
  have y0 := k1.cell 0
  simp at y0
  have HK0 := Lib.hid (k0.below b1 (by omega))
  have HK1 := Lib.hid k1
  have HC1 := Lib.hid (HCS.out u1 bb)
  have HB1 := Lib.hid bb
  have HN := Lib.hid hN
  clear h htr hsg hsl hsa hfit k0 k1 b0 b1 bb HCS
  unfold GtGot
  go_enter Tryz.func37, Tryz.ntmps37
  go_wp2_with fail
  refine HC1.out.mono ?_
  rintro e w2 ⟨A2, c2, es2, rfl, ho2, he2, hb2⟩
  have z2 := hb2.size
  have q2 := HK1.out.below hb2 HK1.out.lt
  have f0 := q2.frozen 0
  have y0 := q2.cell 0
  have l2 := q2.lt
  simp at y0
  obtain ⟨v2, hv2⟩ : ∃ v, w2.setCell ⟨N + 1, 0, none⟩ (.slice A2 es2.length c2) = v := ⟨_, rfl⟩
  have q2' : Held v2 (N + 1) 64 #[.slice A2 es2.length c2, .slice PA ps.length Pc, .int .i64 g.sk, .int .i64 g.fr, .slice RA g.rej.length Rc] := by rw [← hv2]; simpa using q2.put 0 (.slice A2 es2.length c2)
  have p2 : w2.grownBy v2 (some (N + 1)) := by rw [← hv2]; exact grown_put _ _ _ _
  have t2 : v2.heap.size = w2.heap.size := by rw [← hv2]; exact World.size_setCell _ _ _
  have b2 : Below w.heap.size w v2 := (HB1.out.trans (hb2.mono HB1.out.size)).grown p2 (by omega) (fun j e => by injection e with e; omega)
  have HQ2 := Lib.hid q2'
  have HZ2 := Lib.hid (show Held v2 N 64 #[.slice none 0 0, .slice none 0 0, .int .i64 0, .int .i64 0, .slice none 0 0] from (HK0.out.below hb2 (by omega)).grown p2 (by simp))
  have HO2 := Lib.hid (show OwnP v2 (N + 2) (.slice A2 es2.length c2) es2 from (ho2.base (by omega)).kept p2 (by omega))
  have HE2 := Lib.hid he2
  have HB2 := Lib.hid b2
  have HC2 := Lib.hid (HCT.out v2 b2)
  have y1 := q2'.cell 1
  simp at y1
  clear hb2 q2 q2' p2 b2 ho2 he2
  go_wp2_with fail
  refine HC2.out.mono ?_
  rintro e w3 ⟨A3, c3, qs, rfl, ho3, he3, hb3⟩
  have z3 := hb3.size
  have q3 := HQ2.out.below hb3 HQ2.out.lt
  have f1 := q3.frozen 1
  have y1 := q3.cell 1
  have l3 := q3.lt
  simp at y1
  obtain ⟨v3, hv3⟩ : ∃ v, w3.setCell ⟨N + 1, 1, none⟩ (.slice A3 qs.length c3) = v := ⟨_, rfl⟩
  have q3' : Held v3 (N + 1) 64 #[.slice A2 es2.length c2, .slice A3 qs.length c3, .int .i64 g.sk, .int .i64 g.fr, .slice RA g.rej.length Rc] := by rw [← hv3]; simpa using q3.put 1 (.slice A3 qs.length c3)
  have p3 : w3.grownBy v3 (some (N + 1)) := by rw [← hv3]; exact grown_put _ _ _ _
  have t3 : v3.heap.size = w3.heap.size := by rw [← hv3]; exact World.size_setCell _ _ _
  have b3 : Below w.heap.size w v3 := (HB2.out.trans (hb3.mono HB2.out.size)).grown p3 (by omega) (fun j e => by injection e with e; omega)
  have HQ3 := Lib.hid q3'
  have HZ3 := Lib.hid (show Held v3 N 64 #[.slice none 0 0, .slice none 0 0, .int .i64 0, .int .i64 0, .slice none 0 0] from (HZ2.out.below hb3 HZ2.out.lt).grown p3 (by simp))
  have HO3 := Lib.hid (show OwnP v3 (N + 2) (.slice A2 es2.length c2) es2 from (HO2.out.below hb3).kept p3 (by omega))
  have HT3 := Lib.hid (show OwnT v3 (N + 2) (.slice A3 qs.length c3) qs from (ho3.base (by omega)).nott (NotT.of_held q3 (by decide)) (NotT.of_held q3 (by decide)) ((NotT.of_held q3 (by decide)).ne ho3.1) p3)
  have HE3 := Lib.hid he3
  have HB3 := Lib.hid b3
  have HC3 := Lib.hid (HCJ.out v3 b3)
  have y4 := q3'.cell 4
  simp at y4
  clear hb3 q3 q3' p3 b3 ho3 he3
  go_wp2_with fail
  refine HC3.out.mono ?_
  rintro e w4 ⟨A4, c4, rfl, ho4, hb4⟩
  have z4 := hb4.size
  have q4 := HQ3.out.below hb4 HQ3.out.lt
  have f4 := q4.frozen 4
  have y4 := q4.cell 4
  have l4 := q4.lt
  simp at y4
  obtain ⟨v4, hv4⟩ : ∃ v, w4.setCell ⟨N + 1, 4, none⟩ (.slice A4 g.rej.length c4) = v := ⟨_, rfl⟩
  have q4' : Held v4 (N + 1) 64 #[.slice A2 es2.length c2, .slice A3 qs.length c3, .int .i64 g.sk, .int .i64 g.fr, .slice A4 g.rej.length c4] := by rw [← hv4]; simpa using q4.put 4 (.slice A4 g.rej.length c4)
  have p4 : w4.grownBy v4 (some (N + 1)) := by rw [← hv4]; exact grown_put _ _ _ _
  have t4 : v4.heap.size = w4.heap.size := by rw [← hv4]; exact World.size_setCell _ _ _
  have b4 : Below w.heap.size w v4 := (HB3.out.trans (hb4.mono HB3.out.size)).grown p4 (by omega) (fun j e => by injection e with e; omega)
  have hz4 : Held v4 N 64 #[.slice none 0 0, .slice none 0 0, .int .i64 0, .int .i64 0, .slice none 0 0] := (HZ3.out.below hb4 HZ3.out.lt).grown p4 (by simp)
  have HOO := Lib.hid (show GOwn v4 (N + 2) g A2 c2 es2 A3 c3 qs A4 c4 from
    ⟨(HO3.out.below hb4).kept p4 (by omega), HE2.out, (HT3.out.below hb4).nott (NotT.of_held q4 (by decide)) (NotT.of_held q4 (by decide)) ((NotT.of_held q4 (by decide)).ne (HT3.out.below hb4).1) p4, HE3.out, own_nott (own_base ho4 (by omega)) (NotT.of_held q4 (by decide)) p4⟩)
  have a0 := q4'.cell 0
  have a1 := q4'.cell 1
  have a2 := q4'.cell 2
  have a3 := q4'.cell 3
  have a4 := q4'.cell 4
  have c0 := hz4.cell 0
  have c1 := hz4.cell 1
  have d2 := hz4.cell 2
  have d3 := hz4.cell 3
  have d4 := hz4.cell 4
  have g0 := hz4.frozen 0
  have g1 := hz4.frozen 1
  have g2 := hz4.frozen 2
  have g3 := hz4.frozen 3
  have g4 := hz4.frozen 4
  have lN := hz4.lt
  simp at a0 a1 a2 a3 a4 c0 c1 d2 d3 d4
  have HZ4 := Lib.hid hz4
  have HB4 := Lib.hid b4
  clear hb4 q4 q4' p4 b4 ho4 hz4
  go_wp2_with fail
  refine bodyPost_ret (v := GW g A2 c2 es2 A3 c3 qs A4 c4) ?_ rfl ?_
  · exact res_got (R := N) (by simp only [List.getElem?_toArray, List.getElem?_cons_zero, List.getElem?_cons_succ, Option.getD_some]) (held_put5 HZ4.out _ _ _ _ _)
  · refine ⟨A2, c2, es2, A3, c3, qs, A4, c4, rfl, ?_, ?_⟩
    · exact (HOO.out.kept (grown_put5 v4 N _ _ _ _ _) (by omega)).base (by have := HN.out; omega)
    · exact HB4.out.grown (grown_put5 v4 N _ _ _ _ _) (by have := HB4.out.size; omega) (fun j e => by injection e with e; have := HN.out; omega)
end
end Go.Proofs.YtimihhcidbeonaaGreat

namespace Go.Proofs.YtimihhcidbeonaaGreat
open Go.RowKit Go.ChangeShapes Go.WideShapes
set_option linter.unusedVariables false
/-- A part of bytes, as a part of any. -/
def sgJ (s : Sg) : Sj := ⟨s.frm, s.n, s.isf, s.kind, s.pay⟩
def toJ (p : Pt) : Jm := ⟨sgJ p.s, p.A, p.c⟩
theorem flatS5_pt : ∀ l : List Pt, flatS5 (l.map toJ) = flatS l
  | [] => rfl
  | p :: l => by
    rw [List.map_cons, flatS5, flatS5_pt l]
    rfl
theorem parts_pay {xs : List Int} (hx : ∀ x ∈ xs, 0 ≤ x ∧ x < 256) {a : Nat} {l : List Sg} (h : PartsS xs a l) : ∀ s ∈ l, s.pay.length ≤ 4096 ∧ ∀ y ∈ s.pay, 0 ≤ y ∧ y < 256 := by
  induction h with
  | stop a h => simp
  | rest a h hn =>
    intro s hs
    obtain rfl := List.mem_singleton.1 hs
    exact ⟨Nat.zero_le _, by simp [skipS]⟩
  | fr a l h hb hl ih =>
    intro s hs
    rcases List.mem_cons.1 hs with rfl | hs
    · obtain ⟨_, _, _, h4, h5, _⟩ := begins_in hx hb
      exact ⟨h4, h5⟩
    · exact ih s hs
  | gap a r l ha h hn hb hl ih =>
    intro s hs
    rcases List.mem_cons.1 hs with rfl | hs
    · exact ⟨Nat.zero_le _, by simp [skipS]⟩
    · rcases List.mem_cons.1 hs with rfl | hs
      · obtain ⟨_, _, _, h4, h5, _⟩ := begins_in hx hb
        exact ⟨h4, h5⟩
      · exact ih s hs
/-- What is read of bytes. -/
def ofG (xs : List Int) (g : Gp) : Prop := ∃ l, PartsS xs 0 l ∧ g = takeL noG (l.map sgJ)
end Go.Proofs.YtimihhcidbeonaaGreat

namespace Go.Proofs.YtimihhcidbeonaaGreat
open Go.RowKit Go.Shelf
attribute [local go_sem] Oper.semAt_some
/-- What a round is told of what it is handed. -/
def PtOk (xs : List Int) (p : Pt) (w : World) : Prop := p.Reads w w.heap.size ∧ p.s.frm + p.s.n ≤ xs.length
/-- What a round keeps: what lies below n₀, the block Bn, and what has been laid from block m on. -/
def KeepsB (n₀ Bn m : Nat) (w w' : World) : Prop := Below n₀ w w' ∧ w'.heap[Bn]? = w.heap[Bn]? ∧ ∀ k, m ≤ k → k < w.heap.size → w'.heap[k]? = w.heap[k]?
theorem KeepsB.trans {n₀ Bn m : Nat} {a b c : World} (h : KeepsB n₀ Bn m a b) (k : KeepsB n₀ Bn m b c) : KeepsB n₀ Bn m a c :=
  ⟨h.1.trans k.1, k.2.1.trans h.2.1, fun i h1 h2 => (k.2.2 i h1 (Nat.lt_of_lt_of_le h2 h.1.size)).trans (h.2.2 i h1 h2)⟩
theorem KeepsB.turn {n₀ Bn : Nat} {w : World} (hn : n₀ ≤ w.heap.size) (hB : Bn < w.heap.size) (m : Nat) (W : World) (l : Nat) (o o' : Obj) (hl : w.heap.size ≤ l) (hm : l < m) (h : W.heap[l]? = some o) (_ : o.isCells = false) : KeepsB n₀ Bn m W (W.putObj l o') :=
  ⟨(Below.refl n₀ W).grown (grownBy_putObj' W l o') (by have := (Array.getElem?_eq_some_iff.1 h).1; omega) (fun k e => by cases e; omega), World.putObj_heap_other (by omega), fun k h1 _ => World.putObj_heap_other (by omega)⟩
theorem step_next {xs : List Int} {a : Nat} (h : nextI false xs a = -1) : max (nextI false xs a) 0 = 0 ∧ decide (0 ≤ nextI false xs a) = false := by rw [h]; exact ⟨rfl, rfl⟩
theorem step_found {xs : List Int} {a r : Nat} (h : nextI false xs a = (r : Int)) : max (nextI false xs a) 0 = (r : Int) ∧ decide (0 ≤ nextI false xs a) = true := by
  rw [h]
  exact ⟨by omega, by simp⟩
set_option maxRecDepth 100000 in
set_option maxHeartbeats 2000000 in
theorem parts1_in (n : Nat) (hn : 1 ≤ n) (l Bn n₀ : Nat) (A : Option Addr) (c : Nat) (xs : List Int) (hsm : xs.length ≤ 1000000000000) (hbx : ∀ x ∈ xs, 0 ≤ x ∧ x < 256) (J : List Pt → World → Prop) (W : World)
    (hY : ∀ pre x W0 W1, J pre W0 → Below W0.heap.size W0 W1 → PtOk xs x W1 → pre.length < xs.length → YieldAt Fence.wide (n - 1) Tryz.prog l #[x.val] W1 fun e W' => e = .returned (.bool true) ∧ J (pre ++ [x]) W' ∧ KeepsB n₀ Bn W0.heap.size W1 W')
    (hBn : W.cell? ⟨Bn, 0, none⟩ = some (.slice A xs.length c)) (hlt : Bn < W.heap.size) (hn0 : n₀ ≤ W.heap.size) (hrow : Row W n₀ (.slice A xs.length c) xs) (h0 : J [] W) :
    CallsIn Fence.wide n Tryz.prog 134 #[.func (.yield l) #[] #[], .pointer (some ⟨Bn, 0, none⟩)] W fun e W' => (∃ v, e = .returned v) ∧ ∃ (ys : List Pt) (W0 : World), PartsS xs 0 (ys.map (·.s)) ∧ J ys W0 ∧ Below W0.heap.size W0 W' := by
  refine callsIn_of_wp Tryz.func134 rfl trivial ?_ rfl
  simp only [Tryz.ntmps134, List.size_toArray, List.length_cons, List.length_nil, Nat.reduceAdd, Nat.reduceSub, Array.replicate_succ, Array.replicate_zero, List.push_toArray, List.append_toArray, List.nil_append, List.cons_append]
  have HROW := Lib.hid hrow
  have HX := Lib.hid hbx
  have HY := Lib.hid hY
  have NX := Lib.hid (fun W1 (h : Row W1 W1.heap.size (.slice A xs.length c) xs) (a : Nat) (ha : a ≤ xs.length) => next_any A c xs (by omega) W1 h hbx a (by omega) (by omega))
  have FP := Lib.hid (fun W1 (h : Row W1 W1.heap.size (.slice A xs.length c) xs) (a : Nat) (ha : a ≤ xs.length) => framePart_any A c xs (by omega) W1 h hbx a ha)
  have HBN := Lib.hid hBn
  clear hrow hbx hY
  gi_wp2_with (refine ⟨trivial, ?_⟩; gi_at_call 135; refine (callsIn_wide.2 (NX.out _ (HROW.out.more hn0) 0 (Nat.zero_le _))).mono ?_; rintro e w1 ⟨rfl, hb1⟩)
  clear hBn
  have HN := Lib.hid (next_ways xs)
  gi_loopw [3, 4, 5] (fun f t d wr => ∃ (pre : List Pt) (a : Nat) (W0 : World), f = .int .i64 a ∧ t = .int .i64 (max (nextI false xs a) 0) ∧ d = .bool (decide (0 ≤ nextI false xs a)) ∧ a ≤ xs.length ∧ pre.length ≤ a ∧
      Hid (Ahead xs (pre.map (·.s)) a) ∧ J pre W0 ∧ Below W0.heap.size W0 wr ∧ Hid (Below n₀ W wr ∧ wr.heap[Bn]? = W.heap[Bn]?))
    (fun f _ _ _ => xs.length - (intOf f).toNat)
  case atStart =>
    exact ⟨[], 0, W, rfl, rfl, rfl, Nat.zero_le _, Nat.zero_le _, Ahead.start xs, h0, hb1, hb1.mono hn0, hb1.block _ hlt⟩
  case round =>
    clear hb1 h0
    obtain ⟨pre, a, W0, rfl, rfl, rfl, ha, hpl, HA, hJs, hk0, HK⟩ := hrel
    have hcb : wr.cell? ⟨Bn, 0, none⟩ = some (.slice A xs.length c) := (World.cell?_of_block HK.out.2).trans HBN.out
    have hnr : n₀ ≤ wr.heap.size := Nat.le_trans hn0 HK.out.1.size
    have HR := Lib.hid ((HROW.out.below HK.out.1).more hnr)
    rcases HN.out a with hno | ⟨r, hr⟩
    · obtain ⟨e1, e2⟩ := step_next hno
      have hnn := next_no (show nextI false xs a < 0 by omega)
      have HNN := Lib.hid hnn
      rw [e1, e2]
      clear e1 e2 hno hnn
      by_cases hal : a < xs.length
      · gi_wp2_with (refine ⟨trivial, ?_⟩; gi_at_call 136; refine (callsIn_wide.2 (skipped_any a xs.length ha (by omega) _)).mono ?_; rintro e w1 ⟨rfl, hb1⟩
                     obtain ⟨fn, tmps, assign, body, hy, hR⟩ := HY.out pre ⟨skipS a xs.length, none, 0⟩ W0 w1 hJs (hk0.trans (hb1.mono hk0.size)) ⟨Row.nil _ _, by simp only [skipS]; omega⟩ (by omega); dsimp only [Pt.val, skipS, List.length_nil] at hy)
        refine hR.mono ?_
        rintro e W3 ⟨rfl, hJ3, hk3⟩
        gi_wp2
        go_end0
        exact ⟨⟨_, rfl⟩, pre ++ [⟨skipS a xs.length, none, 0⟩], W3, by rw [map_snoc]; exact HA.out.last hal HNN.out, hJ3, Below.refl _ _⟩
      · have hal' : ¬ a < xs.length := hal
        gi_wp2
        go_end0
        exact ⟨⟨_, rfl⟩, pre, W0, HA.out.done (by omega), hJs, hk0⟩
    · obtain ⟨e1, e2⟩ := step_found hr
      obtain ⟨har, hrl, hbg, hnb⟩ := next_some hr
      have HBG := Lib.hid hbg
      have HNB := Lib.hid hnb
      obtain ⟨h9, hin, _⟩ := begins_in HX.out hbg
      have HFR := Lib.hid (fun p : List Pt => HA.out)
      rw [e1, e2]
      clear e1 e2 hr hbg hnb HFR
      obtain ⟨t, ht⟩ : ∃ t, getFr (xs.drop r) = t := ⟨_, rfl⟩
      have HT := Lib.hid ht
      rw [ht] at h9 hin
      clear ht
      have FR := Lib.hid (fun W1 (h : Row W1 W1.heap.size (.slice A xs.length c) xs) => FP.out W1 h r (by omega))
      rw [HT.out] at FR
      -- how a round ends behind what has been skipped
      by_cases hgt : a < r
      · gi_wp2_with (refine ⟨trivial, ?_⟩; gi_at_call 136; refine (callsIn_wide.2 (skipped_any a r har (by omega) _)).mono ?_; rintro e w1 ⟨rfl, hb1⟩
                     obtain ⟨fn, tmps, assign, body, hy, hR⟩ := HY.out pre ⟨skipS a r, none, 0⟩ W0 w1 hJs (hk0.trans (hb1.mono hk0.size)) ⟨Row.nil _ _, by simp only [skipS]; omega⟩ (by omega); dsimp only [Pt.val, skipS, List.length_nil] at hy)
        refine hR.mono ?_
        rintro e W3 ⟨rfl, hJ3, hk3⟩
        have HK3 : Hid (Below n₀ W W3 ∧ W3.heap[Bn]? = W.heap[Bn]?) := Lib.hid ⟨(HK.out.1.trans (hb1.mono hnr)).trans hk3.1, hk3.2.1.trans ((hb1.block Bn (Nat.lt_of_lt_of_le hlt HK.out.1.size)).trans HK.out.2)⟩
        clear hk3 hb1 hcb HR hnr hy hR hk0 HK
        have hcb : W3.cell? ⟨Bn, 0, none⟩ = some (.slice A xs.length c) := (World.cell?_of_block HK3.out.2).trans HBN.out
        have HR := Lib.hid ((HROW.out.below HK3.out.1).more (Nat.le_trans hn0 HK3.out.1.size))
        have hl3 : (pre ++ [(⟨skipS a r, none, 0⟩ : Pt)]).length < xs.length := by simp; omega
        have hnr : n₀ ≤ W3.heap.size := Nat.le_trans hn0 HK3.out.1.size
        have hltc : Bn < W3.heap.size := Nat.lt_of_lt_of_le hlt HK3.out.1.size
        gi_wp2_with fail
        refine ⟨trivial, ?_⟩
        refine (callsIn_wide.2 (FR.out _ HR.out)).mono ?_
        rintro e w4 ⟨A1, c1, rfl, hrow4, hb4⟩
        have hb5 := hb4.alloc (Nat.le_trans (Nat.le_refl _) hb4.size) (.cells #[.int .i64 r, .int .i64 t.2.1, .bool true, .int .i64 t.1.1, .slice A1 t.1.2.length c1] 80)
        have hrow5 := (hrow4.below ((Below.refl _ _).alloc (Nat.le_refl _) (.cells #[.int .i64 r, .int .i64 t.2.1, .bool true, .int .i64 t.1.1, .slice A1 t.1.2.length c1] 80))).more (Nat.le_of_lt (by simp : w4.heap.size < (w4.alloc (.cells #[.int .i64 r, .int .i64 t.2.1, .bool true, .int .i64 t.1.1, .slice A1 t.1.2.length c1] 80)).heap.size))
        obtain ⟨fn2, tmps2, assign2, body2, hy2, hR2⟩ := HY.out (pre ++ [(⟨skipS a r, none, 0⟩ : Pt)]) ⟨⟨r, t.2.1, true, t.1.1, t.1.2⟩, A1, c1⟩ W3 _ hJ3 ((Below.refl W3.heap.size W3).trans (hb5.mono (Below.refl W3.heap.size W3).size)) ⟨hrow5, hin⟩ hl3
        dsimp only [Pt.val] at hy2
        gi_wp2_with fail
        refine hR2.mono ?_
        rintro e W6 ⟨rfl, hJ6, hk6⟩
        have hz4 : W3.heap.size ≤ w4.heap.size := Nat.le_trans (Below.refl W3.heap.size W3).size hb4.size
        have hpart : Held W6 w4.heap.size 80 #[.int .i64 r, .int .i64 t.2.1, .bool true, .int .i64 t.1.1, .slice A1 t.1.2.length c1] := (hk6.2.2 w4.heap.size hz4 (by simp)).trans (heap_alloc_new w4 _)
        have hp1 := hpart.cell 1
        simp at hp1
        have HK6 : Hid (Below n₀ W W6 ∧ W6.heap[Bn]? = W.heap[Bn]?) := Lib.hid ⟨(HK3.out.1.trans (hb5.mono hnr)).trans hk6.1, hk6.2.1.trans ((hb5.block Bn hltc).trans HK3.out.2)⟩
        have HJ6 := Lib.hid hJ6
        clear hk6 hb5 hb4 hrow4 hrow5 hcb HR hy2 hR2 hpart hJ6
        have hcb : W6.cell? ⟨Bn, 0, none⟩ = some (.slice A xs.length c) := (World.cell?_of_block HK6.out.2).trans HBN.out
        have hn6 : n₀ ≤ W6.heap.size := Nat.le_trans hn0 HK6.out.1.size
        have HR6 := Lib.hid ((HROW.out.below HK6.out.1).more hn6)
        obtain ⟨b, hb⟩ : ∃ b : Nat, r + t.2.1 = b := ⟨_, rfl⟩
        have hbi : (r : Int) + t.2.1 = b := by omega
        have hbl : b ≤ xs.length := by omega
        have hbr : r + 9 ≤ b := by omega
        have HB := Lib.hid hb
        clear hb hin
        gi_wp2_with (refine ⟨trivial, ?_⟩; gi_at_call 135; refine (callsIn_wide.2 (NX.out _ HR6.out b hbl)).mono ?_; rintro e w7 ⟨rfl, hb7⟩)
        go_roundw
        case rel =>
          refine ⟨(pre ++ [(⟨skipS a r, none, 0⟩ : Pt)]) ++ [(⟨⟨r, t.2.1, true, t.1.1, t.1.2⟩, A1, c1⟩ : Pt)], b, W6, by simp, rfl, rfl, hbl, by simp; omega, ?_, HJ6.out, hb7, HK6.out.1.trans (hb7.mono hn6), (hb7.block Bn (Nat.lt_of_lt_of_le hlt HK6.out.1.size)).trans HK6.out.2⟩
          have e1 : frS xs r = ⟨r, t.2.1, true, t.1.1, t.1.2⟩ := by unfold frS; rw [HT.out]
          have e2 := HA.out.gap hgt hrl HNB.out HBG.out
          rw [e1, HT.out, HB.out] at e2
          change Ahead xs (List.map (fun x : Pt => x.s) _) b
          simpa using e2
        case measure => simp [intOf]; omega
      · obtain rfl : r = a := by omega
        clear hnr
        have hnn : ¬ (r : Int) < r := by omega
        gi_wp2_with fail
        refine ⟨trivial, ?_⟩
        gi_wp2_with fail
        refine ⟨fun _ h => (by cases h), ?_⟩
        have hnr : n₀ ≤ wr.heap.size := Nat.le_trans hn0 HK.out.1.size
        have hltc : Bn < wr.heap.size := Nat.lt_of_lt_of_le hlt HK.out.1.size
        gi_wp2_with fail
        refine ⟨trivial, ?_⟩
        refine (callsIn_wide.2 (FR.out _ HR.out)).mono ?_
        rintro e w4 ⟨A1, c1, rfl, hrow4, hb4⟩
        have hb5 := hb4.alloc (Nat.le_trans (Nat.le_refl _) hb4.size) (.cells #[.int .i64 r, .int .i64 t.2.1, .bool true, .int .i64 t.1.1, .slice A1 t.1.2.length c1] 80)
        have hrow5 := (hrow4.below ((Below.refl _ _).alloc (Nat.le_refl _) (.cells #[.int .i64 r, .int .i64 t.2.1, .bool true, .int .i64 t.1.1, .slice A1 t.1.2.length c1] 80))).more (Nat.le_of_lt (by simp : w4.heap.size < (w4.alloc (.cells #[.int .i64 r, .int .i64 t.2.1, .bool true, .int .i64 t.1.1, .slice A1 t.1.2.length c1] 80)).heap.size))
        obtain ⟨fn2, tmps2, assign2, body2, hy2, hR2⟩ := HY.out pre ⟨⟨r, t.2.1, true, t.1.1, t.1.2⟩, A1, c1⟩ W0 _ hJs (hk0.trans (hb5.mono hk0.size)) ⟨hrow5, hin⟩ (by omega)
        dsimp only [Pt.val] at hy2
        gi_wp2_with fail
        refine hR2.mono ?_
        rintro e W6 ⟨rfl, hJ6, hk6⟩
        have hz4 : W0.heap.size ≤ w4.heap.size := Nat.le_trans hk0.size hb4.size
        have hpart : Held W6 w4.heap.size 80 #[.int .i64 r, .int .i64 t.2.1, .bool true, .int .i64 t.1.1, .slice A1 t.1.2.length c1] := (hk6.2.2 w4.heap.size hz4 (by simp)).trans (heap_alloc_new w4 _)
        have hp1 := hpart.cell 1
        simp at hp1
        have HK6 : Hid (Below n₀ W W6 ∧ W6.heap[Bn]? = W.heap[Bn]?) := Lib.hid ⟨(HK.out.1.trans (hb5.mono hnr)).trans hk6.1, hk6.2.1.trans ((hb5.block Bn hltc).trans HK.out.2)⟩
        have HJ6 := Lib.hid hJ6
        clear hk6 hb5 hb4 hrow4 hrow5 hcb HR hy2 hR2 hpart hJ6
        have hcb : W6.cell? ⟨Bn, 0, none⟩ = some (.slice A xs.length c) := (World.cell?_of_block HK6.out.2).trans HBN.out
        have hn6 : n₀ ≤ W6.heap.size := Nat.le_trans hn0 HK6.out.1.size
        have HR6 := Lib.hid ((HROW.out.below HK6.out.1).more hn6)
        obtain ⟨b, hb⟩ : ∃ b : Nat, r + t.2.1 = b := ⟨_, rfl⟩
        have hbi : (r : Int) + t.2.1 = b := by omega
        have hbl : b ≤ xs.length := by omega
        have hbr : r + 9 ≤ b := by omega
        have HB := Lib.hid hb
        clear hb hin
        gi_wp2_with (refine ⟨trivial, ?_⟩; gi_at_call 135; refine (callsIn_wide.2 (NX.out _ HR6.out b hbl)).mono ?_; rintro e w7 ⟨rfl, hb7⟩)
        go_roundw
        case rel =>
          refine ⟨pre ++ [(⟨⟨r, t.2.1, true, t.1.1, t.1.2⟩, A1, c1⟩ : Pt)], b, W6, by simp, rfl, rfl, hbl, by simp; omega, ?_, HJ6.out, hb7, HK6.out.1.trans (hb7.mono hn6), (hb7.block Bn (Nat.lt_of_lt_of_le hlt HK6.out.1.size)).trans HK6.out.2⟩
          have e1 : frS xs r = ⟨r, t.2.1, true, t.1.1, t.1.2⟩ := by unfold frS; rw [HT.out]
          have e2 := HA.out.fr hrl HBG.out
          rw [e1, HT.out, HB.out] at e2
          change Ahead xs (List.map (fun x : Pt => x.s) _) b
          simpa using e2
        case measure => simp [intOf]; omega
/-- segs.parts: the bytes' slice is boxed; the function value has the box. -/
theorem parts_any (A : Option Addr) (n c : Nat) (w : World) :
    Calls Tryz.prog 85 #[.slice A n c] w fun e w' => e = .returned (.func (.func 134) #[] #[.pointer (some ⟨w.heap.size, 0, none⟩)]) ∧ w' = w.alloc (.cells #[.slice A n c] 23) := by
  go_enter Tryz.func85, Tryz.ntmps85
  go_wp2_with fail
  go_ret
  exact ⟨rfl, rfl⟩
/-- What may be ranged over hands on the parts. -/
theorem parts_hands (n : Nat) (hn : 1 ≤ n) (Bn n₀ : Nat) (A : Option Addr) (c : Nat) (xs : List Int) (hsm : xs.length ≤ 1000000000000) (hbx : ∀ x ∈ xs, 0 ≤ x ∧ x < 256) (w : World)
    (hBn : w.cell? ⟨Bn, 0, none⟩ = some (.slice A xs.length c)) (hlt : Bn < w.heap.size) (hn0 : n₀ ≤ w.heap.size) (hrow : Row w n₀ (.slice A xs.length c) xs) :
    Hands Fence.wide n Tryz.prog 134 #[.pointer (some ⟨Bn, 0, none⟩)] (fun x : Pt => #[x.val]) (PtOk xs) (KeepsB n₀ Bn) (fun ys => PartsS xs 0 (ys.map (·.s))) xs.length w := fun l J W hW hY h0 =>
  parts1_in n hn l Bn n₀ A c xs hsm hbx J W hY ((hW.cell (p := ⟨Bn, 0, none⟩) hlt).trans hBn) (Nat.lt_of_lt_of_le hlt hW.size) (Nat.le_trans hn0 hW.size) (hrow.below (hW.mono hn0)) h0
end Go.Proofs.YtimihhcidbeonaaGreat

namespace Go.Proofs.YtimihhcidbeonaaGreat
open Go.RowKit Go.Shelf
/-- Between two rounds: a box B holds a slice of the call's own, of what f makes of what has come. -/
def Between (n₀ B Bn : Nat) (bv : Value) (w : World) (f : List Pt → List Pt) (pre : List Pt) (W : World) : Prop :=
  (∃ v, Boxed W B 76 v ∧ Segs W n₀ v (f pre)) ∧ Boxed W Bn 23 bv ∧ Below n₀ w W
/-- In a round: the part lies in a block q. -/
def InRound (n₀ B Bn : Nat) (bv : Value) (w : World) (xs : List Int) (f : List Pt → List Pt) (fr : Pt → Nat → Act) (m : Nat) (pre : List Pt) (x : Pt) (a : Act) (W : World) : Prop :=
  ∃ q v, a = fr x q ∧ Held W q 80 #[.int .i64 x.s.frm, .int .i64 x.s.n, .bool x.s.isf, .int .i64 x.s.kind, .slice x.A x.s.pay.length x.c] ∧ m ≤ q ∧ B < m ∧ (∀ g, v.ownBlock = some g → g < m) ∧
    Boxed W B 76 v ∧ Segs W n₀ v (f pre) ∧ Boxed W Bn 23 bv ∧ Below n₀ w W ∧ PtOk xs x W
section
variable {n₀ B Bn : Nat} {bv : Value} {w : World} {xs : List Int} {f : List Pt → List Pt} {fr : Pt → Nat → Act}
theorem between_own {b : Nat} (hn : n₀ ≤ w.heap.size) (hb : n₀ ≤ b) : OwnFrom b (Between n₀ B Bn bv w f) := by
  rintro pre X Y row ⟨⟨v, h1, h2⟩, h3, h4⟩ hg hr
  have ht : Turned X Y row := ⟨hg, fun r e => (hr r e).2⟩
  exact ⟨⟨v, ht.block h1, h2.turned ht⟩, ht.block h3, ownFrom_below (β := Unit) hn hb () X Y row h4 hg hr⟩
theorem inRound_own {b m : Nat} {pre : List Pt} {x : Pt} {a : Act} (hn : n₀ ≤ w.heap.size) (hb : n₀ ≤ b) : OwnFrom b (fun (_ : Unit) W => InRound n₀ B Bn bv w xs f fr m pre x a W) := by
  rintro _ X Y row ⟨q, v, e, h1, h2, h3, h4, h5, h6, h7, h8, h9⟩ hg hr
  have ht : Turned X Y row := ⟨hg, fun r e => (hr r e).2⟩
  exact ⟨q, v, e, ht.block h1, h2, h3, h4, ht.block h5, h6.turned ht, ht.block h7, ownFrom_below (β := Unit) hn hb () X Y row h8 hg hr, h9.1.turned ht, h9.2⟩
/-- The part is taken. -/
theorem taken_round {b : Nat} {pre : List Pt} {x : Pt} {W0 W : World} (hI : Between n₀ B Bn bv w f pre W0) (hb : Below W0.heap.size W0 W) (hx : PtOk xs x W) (hn : n₀ ≤ w.heap.size) :
    KeepsFrom b W (W.alloc (.cells #[.int .i64 x.s.frm, .int .i64 x.s.n, .bool x.s.isf, .int .i64 x.s.kind, .slice x.A x.s.pay.length x.c] 80)) ∧
    KeepsB n₀ Bn W0.heap.size W (W.alloc (.cells #[.int .i64 x.s.frm, .int .i64 x.s.n, .bool x.s.isf, .int .i64 x.s.kind, .slice x.A x.s.pay.length x.c] 80)) ∧
    InRound n₀ B Bn bv w xs f fr W0.heap.size pre x (fr x W.heap.size) (W.alloc (.cells #[.int .i64 x.s.frm, .int .i64 x.s.n, .bool x.s.isf, .int .i64 x.s.kind, .slice x.A x.s.pay.length x.c] 80)) := by
  obtain ⟨⟨v, h1, h2⟩, h3, h4⟩ := hI
  have hn0 : n₀ ≤ W0.heap.size := Nat.le_trans hn h4.size
  have hnW : n₀ ≤ W.heap.size := Nat.le_trans hn0 hb.size
  generalize hX : W.alloc (.cells #[.int .i64 x.s.frm, .int .i64 x.s.n, .bool x.s.isf, .int .i64 x.s.kind, .slice x.A x.s.pay.length x.c] 80) = X
  have ba : Below W.heap.size W X := by rw [← hX]; exact (Below.refl _ _).alloc (Nat.le_refl _) _
  have bb : Below W0.heap.size W0 X := hb.trans (ba.mono hb.size)
  refine ⟨by rw [← hX]; exact (KeepsOthers.alloc W _).from _, ⟨ba.mono hnW, ba.block _ (Nat.lt_of_lt_of_le h3.lt hb.size), fun k _ hk => ba.block k hk⟩, W.heap.size, v, rfl, by rw [← hX]; exact heap_alloc_new W _, hb.size, h1.lt, fun g e => (h2.1.lt g e).2,
    (bb.block _ h1.lt).trans h1, h2.below bb, (bb.block _ h3.lt).trans h3, h4.trans (bb.mono hn0), hx.1.below ba, hx.2⟩
/-- The part is laid behind what has been collected. -/
theorem laid_round {b m : Nat} {pre : List Pt} {x : Pt} {W w1 : World} {v v' : Value} {tmp : Obj} (h1 : Boxed W B 76 v) (h2 : Segs W n₀ v (f pre)) (h3 : Boxed W Bn 23 bv) (h4 : Below n₀ w W) (hn : n₀ ≤ w.heap.size) (hB : n₀ ≤ B) (hBm : B < m) (hg : ∀ g, v.ownBlock = some g → g < m) (hne : Bn ≠ B)
    (hs : Segs w1 n₀ v' (f (pre ++ [x]))) (hgr : (W.alloc tmp).grownBy w1 v.ownBlock) :
    Boxed w1 B 76 v ∧ KeepsFrom b W (w1.setCell ⟨B, 0, none⟩ v') ∧ KeepsB n₀ Bn m W (w1.setCell ⟨B, 0, none⟩ v') ∧ Between n₀ B Bn bv w f (pre ++ [x]) (w1.setCell ⟨B, 0, none⟩ v') := by
  have hnW : n₀ ≤ W.heap.size := Nat.le_trans hn h4.size
  have hap := h2.apart h1 (by decide)
  have hapn := h2.apart h3 (by decide)
  have hv1 : Boxed w1 B 76 v := (h1.alloc tmp).kept hgr (hap.elim (fun e => by rw [e]; simp) (fun e => Ne.symm e))
  have hn1 : Boxed w1 Bn 23 bv := (h3.alloc tmp).kept hgr (hapn.elim (fun e => by rw [e]; simp) (fun e => Ne.symm e))
  have hn2 : Boxed (w1.setCell ⟨B, 0, none⟩ v') Bn 23 bv := hn1.other hne v'
  have hv2 : Boxed (w1.setCell ⟨B, 0, none⟩ v') B 76 v' := hv1.set v'
  have hs2 : Segs (w1.setCell ⟨B, 0, none⟩ v') n₀ v' (f (pre ++ [x])) := by
    refine hs.kept (grownBy_setCell' w1 B v') (hs.apart hv1 (by decide)) (fun k e i n hc => ?_)
    obtain rfl : B = k := by injection e
    rw [show w1.cell? ⟨B, i, none⟩ = (#[v] : Array Value)[i]? from cell_of_row w1 B i #[v] _ _ hv1] at hc
    obtain ⟨A, c, rfl, _⟩ := h2.form
    match i with
    | 0 => simp at hc
    | i + 1 => simp at hc
  have hbl : Below n₀ W (w1.setCell ⟨B, 0, none⟩ v') := (((Below.refl n₀ W).alloc hnW tmp).grown hgr (by simp; omega) (fun k e => (h2.1.lt k e).1)).setCell (p := ⟨B, 0, none⟩) hB v'
  refine ⟨hv1, ?_, ⟨hbl, ?_, fun k hk hk2 => ?_⟩, ⟨v', hv2, hs2⟩, hn2, h4.trans hbl⟩
  · refine (((KeepsOthers.alloc W tmp).trans (KeepsOthers.of_grownBy hgr fun j o ej hj => ?_)).trans (KeepsOthers.setCell _ _ _)).from _
    rcases (h2.alloc tmp).1.2 with ⟨rfl, _⟩ | ⟨g, cap, cur, rfl, _, hgb, _⟩
    · simp [Value.ownBlock] at ej
    · obtain rfl : g = j := by simpa [Value.ownBlock] using ej
      rw [hgb] at hj
      cases hj
      rfl
  · exact hn2.trans (show W.heap[Bn]? = _ from h3).symm
  · rw [Below.heap_setCell _ ⟨B, 0, none⟩ _ k (by simp only; omega), hgr.block k (by simp; omega) (fun e => by have := hg k e.symm; omega)]
    exact Below.heap_alloc _ _ _ hk2
end
end Go.Proofs.YtimihhcidbeonaaGreat
namespace Go.Proofs.YtimihhcidbeonaaGreat
open Go.RowKit Go.Shelf
attribute [local go_sem] Oper.semAt_some
theorem Segs.mono {w : World} {n0 n : Nat} {v : Value} {ps : List Pt} (h : Segs w n0 v ps) (hn : n ≤ n0) : Segs w n v ps := by
  obtain ⟨⟨h1, h2⟩, h3, h4⟩ := h
  refine ⟨⟨h1, h2.imp id ?_⟩, h3, h4⟩
  rintro ⟨g, cap, cur, e, hg, r⟩
  exact ⟨g, cap, cur, e, Nat.le_trans hn hg, r⟩
set_option maxRecDepth 100000 in
set_option maxHeartbeats 2000000 in
theorem appendSeq_any (A : Option Addr) (c : Nat) (xs : List Int) (hsm : xs.length ≤ 100000000000) (hbx : ∀ x ∈ xs, 0 ≤ x ∧ x < 256) (Bn : Nat) (w : World) (hBn : Boxed w Bn 23 (.slice A xs.length c)) (hlt : Bn < w.heap.size) (hrow : Row w w.heap.size (.slice A xs.length c) xs) :
    Calls Tryz.prog 177 #[.slice none 0 0, .func (.func 134) #[] #[.pointer (some ⟨Bn, 0, none⟩)]] w (Collected xs w) := by
  obtain ⟨i0, hi, hz0, hz1, hz2⟩ := info_parts Tryz.infoSeg
  refine (callsIn_wide (n := 5)).1 ?_
  refine callsIn_of_wp_marks Tryz.func177 rfl trivial ?_ rfl
  simp only [Tryz.ntmps177, List.size_toArray, List.length_cons, List.length_nil, Nat.reduceAdd, Nat.reduceSub, Array.replicate_succ, Array.replicate_zero, List.push_toArray, List.append_toArray, List.nil_append, List.cons_append]
  gi_wp2
  have hbw : Below w.heap.size w (w.alloc (.cells #[.slice none 0 0] 76)) := (Below.refl _ _).alloc (Nat.le_refl _) _
  have hB0 := Boxed.new w 76 (.slice none 0 0)
  have hBn1 : Boxed (w.alloc (.cells #[.slice none 0 0] 76)) Bn 23 (.slice A xs.length c) := (hbw.block Bn hlt).trans hBn
  have hs1 : (w.alloc (.cells #[.slice none 0 0] 76)).heap.size = w.heap.size + 1 := World.size_alloc _ _
  refine range_told rfl (by omega) (gf := 134) (lb := #[.pointer (some ⟨Bn, 0, none⟩)]) rfl trivial (enters_of Tryz.func134 (by kernel_rfl) rfl)
    (parts_hands (5 - 1) (by omega) Bn w.heap.size A c xs (by omega) hbx _ hBn1.cell (by omega) (by omega) (hrow.below hbw)) (fun _ => rfl) (fun h k => h.trans k) (fun m W l o o' hl hm h hc => KeepsB.turn (w := w.alloc (.cells #[.slice none 0 0] 76)) (by omega) (by omega) m W l o o' hl hm h hc)
    (Between w.heap.size w.heap.size Bn (.slice A xs.length c) w id) (between_own (Nat.le_refl _) (by omega)) ⟨⟨_, hB0, Segs.nil _ _⟩, hBn1, hbw⟩
    (InRound w.heap.size w.heap.size Bn (.slice A xs.length c) w xs id (fun x q => { tmps := #[.slice none 0 0, .func (.func 134) #[] #[.pointer (some ⟨Bn, 0, none⟩)], .pointer (some ⟨w.heap.size, 0, none⟩), undef, .slice none 0 0, .pointer (some ⟨q, 0, none⟩), .func (.func 134) #[] #[.pointer (some ⟨Bn, 0, none⟩)], x.val, undef, undef, undef, undef, undef], defers := [] }))
    (fun m pre x a' => inRound_own (Nat.le_refl _) (by omega)) ?take ?body ?done
  case take =>
    rintro l pre x W0 W K hI hb hR _ hK
    obtain ⟨h1, h2, h3⟩ := taken_round (b := (w.alloc (.cells #[.slice none 0 0] 76)).heap.size) (fr := (fun x q => { tmps := #[.slice none 0 0, .func (.func 134) #[] #[.pointer (some ⟨Bn, 0, none⟩)], .pointer (some ⟨w.heap.size, 0, none⟩), undef, .slice none 0 0, .pointer (some ⟨q, 0, none⟩), .func (.func 134) #[] #[.pointer (some ⟨Bn, 0, none⟩)], x.val, undef, undef, undef, undef, undef], defers := [] })) hI hb hR (Nat.le_refl _)
    have HK := Lib.hid (hK _ _ h1 h2 h3)
    clear hK h1 h2 h3 hI hb hR hrow hbx hBn hBn1 hB0 hbw
    gi_wp2
    exact HK.out
  case body =>
    rintro l m pre x a' W ⟨q, v, rfl, hq, hmq, hBm, hg, hv, hseg, hbn, hbe, hx⟩ hlen
    have hbl : Below W.heap.size W (W.alloc (.cells #[.int .i64 x.s.frm, .int .i64 x.s.n, .bool x.s.isf, .int .i64 x.s.kind, .slice x.A x.s.pay.length x.c] 80)) := (Below.refl _ _).alloc (Nat.le_refl _) _
    have happ := fun v' w1 (hs : Segs w1 w.heap.size v' (id (pre ++ [x]))) (hgr : (W.alloc (.cells #[.int .i64 x.s.frm, .int .i64 x.s.n, .bool x.s.isf, .int .i64 x.s.kind, .slice x.A x.s.pay.length x.c] 80)).grownBy w1 v.ownBlock) =>
      laid_round (b := (w.alloc (.cells #[.slice none 0 0] 76)).heap.size) (m := m) hv hseg hbn hbe (Nat.le_refl _) (Nat.le_refl _) hBm hg (Nat.ne_of_lt hlt) hs hgr
    have HAPP := Lib.hid happ
    have HSEG := Lib.hid (hseg.below hbl)
    have HX := Lib.hid (hx.1.below hbl)
    have hcells : ∀ (j : Nat) (u : Value), x.cells[j]? = some u → (W.alloc (.cells #[.int .i64 x.s.frm, .int .i64 x.s.n, .bool x.s.isf, .int .i64 x.s.kind, .slice x.A x.s.pay.length x.c] 80)).cell? ((⟨W.heap.size, 0, none⟩ : Addr).add j) = some u := by
      intro j u hj
      rw [Go.WideShapes.add_plain, Nat.zero_add, cell_of_row _ W.heap.size j _ _ (0, 0) (heap_alloc_new W _)]
      simpa [Pt.cells] using hj
    have HCELLS := Lib.hid hcells
    have hle : w.heap.size ≤ W.heap.size := hbe.size
    have HN := Lib.hid hlen
    have hc0 := hq.cell 0
    have hc1 := hq.cell 1
    have hc2 := hq.cell 2
    have hc3 := hq.cell 3
    have hc4 := hq.cell 4
    simp at hc0 hc1 hc2 hc3 hc4
    have hcB := hv.cell
    clear hq hv hseg hbn hbe hx hlen hcells happ hbl hrow hbx hBn hBn1 hB0 hbw
    gi_wp2_with (gi_at_builtin; refine wpListIn_append_seg rfl _ _ 76 rfl i0 _ Tryz.underlying76 hi hz0 hz1 (by omega) rfl w.heap.size v pre rfl HSEG.out ⟨W.heap.size, 0, none⟩ 1 x rfl HCELLS.out HX.out (by have := HN.out; omega) (by simp; omega) ?_
                 intro v' w1 hs1' hgr; obtain ⟨hv1, hkf, hkp, hbt⟩ := HAPP.out v' w1 hs1' hgr
                 obtain ⟨A1, c1, ev, _⟩ := hs1'.form
                 rw [show (pre ++ [x]).length = pre.length + 1 by simp] at ev
                 subst ev
                 have hc1' := hv1.cell; have hf1' := hv1.frozen; have HKF := Lib.hid hkf; have HKP := Lib.hid hkp; have HBT := Lib.hid hbt; clear hkf hkp hbt hs1' hgr hv1)
    exact ⟨HKF.out, HKP.out, HBT.out⟩
  case done =>
    rintro D ys W hD hS ⟨⟨v, hv, hseg⟩, hbn, hbe⟩ hK
    have hc := hv.cell
    gi_wp2
    refine ⟨by simp, .inl ⟨_, _, rfl, run_takeDeferred hK, ?_⟩⟩
    exact ⟨_, results_tmp rfl _ _ _, v, ys, rfl, hS, hseg.putObj _ hK rfl, hbe.trans (belowK_b (w := w) (Nat.le_refl _) W D _ _ (by omega) hK rfl rfl)⟩
set_option maxRecDepth 100000 in
theorem collect_any (A : Option Addr) (c : Nat) (xs : List Int) (hsm : xs.length ≤ 100000000000) (hbx : ∀ x ∈ xs, 0 ≤ x ∧ x < 256) (Bn : Nat) (w : World) (hBn : Boxed w Bn 23 (.slice A xs.length c)) (hlt : Bn < w.heap.size) (hrow : Row w w.heap.size (.slice A xs.length c) xs) :
    Calls Tryz.prog 130 #[.func (.func 134) #[] #[.pointer (some ⟨Bn, 0, none⟩)]] w (Collected xs w) := by
  have HA := Lib.hid (appendSeq_any A c xs hsm hbx Bn w hBn hlt hrow)
  clear hBn hrow hbx
  go_enter Tryz.func130, Tryz.ntmps130
  go_wp2_with fail
  refine HA.out.mono ?_
  rintro e w1 ⟨v, ps, rfl, h1, h2, h3⟩
  go_wp2_with fail
  go_ret
  exact ⟨v, ps, rfl, h1, h2, h3⟩
set_option maxRecDepth 100000 in
/-- segs.Of: the parts of bytes, in new memory. -/
theorem of_any (A : Option Addr) (c : Nat) (xs : List Int) (hsm : xs.length ≤ 100000000000) (w : World) (hrow : Row w w.heap.size (.slice A xs.length c) xs) (hbx : ∀ x ∈ xs, 0 ≤ x ∧ x < 256) :
    Calls Tryz.prog 79 #[.slice A xs.length c] w (Collected xs w) := by
  have hbw : Below w.heap.size w (w.alloc (.cells #[.slice A xs.length c] 23)) := (Below.refl _ _).alloc (Nat.le_refl _) _
  have HC := Lib.hid (collect_any A c xs hsm hbx w.heap.size _ (Boxed.new w 23 (.slice A xs.length c)) (by simp) ((hrow.below hbw).more (by simp)))
  have HB := Lib.hid hbw
  clear hrow hbx hbw
  go_enter Tryz.func79, Tryz.ntmps79
  go_wp2_with fail
  refine (parts_any _ _ _ _).mono ?_
  rintro e w1 ⟨rfl, rfl⟩
  go_wp2_with fail
  refine HC.out.mono ?_
  rintro e w1 ⟨v, ps, rfl, h1, h2, h3⟩
  have H1 := Lib.hid h1
  have H2 := Lib.hid h2
  have H3 := Lib.hid h3
  clear h1 h2 h3
  go_wp2_with fail
  go_ret
  refine ⟨v, ps, rfl, H1.out, H2.out.mono (by simp), HB.out.trans (H3.out.mono (by simp))⟩
end Go.Proofs.YtimihhcidbeonaaGreat

namespace Go.Proofs.YtimihhcidbeonaaGreat
open Go.RowKit Go.ChangeShapes Go.WideShapes
set_option linter.unusedVariables false
theorem ofG_same {xs : List Int} {g g' : Gp} (h : ofG xs g) (h' : ofG xs g') : g = g' := by
  obtain ⟨l, h1, rfl⟩ := h
  obtain ⟨l', h2, rfl⟩ := h'
  rw [h1.same h2]
theorem ofG_right {xs : List Int} {g : Gp} (hx : ∀ x ∈ xs, 0 ≤ x ∧ x < 256) (h : ofG xs g) : Ig g := by
  obtain ⟨l, h1, rfl⟩ := h
  refine Ig.zero.take fun s hs => ?_
  obtain ⟨p, hp, rfl⟩ := List.mem_map.1 hs
  exact (parts_pay hx h1 p hp).2
theorem Bd.zero : Bd 0 noG := ⟨by simp [noG], by simp [noG], by simp [noG], by simp [noG]⟩
theorem ofG_most {xs : List Int} {g : Gp} (hx : ∀ x ∈ xs, 0 ≤ x ∧ x < 256) (hl : xs.length ≤ 1000000000) (hpl : ∀ l, PartsS xs 0 l → l.length ≤ 100000) (h : ofG xs g) : g.pts.length ≤ 1000000000 ∧ g.rej.length ≤ 1000000000 := by
  obtain ⟨l, h1, rfl⟩ := h
  have hle := h1.le hx
  have h2 := Bd.zero.take (l := l.map sgJ) (fun s hs => by
    obtain ⟨p, hp, rfl⟩ := List.mem_map.1 hs
    have := hle.2.2 p hp
    exact ⟨by show (-1099511627776 : Int) ≤ (p.n : Int); omega, by show (p.n : Int) ≤ 1099511627776; omega⟩) (l.map sgJ).length (Nat.le_refl _)
  rw [List.take_length] at h2
  have h3 := hpl l h1
  have h4 := h2.pts
  have h5 := h2.rej
  rw [List.length_map] at h4 h5
  exact ⟨by omega, by omega⟩
theorem ofG_bound {xs : List Int} {g : Gp} (hx : ∀ x ∈ xs, 0 ≤ x ∧ x < 256) (hl : xs.length ≤ 100000) (h : ofG xs g) : g.pts.length ≤ 1000000000 ∧ g.rej.length ≤ 1000000000 :=
  ofG_most hx (by omega) (fun l hp => Nat.le_trans (hp.le hx).1 hl) h
theorem takeL_rej {g : Gp} {l : List Sj} (h : ∀ x ∈ g.rej, x.2 ≠ 0) : ∀ x ∈ (takeL g l).rej, x.2 ≠ 0 := by
  induction l generalizing g with
  | nil => exact h
  | cons s l ih =>
    refine ih ?_
    unfold takeS
    split
    · exact h
    · split
      · rename_i h2
        intro x hx
        rcases List.mem_append.1 hx with hx | hx
        · exact h x hx
        · rw [List.mem_singleton.1 hx]
          exact h2
      · exact h
theorem ofG_rej {xs : List Int} {g : Gp} (h : ofG xs g) : ∀ x ∈ g.rej, x.2 ≠ 0 := by
  obtain ⟨l, -, rfl⟩ := h
  exact takeL_rej (by simp [noG])
/-- Parts of bytes stay where no byte is turned. -/
theorem segs_part {w W' : World} {n0 t : Nat} {v : Value} {ps : List Pt} (h : Segs w n0 v ps) (ht : t < n0) (hc : ∀ (i : Nat) (n : Int), w.cell? ⟨t, i, none⟩ ≠ some (.int .u8 n)) (hp : PartN (fun j => j = t) w W') : w.heap.size ≤ W'.heap.size ∧ W'.ownsRow n0 80 5 v ps.length (flatS ps) ∧ ∀ p ∈ ps, p.Reads W' W'.heap.size := by
  refine ⟨hp.size, own_part h.1 hp (fun j hj e => by omega), fun p hpm => ?_⟩
  exact Row.more (Row.keep_but (h.2.2 p hpm) (fun k hk hne => hp.block k hk hne) hc) hp.size
theorem jrow_part {w W' : World} {n0 t : Nat} {v : Value} {xs : List Int} {ps : List Pt} (hx : ∀ x ∈ xs, 0 ≤ x ∧ x < 256) (hl : xs.length ≤ 1000000000) (hps : PartsS xs 0 (ps.map (·.s))) (h : Segs w n0 v ps) (ht : t < n0) (hc : ∀ (i : Nat) (n : Int), w.cell? ⟨t, i, none⟩ ≠ some (.int .u8 n)) (hp : PartN (fun j => j = t) w W') : JRow W' W'.heap.size v (ps.map toJ) := by
  obtain ⟨h1, h2, h3⟩ := segs_part h ht hc hp
  have hle := hps.le hx
  have hpay := parts_pay hx hps
  refine ⟨by rw [List.length_map, flatS5_pt]; exact ERow.of_own h2, fun x hxm => ?_⟩
  obtain ⟨p, hpm, rfl⟩ := List.mem_map.1 hxm
  have k1 := hle.2.2 p.s (List.mem_map_of_mem hpm)
  have k2 := hpay p.s (List.mem_map_of_mem hpm)
  exact ⟨h3 p hpm, k2.2, by show p.s.pay.length ≤ _; omega, by show (-1099511627776 : Int) ≤ (p.s.n : Int); omega, by show (p.s.n : Int) ≤ 1099511627776; omega⟩
theorem held_no_byte {w : World} {t : Nat} {ty : TypeId} {A1 A2 A3 : Option Addr} {n1 n2 n3 c1 c2 c3 : Nat} {a b : Int} (h : Held w t ty #[.slice A1 n1 c1, .slice A2 n2 c2, .int .i64 a, .int .i64 b, .slice A3 n3 c3]) (i : Nat) (n : Int) : w.cell? ⟨t, i, none⟩ ≠ some (.int .u8 n) := by
  rw [h.cell i]
  rcases i with _ | _ | _ | _ | _ | i <;> simp
section
variable {w : World} {R : Nat} {a b c d e : Value} {T : Array Value}
theorem res_ofc (h : T[2]?.getD undef = .pointer (some ⟨R, 0, none⟩)) (hz : Held w R 64 #[a, b, c, d, e]) :
    (results Tryz.f33 T).run Tryz.prog w = .ok (.agg #[a, b, c, d, e]) w := by
  have z0 := hz.cell 0
  have z1 := hz.cell 1
  have z2 := hz.cell 2
  have z3 := hz.cell 3
  have z4 := hz.cell 4
  simp at z0 z1 z2 z3 z4
  simp [results, Tryz.results33, go_sem, h, z0, z1, z2, z3, z4]
end
/-- What Of answers. -/
def OfGot (xs : List Int) (w : World) (e : Ending) (w' : World) : Prop := ∃ g, ofG xs g ∧ GtGot w g e w'
section
variable (A : Option Addr) (c : Nat) (xs : List Int)
set_option maxRecDepth 100000 in
set_option maxHeartbeats 2000000 in
theorem readOf_most (hb : ∀ x ∈ xs, 0 ≤ x ∧ x < 256) (hl : xs.length ≤ 1000000000) (hpl : ∀ l, PartsS xs 0 l → l.length ≤ 100000) (w : World) (hrow : Row w w.heap.size (.slice A xs.length c) xs) :
    Calls Tryz.prog 33 #[.slice A xs.length c] w (OfGot xs w) := by
  obtain ⟨N, hN⟩ : ∃ N, w.heap.size = N := ⟨_, rfl⟩
  obtain ⟨u0, hu0⟩ : ∃ u, w.alloc (.cells #[.slice none 0 0, .slice none 0 0, .int .i64 0, .int .i64 0, .slice none 0 0] 64) = u := ⟨_, rfl⟩
  have s0 : u0.heap.size = N + 1 := by rw [← hu0, World.size_alloc, hN]
  have b0 : Below w.heap.size w u0 := by rw [← hu0]; exact (Below.refl _ _).alloc (Nat.le_refl _) _
  have k0 : Held u0 N 64 #[.slice none 0 0, .slice none 0 0, .int .i64 0, .int .i64 0, .slice none 0 0] := by rw [← hu0, ← hN]; exact heap_alloc_new w _
  have HNW := Lib.hid (rnew_any u0)
  rw [s0] at HNW
  have HSO := Lib.hid (fun W (hW : Below w.heap.size w W) => of_any A c xs (by omega) W ((hrow.below hW).more hW.size) hb)
  have HK0 := Lib.hid k0
  have HB0 := Lib.hid b0
  have HXB := Lib.hid hb
  have HN := Lib.hid hN
  have HPL := Lib.hid hpl
  clear hrow hb k0 b0 hpl
  unfold OfGot
  go_enter Tryz.func33, Tryz.ntmps33
  go_wp2_with fail
  refine HNW.out.mono ?_
  rintro e w1 ⟨rfl, h1, hb1⟩
  have z1 := h1.held.lt
  have HT1 := Lib.hid h1
  have HB1 := Lib.hid (HB0.out.trans (hb1.mono (by omega)))
  have HK1 := Lib.hid (HK0.out.below hb1 (by omega))
  have HS1 := Lib.hid (HSO.out w1 HB1.out)
  clear h1 hb1
  go_wp2_with fail
  refine HS1.out.mono ?_
  rintro e w2 ⟨v, ps, rfl, hparts, hsegs, hb2⟩
  have hz2 := hb2.size
  obtain ⟨A1, c1, rfl⟩ := own_form hsegs.1
  have ht2 := HT1.out.below hb2
  have hj := fun W' (hp : PartN (TS (N + 1) none none) w2 W') => jrow_part HXB.out hl hparts hsegs z1 (fun i n => by have h := ht2.held; exact held_no_byte h i n) (PartN.more hp (fun j hj => by
    rcases hj with hj | hj | hj
    · exact hj
    · cases hj
    · cases hj))
  have hle := HPL.out _ hparts
  rw [List.length_map] at hle
  have HTK := Lib.hid (rtake_any ht2 Ig.zero Bd.zero A1 c1 (ps.map toJ) (by rw [List.length_map]; exact hj) (by rw [List.length_map]; omega))
  rw [List.length_map, List.map_map] at HTK
  have HOG := Lib.hid (show ofG xs (takeL noG (ps.map ((·.s) ∘ toJ))) from ⟨_, hparts, by rw [List.map_map]; rfl⟩)
  have HB2 := Lib.hid (HB1.out.trans (hb2.mono HB1.out.size))
  have HK2 := Lib.hid (HK1.out.below hb2 (by omega))
  generalize takeL noG (ps.map ((·.s) ∘ toJ)) = g at HTK HOG
  clear ht2 hj hparts hsegs hb2 hle
  go_wp2_with fail
  refine HTK.out.mono ?_
  rintro e w3 ⟨rfl, SA, Sc, es, PA, Pc, qs, RA, Rc, h3, hp3, hs3⟩
  have hbd := ofG_most HXB.out hl HPL.out HOG.out
  have HG3 := Lib.hid (rgot_any h3 (ofG_right HXB.out HOG.out).trc (by rw [← h3.ptsp, List.length_map] at hbd; exact hbd.1) hbd.2)
  have hlow : ∀ i, i < N + 1 → ¬ TS (N + 1) none none i := fun i hi e => by
    rcases e with e | e | e
    · omega
    · cases e
    · cases e
  have hb3 : Below (N + 1) w2 w3 := hp3.low (by omega) hlow
  have HB3 := Lib.hid (HB2.out.trans (hb3.mono (by omega)))
  have HK3 := Lib.hid (HK2.out.below hb3 (by omega))
  clear h3 hp3 hs3 hb3 hbd
  go_wp2_with fail
  refine HG3.out.mono ?_
  rintro e w4 ⟨SA2, Sc2, es2, PA2, Pc2, qs2, RA2, Rc2, rfl, hg4, hb4⟩
  have hz3 := HB3.out.size
  have k4 := HK3.out.below hb4 HK3.out.lt
  have g0 := k4.frozen 0
  have g1 := k4.frozen 1
  have g2 := k4.frozen 2
  have g3 := k4.frozen 3
  have g4 := k4.frozen 4
  have c0 := k4.cell 0
  have c1' := k4.cell 1
  have c2 := k4.cell 2
  have c3 := k4.cell 3
  have c4 := k4.cell 4
  have lN := k4.lt
  simp at c0 c1' c2 c3 c4
  have HK4 := Lib.hid k4
  have HG4 := Lib.hid hg4
  have hN3 := HK3.out.lt
  have HB4 := Lib.hid (HB3.out.trans (hb4.mono HB3.out.size))
  clear k4 hg4 hb4
  go_wp2_with fail
  refine bodyPost_ret (v := GW g SA2 Sc2 es2 PA2 Pc2 qs2 RA2 Rc2) ?_ rfl ?_
  · exact res_ofc (R := N) (by simp only [List.getElem?_toArray, List.getElem?_cons_zero, List.getElem?_cons_succ, Option.getD_some]) (held_put5 HK4.out _ _ _ _ _)
  · refine ⟨g, HOG.out, SA2, Sc2, es2, PA2, Pc2, qs2, RA2, Rc2, rfl, ?_, ?_⟩
    · exact (HG4.out.kept (grown_put5 w4 N _ _ _ _ _) hN3).base hz3
    · exact HB4.out.grown (grown_put5 w4 N _ _ _ _ _) HB4.out.size (fun j e => by injection e with e; have := HN.out; omega)
theorem readOf_any (hb : ∀ x ∈ xs, 0 ≤ x ∧ x < 256) (hl : xs.length ≤ 100000) (w : World) (hrow : Row w w.heap.size (.slice A xs.length c) xs) :
    Calls Tryz.prog 33 #[.slice A xs.length c] w (OfGot xs w) := readOf_most A c xs hb (by omega) (fun l hp => Nat.le_trans (hp.le hb).1 hl) w hrow
/-- What Trace answers of what was read. -/
def trcE (g : Gp) : Int := if 0 < g.sk then 5 else if 0 < g.rej.length then (g.rej.getD 0 (0, 0)).2 else if g.isg = false then 10 else 0
def TrcGot (xs : List Int) (w : World) (e : Ending) (w' : World) : Prop := ∃ g SA Sc es PA Pc ps, ofG xs g ∧ e = .returned (.tuple #[.slice SA es.length Sc, .slice PA ps.length Pc, .int .i64 (trcE g)]) ∧
  PredRow w' w'.heap.size (.slice SA es.length Sc) es ∧ TrRow w' w'.heap.size (.slice PA ps.length Pc) ps ∧ (trcE g = 0 → es.map (·.p) = g.sig ∧ ps.map (·.p) = g.pts) ∧ (trcE g ≠ 0 → es = [] ∧ ps = []) ∧ Below w.heap.size w w'
set_option maxRecDepth 100000 in
set_option maxHeartbeats 2000000 in
theorem readTrace_most (hb : ∀ x ∈ xs, 0 ≤ x ∧ x < 256) (hl : xs.length ≤ 1000000000) (hpl : ∀ l, PartsS xs 0 l → l.length ≤ 100000) (w : World) (hrow : Row w w.heap.size (.slice A xs.length c) xs) :
    Calls Tryz.prog 31 #[.slice A xs.length c] w (TrcGot xs w) := by
  have HOF := Lib.hid (readOf_most A c xs hb hl hpl w hrow)
  have HRT := Lib.hid (fun g (h : ofG xs g) => ofG_right hb h)
  have HBN := Lib.hid (fun g (h : ofG xs g) => ofG_most hb hl hpl h)
  clear hb hrow hpl
  unfold TrcGot
  go_enter Tryz.func31, Tryz.ntmps31
  go_wp2_with fail
  refine HOF.out.mono ?_
  rintro e w1 ⟨g, hof, SA, Sc, es, PA, Pc, ps, RA, Rc, rfl, hg1, hb1⟩
  have hR := (HBN.out g hof).2
  have hisg := (HRT.out g hof).isg
  have HOG := Lib.hid hof
  obtain ⟨u, hu⟩ : ∃ u, w1.alloc (.cells #[.slice SA es.length Sc, .slice PA ps.length Pc, .int .i64 g.sk, .int .i64 g.fr, .slice RA g.rej.length Rc] 64) = u := ⟨_, rfl⟩
  have bu : Below w1.heap.size w1 u := by rw [← hu]; exact (Below.refl _ _).alloc (Nat.le_refl _) _
  have ku : Held u w1.heap.size 64 #[.slice SA es.length Sc, .slice PA ps.length Pc, .int .i64 g.sk, .int .i64 g.fr, .slice RA g.rej.length Rc] := by rw [← hu]; exact heap_alloc_new w1 _
  have hgu := hg1.below bu
  have x0 := ku.cell 0
  have x1 := ku.cell 1
  have x2 := ku.cell 2
  have x3 := ku.cell 3
  have x4 := ku.cell 4
  simp at x0 x1 x2 x3 x4
  have HGU := Lib.hid hgu
  have HKU := Lib.hid ku
  have HBU := Lib.hid (hb1.trans (bu.mono hb1.size))
  have HSG := Lib.hid (gsigned_any u SA es.length Sc PA ps.length Pc g.sk g.fr RA g.rej.length Rc g.isg hisg)
  have hrw := ERow.of_own hgu.rej
  clear hof hg1 hb1 bu ku hgu hisg
  by_cases hs : 0 < g.sk
  · have he : trcE g = 5 := by unfold trcE; rw [if_pos hs]
    have hs2 : g.sk > 0 := hs
    clear hrw
    go_wp2_with fail
    refine bodyPost_ret (v := .tuple #[.slice none 0 0, .slice none 0 0, .int .i64 5]) (by simp [results, Tryz.results31, go_sem]) rfl ?_
    exact ⟨g, none, 0, [], none, 0, [], HOG.out, by rw [he]; rfl, PredRow.nil _ _, ⟨ERow.nil _ _, by simp⟩, fun e => by rw [he] at e; exact absurd e (by decide), fun _ => ⟨rfl, rfl⟩, HBU.out⟩
  · have hs2 : ¬ g.sk > 0 := hs
    by_cases hr : 0 < g.rej.length
    · obtain ⟨d, hd⟩ : ∃ d, g.rej[0]? = some d := ⟨_, List.getElem?_eq_getElem hr⟩
      have he : trcE g = d.2 := by unfold trcE; rw [if_neg hs, if_pos hr]; simp only [List.getD, hd, Option.getD_some]
      have hdn : d.2 ≠ 0 := ofG_rej HOG.out d (List.mem_of_getElem? hd)
      obtain ⟨b, o, rfl, hbl, hc⟩ := hrw.block hr
      have v1 := hc 1 _ (by have := (flatJ_at g.rej 0 d hd).2; simpa using this)
      have hr2 : (g.rej.length : Int) > 0 := by omega
      have hr3 : (0 : Int) < g.rej.length := by omega
      have HE := Lib.hid he
      have HD := Lib.hid hdn
      obtain ⟨M, hM⟩ : ∃ M, g.rej.length = M := ⟨_, rfl⟩
      rw [hM] at x4 hr2 hr3 hr hR
      clear hrw hd he hdn hM
      go_wp2_with fail
      go_region
      all_goals (
      go_wp2_with fail
      refine bodyPost_ret (v := .tuple #[.slice none 0 0, .slice none 0 0, .int .i64 d.2]) (by simp [results, Tryz.results31, go_sem]) rfl ?_
      exact ⟨g, none, 0, [], none, 0, [], HOG.out, by rw [HE.out]; rfl, PredRow.nil _ _, ⟨ERow.nil _ _, by simp⟩, fun e => by rw [HE.out] at e; exact absurd e HD.out, fun _ => ⟨rfl, rfl⟩, HBU.out.trans ((Below.refl _ _).drew)⟩)
    · have hr2 : ¬ (g.rej.length : Int) > 0 := by omega
      have hr3 : ¬ (0 : Int) < g.rej.length := by omega
      have he : trcE g = if g.isg = false then 10 else 0 := by unfold trcE; rw [if_neg hs, if_neg hr]
      clear hrw
      obtain ⟨M, hM⟩ : ∃ M, g.rej.length = M := ⟨_, rfl⟩
      have HSG2 := HSG.out
      rw [hM] at x4 hr2 hr3 hr hR HSG2
      clear HSG
      have HS2 := Lib.hid HSG2
      clear HSG2
      cases hi : g.isg with
      | false =>
        rw [hi] at HS2
        rw [if_pos hi] at he
        have HE := Lib.hid he
        clear hi he hM
        go_wp2_with fail
        refine HS2.out.mono ?_
        rintro e w2 ⟨rfl, hb2⟩
        have HB2 := Lib.hid (HBU.out.trans (hb2.mono HBU.out.size))
        clear hb2
        go_wp2_with fail
        refine bodyPost_ret (v := .tuple #[.slice none 0 0, .slice none 0 0, .int .i64 10]) (by simp [results, Tryz.results31, go_sem]) rfl ?_
        exact ⟨g, none, 0, [], none, 0, [], HOG.out, by rw [HE.out]; rfl, PredRow.nil _ _, ⟨ERow.nil _ _, by simp⟩, fun e => by rw [HE.out] at e; exact absurd e (by decide), fun _ => ⟨rfl, rfl⟩, HB2.out⟩
      | true =>
        rw [hi] at HS2
        rw [if_neg (by rw [hi]; decide)] at he
        have HE := Lib.hid he
        clear hi he hM
        go_wp2_with fail
        refine HS2.out.mono ?_
        rintro e w2 ⟨rfl, hb2⟩
        have HB2 := Lib.hid (HBU.out.trans (hb2.mono HBU.out.size))
        have HG2 := Lib.hid ((HGU.out.below hb2).below (Below.refl _ _).drew)
        have k2 := HKU.out.below hb2 HKU.out.lt
        clear x0 x1 x2 x3 x4
        have x0 := k2.cell 0
        have x1 := k2.cell 1
        simp at x0 x1
        clear hb2 k2
        go_wp2_with fail
        go_region
        all_goals (
        go_wp2_with fail
        refine bodyPost_ret (v := .tuple #[.slice SA es.length Sc, .slice PA ps.length Pc, .int .i64 0]) (by simp [results, Tryz.results31, go_sem]) rfl ?_
        exact ⟨g, SA, Sc, es, PA, Pc, ps, HOG.out, by rw [HE.out], HG2.out.sig.row, HG2.out.pts.row, fun _ => ⟨HG2.out.sigp, HG2.out.ptsp⟩, fun e => absurd HE.out e, HB2.out.trans (Below.refl _ _).drew⟩)
end
end Go.Proofs.YtimihhcidbeonaaGreat

namespace Go.Proofs.YtimihhcidbeonaaGreat
open Go.RowKit Go.ChangeShapes Go.WideShapes
set_option linter.unusedVariables false
section
variable {sig : List Pr} {ps : List Pm} {most : Int} {L : List (List Pm)}
theorem blk_right (hc : COk sig ps most) (h : BlkOf sig ps most L) : (∀ b ∈ L, BOk b ∧ 0 < b.length ∧ (putB sig b).2 = 0) ∧ L.flatten.map (·.p) = ps.map (·.p) ∧ L.length ≤ ps.length := by
  obtain ⟨h1, h2⟩ := h
  have hg : GoodC sig most L := GoodC.same h1.symm (COk.cut _ hc rfl).good
  have hf := (cutsC_flat _ rfl hc).1
  refine ⟨fun b hb => ?_, ?_, ?_⟩
  · obtain ⟨i, hi⟩ := List.mem_iff_getElem?.1 hb
    obtain ⟨b1, b2, b3, b4⟩ := (hg i b hi).1
    obtain ⟨c1, c2, c3⟩ := checkB_zero (putB_ok b4).1
    exact ⟨bok_of c2 c3 (h2 b hb), b1, b4⟩
  · rw [List.map_flatten, h1, ← List.map_flatten, hf]
  · have h3 := congrArg List.length h1
    rw [List.length_map, List.length_map] at h3
    have h4 := COk.length hc _ rfl
    unfold cutsC at h3
    rw [cutsOf_length] at h3
    omega
theorem blkX_bytes (h : BlkOf sig ps most L) : ∀ x ∈ blkX sig L, 0 ≤ x ∧ x < 256 := by
  intro x hx
  unfold blkX at hx
  obtain ⟨y, hy, hxy⟩ := List.mem_flatten.1 hx
  rcases List.mem_cons.1 hy with rfl | hy
  · exact frameS_bytes sig x hxy
  · obtain ⟨b, hb, rfl⟩ := List.mem_map.1 hy
    exact frB_bytes sig (h.2 b hb) x hxy
theorem flat_le : ∀ (M : List (List Int)), (∀ y ∈ M, y.length ≤ 4200) → M.flatten.length ≤ 4200 * M.length
  | [], _ => by simp
  | y :: M, h => by
    have h1 := flat_le M (fun z hz => h z (List.mem_cons_of_mem _ hz))
    have h2 := h y (List.mem_cons_self ..)
    rw [List.flatten_cons, List.length_append, List.length_cons]
    omega
theorem blkX_length (sig : List Pr) (L : List (List Pm)) : (blkX sig L).length ≤ 4200 * (1 + L.length) := by
  have h := flat_le ((frameS sig).1 :: L.map (frB sig)) (fun y hy => by
    rcases List.mem_cons.1 hy with rfl | hy
    · exact frameS_length sig
    · obtain ⟨b, _, rfl⟩ := List.mem_map.1 hy
      exact frB_length sig b)
  rw [List.length_cons, List.length_map] at h
  unfold blkX
  omega
theorem blkX_parts (hc : COk sig ps most) (h : BlkOf sig ps most L) {l : List Sg} (hl : PartsS (blkX sig L) 0 l) : l.length = 1 + L.length := by
  have hb := (blk_right hc h).1
  have hs := (checkT_zero.1 hc.ok.chk).1
  have hfit : ∀ f ∈ catW sig L, Fit f := by
    intro f hf
    rcases List.mem_cons.1 hf with rfl | hf
    · exact ⟨.inl rfl, Nat.le_trans (encS_le hs).2 (by omega)⟩
    · obtain ⟨b, hb2, rfl⟩ := List.mem_map.1 hf
      exact ⟨.inr rfl, (putB_ok (hb b hb2).2.2).2.1⟩
  obtain ⟨l2, h1, h2⟩ := parts_frames (catW sig L) [] hfit
  rw [List.nil_append, catW_bytes hs (fun b h => (hb b h).2.2)] at h1
  have e := hl.same h1
  subst e
  have h3 := congrArg List.length h2
  rw [List.length_map, List.length_map] at h3
  unfold catW at h3
  rw [List.length_cons, List.length_map] at h3
  omega
theorem blkX_read (hc : COk sig ps most) (h : BlkOf sig ps most L) {g : Gp} (hg : ofG (blkX sig L) g) : g = ⟨sig, true, ps.map (·.p), 0, 1 + L.length, []⟩ := by
  obtain ⟨l, hl, hg⟩ := hg
  obtain ⟨h1, h2, _⟩ := blk_right hc h
  have hs := (checkT_zero.1 hc.ok.chk).1
  rw [← h2]
  exact back_plain hs h1 (by rw [h2]; exact hc.ok.chk) hl hg
end
end Go.Proofs.YtimihhcidbeonaaGreat

namespace Go.Proofs.YtimihhcidbeonaaGreat
open Go.RowKit Go.ChangeShapes Go.WideShapes
set_option linter.unusedVariables false
theorem ofG_nil {g : Gp} (h : ofG [] g) : g = noG := ofG_same h ⟨[], .stop 0 (Nat.le_refl _), rfl⟩
theorem ofG_one {g : Gp} (h : ofG [0] g) : g = ⟨[], false, [], 1, 0, []⟩ := ofG_same h ⟨[skipS 0 1], .rest 0 (by decide) (fun j h1 h2 hb => by
  have := begins_in (xs := [0]) (by simp) hb
  have h3 : ([0] : List Int).length = 1 := rfl
  omega), rfl⟩
theorem GAt.empty (w : World) (B : Nat) (k : Int) : GAt w B ⟨[], false, [], k, 0, []⟩ none 0 [] none 0 [] none 0 := ⟨PredRow.nil _ _, rfl, ⟨ERow.nil _ _, by simp⟩, rfl, ERow.nil _ _⟩
set_option maxRecDepth 100000 in
set_option maxHeartbeats 1000000 in
theorem fix18_any (w : World) : Calls Tryz.prog 29 #[] w fun e w' => e = .returned (.bool true) ∧ Below w.heap.size w w' := by
  have HO1 := Lib.hid (show Calls Tryz.prog 33 #[.slice none 0 0] w (OfGot [] w) from readOf_any none 0 [] (by simp) (by simp) w (Row.nil _ _))
  go_enter Tryz.func29, Tryz.ntmps29
  go_wp2_with fail
  refine HO1.out.mono ?_
  rintro e w1 ⟨g, hof, SA, Sc, es, PA, Pc, ps, RA, Rc, rfl, hg1, hb1⟩
  obtain rfl := ofG_nil hof
  have HS1 := Lib.hid (show Calls Tryz.prog 32 #[GW noG SA Sc es PA Pc ps RA Rc, .agg #[.slice none 0 0, .slice none 0 0, .int .i64 0, .int .i64 0, .slice none 0 0]] w1 (fun e w' => e = .returned (.bool true) ∧ Below w1.heap.size w1 w') from
    rgsame_any noG SA Sc es PA Pc ps RA Rc noG none 0 [] none 0 [] none 0 w1 hg1.row (GAt.empty w1 _ 0))
  have HB1 := Lib.hid hb1
  clear hof hg1 hb1
  go_wp2_with fail
  refine HS1.out.mono ?_
  rintro e w2 ⟨rfl, hb2⟩
  obtain ⟨u, hu⟩ : ∃ u, w2.alloc (.cells #[.int .u8 0] 5) = u := ⟨_, rfl⟩
  have bu : Below w2.heap.size w2 u := by rw [← hu]; exact (Below.refl _ _).alloc (Nat.le_refl _) _
  have hru : Row u u.heap.size (.slice (some ⟨w2.heap.size, 0, none⟩) 1 1) [0] := ⟨_, 1, rfl, Nat.le_refl _, by unfold maxLen; omega, fun e => (by cases e), fun _ => ⟨_, 0, rfl, by rw [← hu, World.size_alloc]; omega, fun i hi => by
    obtain rfl : i = 0 := by simpa using hi
    have hh : Held u w2.heap.size 5 #[.int .u8 0] := by rw [← hu]; exact heap_alloc_new w2 _
    exact hh.cell 0⟩⟩
  have HO2 := Lib.hid (show Calls Tryz.prog 33 #[.slice (some ⟨w2.heap.size, 0, none⟩) 1 1] u (OfGot [0] u) from readOf_any _ 1 [0] (by simp) (by simp) u hru)
  have HB2 := Lib.hid ((HB1.out.trans (hb2.mono HB1.out.size)).trans (bu.mono (Nat.le_trans HB1.out.size hb2.size)))
  clear hb2 bu hru
  go_wp2_with fail
  refine HO2.out.mono ?_
  rintro e w3 ⟨g, hof, SA3, Sc3, es3, PA3, Pc3, ps3, RA3, Rc3, rfl, hg3, hb3⟩
  obtain rfl := ofG_one hof
  have HS3 := Lib.hid (show Calls Tryz.prog 32 #[GW ⟨[], false, [], 1, 0, []⟩ SA3 Sc3 es3 PA3 Pc3 ps3 RA3 Rc3, .agg #[.slice none 0 0, .slice none 0 0, .int .i64 1, .int .i64 0, .slice none 0 0]] w3 (fun e w' => e = .returned (.bool true) ∧ Below w3.heap.size w3 w') from
    rgsame_any ⟨[], false, [], 1, 0, []⟩ SA3 Sc3 es3 PA3 Pc3 ps3 RA3 Rc3 ⟨[], false, [], 1, 0, []⟩ none 0 [] none 0 [] none 0 w3 hg3.row (GAt.empty w3 _ 1))
  have HB3 := Lib.hid (HB2.out.trans (hb3.mono HB2.out.size))
  clear hof hg3 hb3
  go_wp2_with fail
  refine HS3.out.mono ?_
  rintro e w4 ⟨rfl, hb4⟩
  have HB4 := Lib.hid (HB3.out.trans (hb4.mono HB3.out.size))
  clear hb4
  go_wp2_with fail
  go_ret
  exact ⟨rfl, HB4.out⟩
end Go.Proofs.YtimihhcidbeonaaGreat

namespace Go.Proofs.YtimihhcidbeonaaGreat
open Go.RowKit
def greatOne (p : Pr) : Bool := decide (30 < p.args.length) || decide (100 < p.name.length)
def greatP (l : List Pr) : Bool := l.any greatOne || decide (100 < l.length)
set_option maxRecDepth 100000 in
set_option maxHeartbeats 2000000 in
theorem great_any (A : Option Addr) (c : Nat) (ds : List Pd) (w : World) (hrow : PredRow w w.heap.size (.slice A ds.length c) ds) :
    Calls Tryz.prog 9 #[.slice A ds.length c] w fun e w' => e = .returned (.bool (greatP (ds.map (·.p)))) ∧ Below w.heap.size w w' := by
  obtain ⟨_, hc1, hc2⟩ : ∃ _ : True, ds.length ≤ c ∧ c ≤ 9223372036854775807 := by
    obtain ⟨A', c', hv, q1, q2⟩ := hrow.form
    injection hv with _ _ e3
    exact ⟨trivial, by omega, by omega⟩
  have hyes := fun (d : Pd) (hd : d ∈ ds) (h : greatOne d.p = true) => (show greatP (ds.map (·.p)) = true by
    unfold greatP
    rw [Bool.or_eq_true]
    exact .inl (List.any_eq_true.2 ⟨d.p, List.mem_map.2 ⟨d, hd, rfl⟩, h⟩))
  have hno := fun (h : ∀ j, j < ds.length → ∀ d, ds[j]? = some d → greatOne d.p = false) => (show greatP (ds.map (·.p)) = decide (100 < ds.length) by
    unfold greatP
    rw [List.length_map, show (ds.map (·.p)).any greatOne = false from by
      rw [List.any_eq_false]
      intro p hp
      obtain ⟨d, hd, rfl⟩ := List.mem_map.1 hp
      obtain ⟨j, hj⟩ := List.mem_iff_getElem?.1 hd
      rw [h j (List.getElem?_eq_some_iff.1 hj).1 d hj]
      simp]
    rfl)
  generalize greatP (ds.map (·.p)) = R at hyes hno ⊢
  have HY := Lib.hid hyes
  have HN := Lib.hid hno
  have HROW := Lib.hid hrow
  clear hyes hno hrow
  go_enter Tryz.func9, Tryz.ntmps9
  go_wp2_with fail
  go_loopg [7] ds.length (fun gk i wr => ∃ k : Nat, k ≤ ds.length ∧ i = .int .i64 k ∧ Hid (ds.length - k = gk) ∧ Hid (∀ j, j < k → ∀ d, ds[j]? = some d → greatOne d.p = false) ∧ Below w.heap.size w wr)
  case atStart => exact ⟨0, Nat.zero_le _, rfl, Lib.hid rfl, Lib.hid (fun j h => absurd h (Nat.not_lt_zero _)), Below.refl _ _⟩
  case round =>
    obtain ⟨k, hk, rfl, HGK, HJ, hbw⟩ := hrel
    have hsz := hbw.size
    by_cases hlt : k < ds.length
    · obtain ⟨d, hd⟩ : ∃ d, ds[k]? = some d := ⟨_, List.getElem?_eq_getElem hlt⟩
      obtain ⟨b, o, rfl, hb, x0, x1, hir, hfit, ha1, ha2⟩ := (HROW.out.below hbw).at hd
      have hst := fun (h : greatOne d.p = false) => step_lt (P := fun j => ∀ d, ds[j]? = some d → greatOne d.p = false) HJ.out (fun d' hd' => by rw [hd] at hd'; injection hd' with e; rw [← e]; exact h)
      have hy := HY.out d (List.mem_of_getElem? hd)
      have hsn := strOfNums_size d.p.name
      have hnl : d.p.name.length ≤ 9223372036854775807 := by have := hfit.1; unfold maxLen at this; omega
      have HB := Lib.hid (hbw.alloc hsz (.cells #[.string (strOfNums d.p.name), .slice d.A d.p.args.length d.c] 88))
      clear hir hfit hd hbw
      by_cases h1 : 30 < d.p.args.length
      · have h1i : (30 : Int) < (d.p.args.length : Int) := by omega
        have HR := Lib.hid (hy (by simp [greatOne, h1]))
        clear hst hy
        go_wp2_with fail
        go_ret
        exact ⟨by rw [HR.out]; rfl, HB.out⟩
      · have h1i : (d.p.args.length : Int) ≤ 30 := by omega
        by_cases h2 : 100 < d.p.name.length
        · have h2i : (100 : Int) < (d.p.name.length : Int) := by omega
          have HR := Lib.hid (hy (by simp [greatOne, h2]))
          clear hst hy
          go_wp2_with fail
          go_ret
          exact ⟨by rw [HR.out]; rfl, HB.out⟩
        · have h2i : (d.p.name.length : Int) ≤ 100 := by omega
          have HJ2 := Lib.hid (hst (by simp [greatOne, h1, h2]))
          clear hst hy
          go_wp2_with fail
          go_roundg (ds.length - (k + 1))
          case measure => have := HGK.out; omega
          case rel => exact ⟨k + 1, by omega, by go_num, Lib.hid rfl, HJ2, HB.out⟩
    · obtain rfl : k = ds.length := by omega
      have HR := Lib.hid (HN.out HJ.out)
      go_wp2_with fail
      go_ret
      exact ⟨by rw [HR.out]; exact congrArg (fun b => Ending.returned (Value.bool b)) (decide_eq_decide.2 (by omega)), hbw⟩
end Go.Proofs.YtimihhcidbeonaaGreat
