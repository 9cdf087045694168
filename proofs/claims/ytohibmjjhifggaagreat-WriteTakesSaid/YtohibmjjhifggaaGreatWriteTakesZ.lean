/-
  Whatever points are added, and however often bytes are taken, each call of a writer answers what the document says, and what is taken and what comes at the end are the bytes of what was added: WriteTakes answers true for every signature, trace and pair of numbers, whose memory is of a size that a machine has.
-/
import Derived.Test.YtohibmjjhifggaaGreatRows
import Derived.WalkKit
import Derived.ProofKit
import Derived.OpenShut
import Derived.ShutString
import Derived.ChangeOld
import Derived.Below
import Derived.Lib.SmallJoins
import Derived.Deep.LoopGhost
import Derived.Test.YtohibmjjhifggaaGreatWriteTakesZ11
namespace Go.Proofs.YtohibmjjhifggaaGreat.writeTakes
open Go.Proofs.YtohibmjjhifggaaGreat
open Go.ChangeShapes Go.WideShapes Go.ChangeAt Go.RowKit
open Go.ChangeMaps (open_string shut_string)
set_option linter.unusedVariables false
theorem own : ownKnob Tryz.prog.godebug = none := by kernel_rfl
theorem laidOut : laidOutB Tryz.prog = true := by kernel_rfl
set_option maxRecDepth 100000 in
set_option maxHeartbeats 2000000 in
theorem walk (a0 : Option Addr) (len0 cap0 : Nat) (l0 : List Pd) (a1 : Option Addr) (len1 cap1 : Nat) (l1 : List Pm) (a2 b2 : Int) (w : World) (w0 : l0.length = len0 ∧ PredRow w w.heap.size (.slice a0 len0 cap0) l0) (w1 : l1.length = len1 ∧ TrRow w w.heap.size (.slice a1 len1 cap1) l1 ∧ TrFit l1) (w2 : (Lit.int .i64 a2).wf = true ∧ (Lit.int .i64 b2).wf = true) :
    Calls Tryz.prog 3 #[.slice a0 len0 cap0, .slice a1 len1 cap1, .agg #[.int .i64 a2, .int .i64 b2]] w fun e w' => e = .returned (.bool true) ∧ Below w.heap.size w w' := by
  obtain ⟨rfl, hrow⟩ := w0
  obtain ⟨rfl, htr, hfitl⟩ := w1
  obtain ⟨-, hc1, hc2⟩ := htr.1.len
  obtain ⟨hd1, hd2⟩ : l0.length ≤ cap0 ∧ cap0 ≤ 9223372036854775807 := by
    obtain ⟨A', c', hv, q1, q2⟩ := hrow.form
    injection hv with _ _ e3
    exact ⟨by omega, by omega⟩
  obtain ⟨N, hN⟩ : ∃ N, w.heap.size = N := ⟨_, rfl⟩
  obtain ⟨u0, hu0⟩ : ∃ u, w.alloc (.cells #[.int .i64 a2, .int .i64 b2] 24) = u := ⟨_, rfl⟩
  have s0 : u0.heap.size = N + 1 := by rw [← hu0, World.size_alloc, hN]
  have b0 : Below w.heap.size w u0 := by rw [← hu0]; exact (Below.refl _ _).alloc (Nat.le_refl _) _
  have hp0 : Held u0 N 24 #[.int .i64 a2, .int .i64 b2] := by rw [← hu0, ← hN]; exact heap_alloc_new w _
  have HG := Lib.hid (great17_any a0 cap0 l0 a1 cap1 l1 u0 ((hrow.below b0).more b0.size) ((htr.below b0).more b0.size))
  have HROW := Lib.hid hrow
  have HTR := Lib.hid htr
  have HFT := Lib.hid hfitl
  have HFX := Lib.hid (fun W => fix17_any W)
  have HB0 := Lib.hid b0
  have HP0 := Lib.hid hp0
  have hNl := hp0.lt
  obtain ⟨E, hmax⟩ : ∃ E, max b2 1 = E := ⟨_, rfl⟩
  have hE1 : 1 ≤ E := by omega
  clear hrow htr hfitl b0 hp0
  by_cases h40 : l1.length ≤ 40
  · have h40b : ¬ ((l1.length : Int) > 40) := by omega
    go_enter Tryz.func3, Tryz.ntmps3
    go_wp2_with fail
    refine HG.out.mono ?_
    rintro e w1 ⟨⟨b, rfl, hgb⟩, hb1⟩
    have HB1 := Lib.hid (HB0.out.trans (hb1.mono (by omega)))
    have HGB := Lib.hid hgb
    obtain ⟨x0, x1⟩ := held_two (HP0.out.below hb1 hNl)
    have hN1 : N < w1.heap.size := Nat.lt_of_lt_of_le hNl hb1.size
    clear hgb hb1
    cases b with
    | true =>
      clear x0 x1
      go_wp2_with fail
      refine (HFX.out _).mono ?_
      rintro e w3 ⟨rfl, hb3⟩
      have HB3 := Lib.hid (HB1.out.trans (hb3.mono HB1.out.size))
      clear hb3
      go_wp2_with fail
      go_ret
      exact ⟨rfl, HB3.out⟩
    | false =>
      have hgr := HGB.out rfl
      have HGP := Lib.hid (greatP_no hgr)
      clear hgr
      go_wp2_with fail
      go_region
      all_goals (
      go_wp2_with fail
      obtain ⟨wx, hwx⟩ : ∃ wx, w1.drew = wx := ⟨_, rfl⟩
      have HBX : Hid (Below w.heap.size w wx) := Lib.hid (by rw [← hwx]; exact HB1.out.drew)
      have HNW := Lib.hid (wnew_any wx a0 cap0 l0 a2 ((HROW.out.below HBX.out).more HBX.out.size) (by rw [List.length_map] at HGP; have := HGP.out.1; omega) (fun d hd => by have := (HGP.out.2 d.p (List.mem_map.2 ⟨d, hd, rfl⟩)).1; omega))
      have HRC := Lib.hid (fun W (hb : Below w.heap.size w W) => rcheck_any a0 cap0 l0 W ((HROW.out.below hb).more hb.size))
      rw [hwx]
      clear hwx x0 x1
      refine HNW.out.mono ?_
      rintro e w2 ⟨hnz, hz, hb2⟩
      have HB2 := Lib.hid (HBX.out.trans (hb2.mono HBX.out.size))
      clear hb2
      obtain ⟨sg, hsg⟩ : ∃ sg, l0.map (·.p) = sg := ⟨_, rfl⟩
      rw [hsg] at hnz hz HRC
      unfold newE at hnz hz
      have HSG := Lib.hid hsg
      clear hsg
      by_cases hm1 : a2 < 1
      · rw [if_pos hm1] at hnz hz
        obtain rfl := hnz (by decide)
        clear hz hnz
        go_wp2_with fail
        refine (HFX.out _).mono ?_
        rintro e w3 ⟨rfl, hb3⟩
        have HB3 := Lib.hid (HB2.out.trans (hb3.mono HB2.out.size))
        clear hb3
        go_wp2_with fail
        go_ret
        exact ⟨rfl, HB3.out⟩
      · rw [if_neg hm1] at hnz hz
        obtain ⟨C, hC⟩ : ∃ C, checkP sg = C := ⟨_, rfl⟩
        have HC := Lib.hid hC
        rw [hC] at hnz hz HRC
        clear hC
        have HR2 := Lib.hid (HRC.out w2 HB2.out)
        by_cases hc0 : C = 0
        · obtain ⟨n, g, A, c, es, rfl, hw, hes, hnl⟩ := hz hc0
          have HC0 := Lib.hid hc0
          have hcb : (C != 0) = false := by simp [hc0]
          have HW := Lib.hid hw
          have HES := Lib.hid hes
          have HNL := Lib.hid hnl
          clear hnz hz hw hes hnl
          go_wp2_with fail
          refine HR2.out.mono ?_
          rintro e w3 ⟨rfl, rfl⟩
          go_wp2_with fail
          have HSGE := Lib.hid (show es.map (·.p) = sg from HES.out)
          have HLW : Hid (LwAt w w2 N w2.heap.size n g A c es a2 l1 none 0 [] [] none 0 false [] []) := Lib.hid ⟨HW.out, World.ownsRow_nil _ _ _ _, by simp, by simp [ob], Inv.start (COk.none (by rw [HSGE.out, HC.out]; exact HC0.out) (by omega)), by rw [← hN]; exact HB2.out, hN.symm, Nat.le_trans (by have := HBX.out.size; omega) HNL.out, HW.out.size, Nat.le_refl _⟩
          obtain ⟨m, hm⟩ : ∃ m, l1.length = m := ⟨_, rfl⟩
          obtain ⟨NX, hNX⟩ : ∃ NX, w2.heap.size = NX := ⟨_, rfl⟩
          have HM := Lib.hid hm
          rw [hNX] at HLW
          rw [hm] at h40 h40b hc1 ⊢
          obtain ⟨iP, hiP, hpz, hps, hpb⟩ := info_parts Tryz.infoPoint
          clear hm hNX
          go_loopg [12, 13, 74] m (fun gk xv ov iv wr => ∃ (k : Nat) (XA : Option Addr) (xc : Nat) (xs : List Pm) (KA : Option Addr) (kc : Nat) (bg : Bool) (bs : List Bk) (out : List Int), xv = .slice XA xs.length xc ∧ ov = .string (strOfNums out) ∧ iv = .int .i64 k ∧ k ≤ m ∧ Hid (xs.length ≤ k) ∧ Hid (m - k = gk) ∧ Hid (LwAt w wr N NX n g A c es a2 l1 XA xc xs xs KA kc bg bs out))
          case atStart => exact ⟨0, none, 0, [], none, 0, false, [], [], rfl, rfl, rfl, Nat.zero_le _, Lib.hid (Nat.le_refl _), Lib.hid rfl, HLW⟩
          case round =>
            obtain ⟨k, XA, xc, xs, KA, kc, bg, bs, out, rfl, rfl, rfl, hk, HXK0, HGK, HL⟩ := hrel
            by_cases hlt : k < m
            · obtain ⟨d, hd⟩ : ∃ d, l1[k]? = some d := ⟨_, List.getElem?_eq_getElem (by rw [HM.out]; exact hlt)⟩
              have hmem := List.mem_of_getElem? hd
              have HMEM := Lib.hid hmem
              have hlw : Below w.heap.size w wr := HL.out.low'
              have hNr : w.heap.size ≤ wr.heap.size := hlw.size
              obtain ⟨b, o, rfl, hb, x0, x1, hok, ha1, ha2⟩ := (HTR.out.below hlw).at hd
              have HDF := Lib.hid (show TrFit [d] from ⟨by simp, fun p hp => by rw [List.mem_singleton.1 hp]; exact HFT.out.2 d hmem⟩)
              have HDQ := Lib.hid (HTR.out.fits d hmem)
              obtain ⟨u1, hu1⟩ : ∃ u, wr.alloc (.cells #[.int .u64 d.tm, .slice d.A d.evs.length d.c] 35) = u := ⟨_, rfl⟩
              have su1 : u1.heap.size = wr.heap.size + 1 := by rw [← hu1, World.size_alloc]
              have bu1 : Below wr.heap.size wr u1 := by rw [← hu1]; exact (Below.refl _ _).alloc (Nat.le_refl _) _
              have hq1 : Held u1 wr.heap.size 35 #[.int .u64 d.tm, .slice d.A d.evs.length d.c] := by rw [← hu1]; exact heap_alloc_new wr _
              have HL1 := Lib.hid (HL.out.below bu1)
              have HOK1 := Lib.hid (((hok.more hNr).below bu1).more (B' := u1.heap.size) (by omega))
              have HRA := Lib.hid (radd_any a0 cap0 l0 XA xc xs u1 d ((HROW.out.below HL1.out.low').more HL1.out.low'.size) ⟨ERow.of_own HL1.out.row, fun p hp => ((HTR.out.2 p (HL1.out.mem p hp)).below HL1.out.low').more HL1.out.low'.size⟩ HOK1.out)
              obtain ⟨z0, z1⟩ := held_two hq1
              have HQ1 := Lib.hid hq1
              obtain ⟨V, hV⟩ : ∃ V, addW (l0.map (·.p)) xs d = V := ⟨_, rfl⟩
              rw [hV] at HRA
              have HVV := Lib.hid (show addW (es.map (·.p)) xs d = V by rw [HSGE.out, ← HSG.out]; exact hV)
              clear hd hok bu1 hq1 hV hlw hmem
              go_wp2_with fail
              refine HRA.out.mono ?_
              rintro e w2a ⟨rfl, hb2⟩
              have HL2 := Lib.hid (HL1.out.below hb2)
              have HQ2 := Lib.hid (HQ1.out.below hb2 HQ1.out.lt)
              have z2 := held_two HQ2.out
              obtain ⟨z2a, z2b⟩ := z2
              have HADD := Lib.hid (wadd_any HL2.out.wr d ((HOK1.out.below hb2).more hb2.size) HDF.out (by have := HL.out.inv.len.1; have := HXK0.out; omega) (by have := HL.out.inv.len.2; have := HXK0.out; omega))
              clear hb2
              go_wp2_with fail
              refine HADD.out.mono ?_
              intro e w4 hq4
              have hpn : PartN (WS g KA bs) w2a w4 := by
                obtain ⟨_, _, _, _, _, h5, _⟩ := hq4
                exact h5
              have hq4b : Held w4 wr.heap.size 35 #[.int .u64 d.tm, .slice d.A d.evs.length d.c] := (hpn.block wr.heap.size HQ2.out.lt (fun hw => by have := (HL.out.wr.lt hw).2; omega)).trans HQ2.out
              obtain ⟨y0, y1⟩ := held_two hq4b
              obtain ⟨rfl, KA5, kc5, bs5, hne, heq⟩ := HL2.out.add hq4 HDQ.out HVV.out
              clear hq4 hpn hq4b z2a z2b z0 z1
              by_cases hv : V = 0
              · have hvb : (V == 0) = true := by simp [hv]
                have HL4 := heq hv
                clear hne heq
                obtain ⟨u5, hu5⟩ : ∃ u, w4.alloc (.cells #[.int .u64 d.tm, .slice d.A d.evs.length d.c] 35) = u := ⟨_, rfl⟩
                have su5 : u5.heap.size = w4.heap.size + 1 := by rw [← hu5, World.size_alloc]
                have bu5 : Below w4.heap.size w4 u5 := by rw [← hu5]; exact (Below.refl _ _).alloc (Nat.le_refl _) _
                have HL4b := Lib.hid (HL4.out.below bu5)
                have HE5 : Hid (ERow u5 u5.heap.size (.slice (some ⟨w4.heap.size, 0, none⟩) 1 1) 1 (flatN [d])) := Lib.hid (by rw [← hu5]; exact ERow.held (us := flatN [d]) (t := 35) (heap_alloc_new w4 _) (by rw [World.size_alloc]; omega) (show (1 : Nat) ≤ maxLen by unfold maxLen; omega))
                have hone := oneN [d]
                have hfl : (flatN [d]).length = 1 * 2 := flatN_length _
                have hx40 : xs.length ≤ 40 := by have := HXK0.out; omega
                have hn5 : NX ≤ u5.heap.size := HL4b.out.n3
                have HAPP := Lib.hid (fun w' XA' xc' => HL4b.out.append (W' := w') (XA' := XA') (xc' := xc') HMEM.out)
                have HXL := Lib.hid (show (xs ++ [d]).length ≤ 40 by have := HXK0.out; rw [List.length_append, List.length_singleton]; omega)
                have HXK := Lib.hid (show (xs ++ [d]).length ≤ k + 1 by have := HXK0.out; rw [List.length_append, List.length_singleton]; omega)
                have HXLE := Lib.hid (show (xs ++ [d]).length = xs.length + 1 by simp)
                clear bu5
                obtain ⟨rr, hrr⟩ : ∃ rr, (k : Int).tmod E = rr := ⟨_, rfl⟩
                by_cases hr0 : rr = 0
                · have hrb : (rr != 0) = false := by simp [hr0]
                  go_wp2_with (at_builtin; refine wpList_append_erow _ rfl _ _ 23 35 rfl NX iP _ 2 32 Tryz.underlying23 hiP hpz hps hpb rfl (by decide) (.slice XA xs.length xc) xs.length (flatN xs) (by rfl) HL4b.out.row _ _ 1 (flatN [d]) (by rfl) HE5.out hfl hone (by unfold maxLen; omega) (by omega) hn5 (xs.length + 1) rfl (flatN (xs ++ [d])) (flatN_append _ _).symm ?_; intro XA5 xc5 w5 hown5 hg5 hat5; have HL5 := Lib.hid (HAPP.out w5 XA5 xc5 hown5 hg5 hat5); clear hown5 hg5 hat5)
                  have HTK := Lib.hid (wTake_any HL5.out.wr (by have := HL5.out.inv.len.1; have := HXL.out; omega))
                  refine HTK.out.mono ?_
                  intro e w6 hq6
                  obtain ⟨TA, tc, X, rfl, hrow6, HSU, KA6, kc6, bs6, HL6⟩ := HL5.out.take hq6
                  have hcv := hrow6.convert (P := Tryz.prog) 38 5 9 Tryz.underlying38 Tryz.underlying5 Tryz.underlying9
                  obtain ⟨hs1, -, hs3⟩ := sure_short (es.map (·.p)) HL6.out.inv.ok
                  have HS3 := Lib.hid hs3
                  have hle : (sureW (es.map (·.p)) (xs ++ [d]) a2).length ≤ 9223372036854775807 := by have := HXL.out; omega
                  have hadd := add_to (P := Tryz.prog) HSU.out hle w6
                  obtain ⟨SU, hSU⟩ : ∃ SU, sureW (es.map (·.p)) (xs ++ [d]) a2 = SU := ⟨_, rfl⟩
                  rw [hSU] at hadd HSU hle
                  have HSUE := Lib.hid hSU
                  rw [HSU.out] at HL6
                  have HPT : Hid (Calls Tryz.prog 11 #[.slice a0 l0.length cap0, .slice XA5 (xs.length + 1) xc5, .int .i64 a2] w6 (PtsGot w6 (partsW (es.map (·.p)) (xs ++ [d]) a2, 0))) := by
                    have h1 := rparts_any a0 cap0 l0 XA5 xc5 (xs ++ [d]) a2 w6 ((HROW.out.below HL6.out.low').more HL6.out.low'.size) ⟨ERow.of_own HL6.out.row, fun p hp => ((HTR.out.2 p (HL6.out.mem p hp)).below HL6.out.low').more HL6.out.low'.size⟩ (by have := HXL.out; omega)
                    rw [HSG.out, ← HSGE.out, HS3.out] at h1
                    rw [HXLE.out] at h1
                    exact Lib.hid h1
                  have HLEE := Lib.hid hle
                  clear hs1 hs3 hrow6 hq6 hSU hle
                  go_wp2_with fail
                  refine HPT.out.mono ?_
                  rintro e w7 ⟨A7, c7, rfl, hown7, hb7⟩
                  have HL7 := Lib.hid (HL6.out.below hb7)
                  obtain ⟨P, hP⟩ : ∃ P, partsW (es.map (·.p)) (xs ++ [d]) a2 = P := ⟨_, rfl⟩
                  have HOW7 : Hid (ERow w7 w7.heap.size (.slice A7 P.length c7) P.length (strVs P)) := Lib.hid (by rw [← hP]; exact ERow.of_own hown7)
                  have hP1 : 1 ≤ P.length := by rw [← hP]; unfold partsW; rw [List.length_cons]; omega
                  obtain ⟨M, hM⟩ : ∃ M, max (P.length - 1) 1 = M := ⟨_, rfl⟩
                  have hmaxM : max ((P.length : Int) - 1) 1 = (M : Int) := by omega
                  have hMP : M ≤ P.length := by omega
                  have HJ : Hid (Calls Tryz.prog 12 #[.slice A7 M c7] w7 fun e w' => e = .returned (.string (strOfNums SU)) ∧ Below w7.heap.size w7 w') := by
                    have hfl : (P.take M).flatten = SU := by rw [← HSUE.out]; unfold sureW; rw [hP, hM]
                    have htl : (P.take M).length = M := by rw [List.length_take]; omega
                    have h1 := rjoin_any A7 c7 (P.take M) w7 (by rw [htl, ← strVs_take]; exact HOW7.out.take1 hMP) (by rw [hfl]; exact HLEE.out)
                    rw [hfl, htl] at h1
                    exact Lib.hid h1
                  have hPl : P.length ≤ c7 := HOW7.out.len.2.1
                  have hc7 : c7 ≤ 9223372036854775807 := HOW7.out.len.2.2
                  dsimp only
                  rw [hP]
                  generalize P.length = pl at hP1 hmaxM hMP hPl HOW7 hM ⊢
                  have HM1 := Lib.hid hM
                  clear hown7 hb7 hP hM hcv hadd
                  go_wp2_with fail
                  refine HJ.out.mono ?_
                  rintro e w8 ⟨rfl, hb8⟩
                  have HL8 := Lib.hid (HL7.out.below hb8)
                  clear hb8
                  go_wp2_with fail
                  go_roundg (m - (k + 1))
                  case measure => have := HGK.out; omega
                  case rel => exact ⟨k + 1, XA5, xc5, (xs ++ [d]), KA6, kc6, true, bs6, SU, by rw [HXLE.out], rfl, by go_num, by omega, HXK, Lib.hid rfl, HL8⟩
                · have hrb : (rr != 0) = true := bne_iff_ne.2 hr0
                  go_wp2_with (at_builtin; refine wpList_append_erow _ rfl _ _ 23 35 rfl NX iP _ 2 32 Tryz.underlying23 hiP hpz hps hpb rfl (by decide) (.slice XA xs.length xc) xs.length (flatN xs) (by rfl) HL4b.out.row _ _ 1 (flatN [d]) (by rfl) HE5.out hfl hone (by unfold maxLen; omega) (by omega) hn5 (xs.length + 1) rfl (flatN (xs ++ [d])) (flatN_append _ _).symm ?_; intro XA5 xc5 w5 hown5 hg5 hat5; have HL5 := Lib.hid (HAPP.out w5 XA5 xc5 hown5 hg5 hat5); clear hown5 hg5 hat5)
                  go_roundg (m - (k + 1))
                  case measure => have := HGK.out; omega
                  case rel => exact ⟨k + 1, XA5, xc5, (xs ++ [d]), KA5, kc5, bg, bs5, out, by rw [HXLE.out], rfl, by go_num, by omega, HXK, Lib.hid rfl, HL5⟩
              · have hvb : (V == 0) = false := by simp [hv]
                have HL5 := hne hv
                have HXL := Lib.hid (show xs.length ≤ 40 by have := HXK0.out; omega)
                have HXK := Lib.hid (show xs.length ≤ k + 1 by have := HXK0.out; omega)
                clear hne heq y0 y1
                obtain ⟨rr, hrr⟩ : ∃ rr, (k : Int).tmod E = rr := ⟨_, rfl⟩
                by_cases hr0 : rr = 0
                · have hrb : (rr != 0) = false := by simp [hr0]
                  have HTK := Lib.hid (wTake_any HL5.out.wr (by have := HL5.out.inv.len.1; have := HXL.out; omega))
                  go_wp2_with fail
                  refine HTK.out.mono ?_
                  intro e w6 hq6
                  obtain ⟨TA, tc, X, rfl, hrow6, HSU, KA6, kc6, bs6, HL6⟩ := HL5.out.take hq6
                  have hcv := hrow6.convert (P := Tryz.prog) 38 5 9 Tryz.underlying38 Tryz.underlying5 Tryz.underlying9
                  obtain ⟨hs1, -, hs3⟩ := sure_short (es.map (·.p)) HL6.out.inv.ok
                  have HS3 := Lib.hid hs3
                  have hle : (sureW (es.map (·.p)) xs a2).length ≤ 9223372036854775807 := by have := HXL.out; omega
                  have hadd := add_to (P := Tryz.prog) HSU.out hle w6
                  obtain ⟨SU, hSU⟩ : ∃ SU, sureW (es.map (·.p)) xs a2 = SU := ⟨_, rfl⟩
                  rw [hSU] at hadd HSU hle
                  have HSUE := Lib.hid hSU
                  rw [HSU.out] at HL6
                  have HPT : Hid (Calls Tryz.prog 11 #[.slice a0 l0.length cap0, .slice XA xs.length xc, .int .i64 a2] w6 (PtsGot w6 (partsW (es.map (·.p)) xs a2, 0))) := by
                    have h1 := rparts_any a0 cap0 l0 XA xc xs a2 w6 ((HROW.out.below HL6.out.low').more HL6.out.low'.size) ⟨ERow.of_own HL6.out.row, fun p hp => ((HTR.out.2 p (HL6.out.mem p hp)).below HL6.out.low').more HL6.out.low'.size⟩ (by have := HXL.out; omega)
                    rw [HSG.out, ← HSGE.out, HS3.out] at h1
                    exact Lib.hid h1
                  have HLEE := Lib.hid hle
                  clear hs1 hs3 hrow6 hq6 hSU hle
                  go_wp2_with fail
                  refine HPT.out.mono ?_
                  rintro e w7 ⟨A7, c7, rfl, hown7, hb7⟩
                  have HL7 := Lib.hid (HL6.out.below hb7)
                  obtain ⟨P, hP⟩ : ∃ P, partsW (es.map (·.p)) xs a2 = P := ⟨_, rfl⟩
                  have HOW7 : Hid (ERow w7 w7.heap.size (.slice A7 P.length c7) P.length (strVs P)) := Lib.hid (by rw [← hP]; exact ERow.of_own hown7)
                  have hP1 : 1 ≤ P.length := by rw [← hP]; unfold partsW; rw [List.length_cons]; omega
                  obtain ⟨M, hM⟩ : ∃ M, max (P.length - 1) 1 = M := ⟨_, rfl⟩
                  have hmaxM : max ((P.length : Int) - 1) 1 = (M : Int) := by omega
                  have hMP : M ≤ P.length := by omega
                  have HJ : Hid (Calls Tryz.prog 12 #[.slice A7 M c7] w7 fun e w' => e = .returned (.string (strOfNums SU)) ∧ Below w7.heap.size w7 w') := by
                    have hfl : (P.take M).flatten = SU := by rw [← HSUE.out]; unfold sureW; rw [hP, hM]
                    have htl : (P.take M).length = M := by rw [List.length_take]; omega
                    have h1 := rjoin_any A7 c7 (P.take M) w7 (by rw [htl, ← strVs_take]; exact HOW7.out.take1 hMP) (by rw [hfl]; exact HLEE.out)
                    rw [hfl, htl] at h1
                    exact Lib.hid h1
                  have hPl : P.length ≤ c7 := HOW7.out.len.2.1
                  have hc7 : c7 ≤ 9223372036854775807 := HOW7.out.len.2.2
                  dsimp only
                  rw [hP]
                  generalize P.length = pl at hP1 hmaxM hMP hPl HOW7 hM ⊢
                  have HM1 := Lib.hid hM
                  clear hown7 hb7 hP hM hcv hadd
                  go_wp2_with fail
                  refine HJ.out.mono ?_
                  rintro e w8 ⟨rfl, hb8⟩
                  have HL8 := Lib.hid (HL7.out.below hb8)
                  clear hb8
                  go_wp2_with fail
                  go_roundg (m - (k + 1))
                  case measure => have := HGK.out; omega
                  case rel => exact ⟨k + 1, XA, xc, xs, KA6, kc6, true, bs6, SU, rfl, rfl, by go_num, by omega, HXK, Lib.hid rfl, HL8⟩
                · have hrb : (rr != 0) = true := bne_iff_ne.2 hr0
                  go_wp2_with fail
                  go_roundg (m - (k + 1))
                  case measure => have := HGK.out; omega
                  case rel => exact ⟨k + 1, XA, xc, xs, KA5, kc5, bg, bs5, out, rfl, rfl, by go_num, by omega, HXK, Lib.hid rfl, HL5⟩
            · obtain rfl : m = k := by omega
              have HXL := Lib.hid (show xs.length ≤ 40 by have := HXK0.out; omega)
              have hcl := wClose_any HL.out.wr (by have := HL.out.inv.len.1; have := HXL.out; omega)
              have hinv := HL.out.inv.close
              obtain ⟨X, hX⟩ : ∃ X, takeX (es.map (·.p)) bg bs = X := ⟨_, rfl⟩
              rw [hX] at hcl hinv
              have HCL := Lib.hid hcl
              obtain ⟨-, hs2, hs3⟩ := sure_short (es.map (·.p)) HL.out.inv.ok
              obtain ⟨BW, hBW⟩ : ∃ BW, bytesW (es.map (·.p)) xs a2 = BW := ⟨_, rfl⟩
              have hpf : (partsR sg xs a2).1.flatten = BW ∧ (partsR sg xs a2).2 = 0 := by
                rw [← HSGE.out, hs3]
                exact ⟨hBW, rfl⟩
              rw [hBW] at hinv hs2
              have HPF := Lib.hid hpf
              have HINV := Lib.hid hinv
              have hle : BW.length ≤ 9223372036854775807 := by have := HXL.out; omega
              have HLE := Lib.hid hle
              clear hcl hinv hX hs2 hs3 hBW hpf hle
              go_wp2_with fail
              refine HCL.out.mono ?_
              rintro e w3 ⟨⟨TA, tc, rfl, hown⟩, hwc, hp⟩
              have HB3 := Lib.hid (HL.out.low'.trans (hp.low HL.out.low'.size (fun i hi e => by have := HL.out.wr.low; have := HL.out.n1; have := HL.out.n0; omega)))
              have hcv := (Row.of_own hown).convert (P := Tryz.prog) 38 5 9 Tryz.underlying38 Tryz.underlying5 Tryz.underlying9
              have hadd := add_to (P := Tryz.prog) HINV.out HLE.out w3
              have HRW := Lib.hid (own_spared HL.out.row hp (fun j hj e => HL.out.dis j (by rw [← ob_own XA xs.length xc]; exact hj) (.inl e)))
              have HWC := Lib.hid hwc
              have HBY : Hid (Calls Tryz.prog 14 #[.slice a0 l0.length cap0, .slice XA xs.length xc, .int .i64 a2] w3 fun e w' => e = .returned (.tuple #[.string (strOfNums BW), .int .i64 0]) ∧ Below w3.heap.size w3 w') := by
                have h1 := rbytes_any a0 cap0 l0 XA xc xs a2 w3 ((HROW.out.below HB3.out).more HB3.out.size) ⟨ERow.of_own HRW.out, fun p hp => ((HTR.out.2 p (HL.out.mem p hp)).below HB3.out).more HB3.out.size⟩ (by have := HXL.out; omega)
                rw [HSG.out, HPF.out.1, HPF.out.2] at h1
                exact Lib.hid h1
              have hnn := HL.out.n1
              clear hown hwc hp
              go_wp2_with fail
              refine HBY.out.mono ?_
              rintro e w4 ⟨rfl, hb4⟩
              have HB4 := Lib.hid (HB3.out.trans (hb4.mono HB3.out.size))
              have HW4 := Lib.hid (HWC.out.below hb4)
              clear hb4 hcv hadd
              go_wp2_with fail
              refine (HFX.out _).mono ?_
              rintro e w5 ⟨rfl, hb5⟩
              have HB5 := Lib.hid (HB4.out.trans (hb5.mono HB4.out.size))
              have HT5 := Lib.hid (shut_take (HW4.out.below hb5))
              clear hb5
              go_wp2_with fail
              refine HT5.out.mono ?_
              rintro e w6 ⟨⟨TA6, tc6, rfl⟩, ⟨KA6, kc6, hw6⟩, hp6⟩
              have HB6 := Lib.hid (HB5.out.trans (hp6.low HB5.out.size (fun i hi e => by omega)))
              have HC6 := Lib.hid (shut_close hw6)
              clear hw6 hp6
              go_wp2_with fail
              refine HC6.out.mono ?_
              rintro e w7 ⟨⟨TA7, tc7, rfl⟩, ⟨KA7, kc7, hw7⟩, hp7⟩
              have HB7 := Lib.hid (HB6.out.trans (hp7.low HB6.out.size (fun i hi e => by omega)))
              have HA7 := Lib.hid (shut_add hw7)
              clear hw7 hp7
              go_wp2_with fail
              refine HA7.out.mono ?_
              rintro e w8 ⟨rfl, hp8⟩
              have HB8 := Lib.hid (HB7.out.trans (hp8.low HB7.out.size (fun i hi e => by omega)))
              clear hp8
              go_wp2_with fail
              go_ret
              exact ⟨rfl, HB8.out⟩
        · obtain rfl := hnz hc0
          have hcb : (C != 0) = true := bne_iff_ne.2 hc0
          clear hz hnz
          go_wp2_with fail
          refine HR2.out.mono ?_
          rintro e w3 ⟨rfl, rfl⟩
          go_wp2_with fail
          refine (HFX.out _).mono ?_
          rintro e w3 ⟨rfl, hb3⟩
          have HB3 := Lib.hid (HB2.out.trans (hb3.mono HB2.out.size))
          clear hb3
          go_wp2_with fail
          go_ret
          exact ⟨rfl, HB3.out⟩)
  · have h40b : (l1.length : Int) > 40 := by omega
    go_enter Tryz.func3, Tryz.ntmps3
    go_wp2_with fail
    refine HG.out.mono ?_
    rintro e w1 ⟨⟨b, rfl, hgb⟩, hb1⟩
    have HB1 := Lib.hid (HB0.out.trans (hb1.mono (by omega)))
    clear hgb hb1
    cases b
    all_goals (
    go_wp2_with fail
    refine (HFX.out _).mono ?_
    rintro e w3 ⟨rfl, hb3⟩
    have HB3 := Lib.hid (HB1.out.trans (hb3.mono HB1.out.size))
    clear hb3
    go_wp2_with fail
    go_ret
    exact ⟨rfl, HB3.out⟩)
set_option maxRecDepth 100000 in
theorem lifted (os : Os) (started : os.Started) (H : Type) (enc : TypeId × Value → H) :
    ReturnsInHanded {} Tryz.checked os 3 .any (Rows.writeTakesSpec.pre6 enc Tryz.prog Tryz.f3 Rows.writeTakesRow.domain false) (Rows.writeTakesSpec.post enc Tryz.prog Tryz.f3 false true false false) := by
  refine returnsInHanded_of_change_sized (C := Tryz.checked) own started (by kernel_rfl) Tryz.func3
    (ChangeSpec.witness6 (enc := enc) (C := Tryz.checked) false ⟨#[], #[.slice none 0 0, .slice none 0 0, .agg #[.int .i64 0, .int .i64 0]], []⟩ 8 (by kernel_rfl) (by kernel_rfl) (by kernel_rfl) (by kernel_rfl)) ?_
  intro W base args ds gs before hval0 hW hcnd hsz _
  have hval : ∀ (j : Nat) t v, Tryz.f3.params[j]? = some t → args[j]? = some v → Value.okWide Tryz.prog W .any base t v := hval0
  have hW' := hW
  obtain ⟨p, q, hA0, hV, rfl, hfz, hnd⟩ := hW
  have hA : DataW.TrodAll enc Tryz.prog W 0 (fun _ => true) true Tryz.f3.params.toList args.toList ds p := hA0
  rw [Tryz.params3] at hA hval hsz
  obtain ⟨v0, vs0, d0, ds0, p0, q0, hargs, rfl, rfl, h0, r0⟩ := trodAll_cons hA
  obtain ⟨v1, vs1, d1, ds1, p1, q1, rfl, rfl, rfl, h1, r1⟩ := trodAll_cons r0
  obtain ⟨v2, vs2, d2, ds2, p2, q2, rfl, rfl, rfl, h2, r2⟩ := trodAll_cons r1
  obtain ⟨rfl, rfl, rfl⟩ := trodAll_nil r2
  obtain rfl : args = #[v0, v1, v2] := by cases args; simp_all
  obtain ⟨rfl, rfl⟩ := trodVars_none hV
  obtain ⟨a0, len0, cap0, rfl⟩ := okWide_slice Tryz.underlying22 (hval 0 22 v0 rfl rfl)
  have k0 := h0
  have lt0 : ∀ x ∈ p0, x.block < W.heap.size := by obtain ⟨m, hm⟩ := k0; exact DataW.trod_lt m _ _ _ hm
  obtain ⟨l0, w0⟩ : ∃ ds : List Pd, ds.length = len0 ∧ PredRow W W.heap.size (.slice a0 len0 cap0) ds := by
    obtain ⟨fuel, hf⟩ := h0
    exact preds_of hf
  obtain ⟨a1, len1, cap1, rfl⟩ := okWide_slice Tryz.underlying23 (hval 1 23 v1 rfl rfl)
  have k1 := h1
  have lt1 : ∀ x ∈ p1, x.block < W.heap.size := by obtain ⟨m, hm⟩ := k1; exact DataW.trod_lt m _ _ _ hm
  obtain ⟨l1, w1⟩ : ∃ ds : List Pm, ds.length = len1 ∧ TrRow W W.heap.size (.slice a1 len1 cap1) ds ∧ TrFit ds := by
    obtain ⟨fuel, hf⟩ := h1
    exact points_fit hf (fun n hn => by simpa using List.all_eq_true.1 hsz n (DataW.weights_mem_each (j := 1) rfl rfl n hn))
  have k2 := h2
  have lt2 : ∀ x ∈ p2, x.block < W.heap.size := by obtain ⟨m, hm⟩ := k2; exact DataW.trod_lt m _ _ _ hm
  obtain ⟨a2, b2, rfl, w2⟩ := open_pair Tryz.underlying24 Tryz.underlying3 (by kernel_rfl) (by kernel_rfl) (hval 2 24 v2 rfl rfl) h2
  clear hA0 hval0
  refine (walk a0 len0 cap0 l0 a1 len1 cap1 l1 a2 b2 W w0 w1 w2).mono fun e W' ⟨he, bel⟩ => ?_
  subst he
  exact ⟨_, rfl, _, _, _, [], _, [], hW', trodAll_mk1 (shut_bool Tryz.underlying4 _), (trodAll_cons_mk (Below.trod laidOut (by kernel_rfl) (of_decide_eq_true (by kernel_rfl)) k0 bel lt0) (trodAll_cons_mk (Below.trod laidOut (by kernel_rfl) (of_decide_eq_true (by kernel_rfl)) k1 bel lt1) (trodAll_cons_mk (Below.trod laidOut (by kernel_rfl) (of_decide_eq_true (by kernel_rfl)) k2 bel lt2) (trodAll_mk0)))), rfl, bel.frame _, fun h => by cases h⟩
theorem over : Rows.writeTakesRow.holds Tryz.pinned (OpenSpec.ofChange Rows.writeTakesSpec) :=
  OpenClaim.holds_of_wide 3 Tryz.f3 rfl rfl rfl rfl rfl rfl rfl ⟨rfl, rfl, rfl, rfl, rfl⟩ rfl rfl rfl rfl rfl (by kernel_rfl) Tryz.func3 (by kernel_rfl)
    (of_decide_eq_true (by kernel_rfl)) (by unfold Func.isWrapper; first | (rw [if_pos (by decide +kernel)]; kernel_rfl) | (rw [if_neg (by decide +kernel)]; exact ⟨rfl, rfl⟩))
    (fun os started H enc _ => lifted os started H enc)
theorem proved : Rows.WriteTakesSaid := over
end Go.Proofs.YtohibmjjhifggaaGreat.writeTakes
