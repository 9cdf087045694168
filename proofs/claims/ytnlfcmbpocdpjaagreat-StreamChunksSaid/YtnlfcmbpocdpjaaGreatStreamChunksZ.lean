/-
  At every slice of bytes and every slice of sizes the law on bytes in chunks, given to a stream, answers true, and nothing that lay in memory has changed. No condition.
-/
import Derived.Test.YtnlfcmbpocdpjaaGreatRows
import Derived.WalkKit
import Derived.ProofKit
import Derived.OpenShut
import Derived.ShutString
import Derived.ChangeOld
import Derived.Below
import Derived.Lib.SmallJoins
import Derived.Deep.LoopGhost
import Derived.Test.YtnlfcmbpocdpjaaGreatStreamChunksZ15
set_option maxRecDepth 100000
set_option maxHeartbeats 16000000
namespace Go.Proofs.YtnlfcmbpocdpjaaGreat.streamChunks
open Lib (hid)
open Go.Proofs.YtnlfcmbpocdpjaaGreat
open Go.ChangeShapes Go.WideShapes Go.ChangeAt Go.RowKit
open Go.ChangeMaps (open_string shut_string)
set_option linter.unusedVariables false
theorem own : ownKnob Tryz.prog.godebug = none := by kernel_rfl
theorem laidOut : laidOutB Tryz.prog = true := by kernel_rfl
theorem walk (a0 : Option Addr) (len0 cap0 : Nat) (z0 : List Int) (a1 : Option Addr) (len1 cap1 : Nat) (z1 : List Int) (w : World) (w0 : IsRow .u8 w a0 len0 cap0 z0) (w1 : IsRow .i64 w a1 len1 cap1 z1) :
  Calls Tryz.prog 5 #[.slice a0 len0 cap0, .slice a1 len1 cap1] w fun e w' => e = .returned (.bool true) ∧ Below w.heap.size w w' := by
 obtain ⟨xs, rfl, hrow, hbx⟩ := Row.of_arg w0
 obtain ⟨zs, rfl, hzr⟩ := ints_of_arg w1
 clear w0 w1
 by_cases h8 : 800 < xs.length
 ·have h8i : (800 : Int) < (xs.length : Int) := by omega
  clear hrow hbx hzr h8
  go_enter Tryz.func5, Tryz.ntmps5
  go_wp2_with fail
  refine (fix19_any _).mono ?_
  rintro e w3 ⟨rfl, hb3⟩
  go_wp2_with fail
  go_ret
  exact ⟨rfl, hb3⟩
 by_cases h20 : 20 < zs.length
 ·have h20i : (20 : Int) < (zs.length : Int) := by omega
  have h8i : ¬ (800 : Int) < (xs.length : Int) := by omega
  clear hrow hbx hzr h8 h20
  go_enter Tryz.func5, Tryz.ntmps5
  go_wp2_with fail
  refine (fix19_any _).mono ?_
  rintro e w3 ⟨rfl, hb3⟩
  go_wp2_with fail
  go_ret
  exact ⟨rfl, hb3⟩
 have h8i : ¬ (800 : Int) < (xs.length : Int) := by omega
 have h20i : ¬ (20 : Int) < (zs.length : Int) := by omega
 have hl : xs.length ≤ 800 := by omega
 obtain ⟨iP, hiP, hpz, hps, hpb⟩ := info_parts Tryz.infoPoint
 have HROW := hid hrow
 have HBX := hid hbx
 have HZR := hid hzr
 have HSC := hid (schunks_any w a0 cap0 xs (by omega) hrow a1 cap1 zs hzr)
 clear hrow hbx hzr h8 h20
 go_enter Tryz.func5, Tryz.ntmps5
 go_wp2_with fail
 refine HSC.out.mono ?_
 rintro e w1 ⟨K, kc, cs, rfl, hch, hoc, hb1⟩
 have hcv := (HROW.out.below hb1).convert (P := Tryz.prog) 22 5 9 Tryz.underlying22 Tryz.underlying5 Tryz.underlying9
 have HRC := hid (rchunks_any w1 xs (by omega) a1 cap1 zs ((HZR.out.below hb1).more hb1.size))
 have HCH := hid hch
 have HOC := hid hoc
 have HB1 := hid hb1
 clear hch hoc hb1
 go_wp2_with fail
 refine HRC.out.mono ?_
 rintro e w2 ⟨A2, c2, L, rfl, hch2, ho2, hb2⟩
 obtain rfl : L = cs.map (·.b) := hch2.unique HCH.out
 have hml := HCH.out.len
 rw [List.length_map] at ho2 hml ⊢
 obtain ⟨m, hm⟩ : ∃ m, cs.length = m := ⟨_, rfl⟩
 have HM := hid hm
 have hoc2 := (HOC.out.below hb2).row
 have HOC2 := hid hoc2
 have HO2 := hid (ERow.of_own ho2)
 have HB2 := hid (HB1.out.trans (hb2.mono HB1.out.size))
 rw [hm] at hml HO2 HOC2 ⊢
 clear hch2 ho2 hb2 hoc2 hm hcv HRC HSC HOC
 go_wp2_with fail
 refine (snew_any w2).mono ?_
 rintro e w3 ⟨s, f, t, rfl, hnf, hk3, hf3, hb3⟩
 have hst : StrAt w3 w2.heap.size s f t ((cs.map (·.b)).take 0).flatten [] none none := ⟨_, 0, 0, none, 0, [], 0, [], 0, hnf, hf3, hk3⟩
 obtain ⟨N, hN⟩ : ∃ N, w2.heap.size = N := ⟨_, rfl⟩
 have hN3 : N ≤ w3.heap.size := by rw [← hN]; exact hb3.size
 have hwN : w.heap.size ≤ N := by rw [← hN]; exact HB2.out.size
 have HCR := hid (fun (W : World) (h : Below N w3 W) => show CuRow W N (.slice K m kc) cs from by have := (HOC2.out.below hb3); rw [hN] at this; exact this.below h)
 have HWR := hid (fun (W : World) (h : Below N w3 W) => show ERow W N (.slice A2 m c2) m (strVs (cs.map (·.b))) from by have := (HO2.out.below hb3); rw [hN] at this; exact this.below h)
 have HB3 := hid (HB2.out.trans (hb3.mono HB2.out.size))
 rw [hN] at hst
 have HST := hid hst
 have HMM := hid HCH.out.mem
 have HFL := hid HCH.out.flat
 clear hk3 hf3 hnf hst hb3 HO2 HOC2 hN
 go_wp2_with fail
 go_loopg [8, 44] m (fun gk oo ii wr => ∃ (k : Nat) (T : List Sg) (PA RA : Option Addr) (Ao : Option Addr) (co : Nat) (qs : List Pm), oo = .slice Ao qs.length co ∧ ii = .int .i64 k ∧ k ≤ m ∧ Hid (m - k = gk) ∧ Hid (StrAt wr N s f t ((cs.map (·.b)).take k).flatten T PA RA) ∧ Hid (OwnT wr N (.slice Ao qs.length co) qs) ∧ Hid (qs.map (·.p) = (gT T).pts) ∧ Hid (∀ j, (Value.slice Ao qs.length co).ownBlock = some j → ¬ TS t PA RA j) ∧ Hid (Below N w3 wr))
 case atStart => exact ⟨0, [], none, none, none, 0, [], rfl, rfl, Nat.zero_le _, hid rfl, HST, hid (OwnT.nil _ _), hid rfl, hid (fun j e => by cases e), hid (Below.refl _ _)⟩
 case round =>
  obtain ⟨k, T, PA, RA, Ao, co, qs, rfl, rfl, hk, HGK, HSA, HOO, HPT, HNA, HBW⟩ := hrel
  obtain ⟨hoc, hoc1, hoc2⟩ := HOO.out.row.1.len
  have hnw := HBW.out.size
  have hpl : qs.length ≤ 92160000 := by
   have h1 := congrArg List.length HPT.out
   rw [List.length_map] at h1
   obtain ⟨a, o, hfd⟩ := HSA.out.fd
   have h2 := (TdOk.fd (fun x hx => by
    obtain ⟨c, hc, hxc⟩ := List.mem_flatten.1 hx
    exact HBX.out x (HMM.out c (List.mem_of_mem_take hc) x hxc)) (by
    have h3 := congrArg List.length HFL.out
    rw [← List.take_append_drop k (cs.map (·.b)), List.flatten_append, List.length_append] at h3
    omega) hfd).cnts.1
   omega
  by_cases hlt : k < m
  ·obtain ⟨x, hx⟩ : ∃ x, cs[k]? = some x := ⟨_, List.getElem?_eq_getElem (by rw [HM.out]; exact hlt)⟩
   have hxb : (cs.map (·.b))[k]? = some x.b := by rw [List.getElem?_map, hx]; rfl
   have hcr := HCR.out wr HBW.out
   have hxr := hcr.2 x (List.mem_of_getElem? hx)
   obtain ⟨b1, o1, hK, hbl1, v1⟩ := hcr.at hx
   obtain ⟨b2, o2, hA2, hbl2, v2⟩ := (HWR.out wr HBW.out).block (by omega)
   have v2 := v2 k _ (strVs_at _ hxb)
   have hxx : ∀ y ∈ x.b, 0 ≤ y ∧ y < 256 := fun y hy => HBX.out y (HMM.out x.b (List.mem_map_of_mem (List.mem_of_getElem? hx)) y hy)
   have hfl : ((cs.map (·.b)).take k).flatten ++ x.b = ((cs.map (·.b)).take (k + 1)).flatten := by rw [List.take_add_one, hxb, List.flatten_append]; simp
   have hfk : (((cs.map (·.b)).take (k + 1)).flatten).length ≤ 800 := by
    have h3 := congrArg List.length HFL.out
    rw [← List.take_append_drop (k + 1) (cs.map (·.b)), List.flatten_append, List.length_append] at h3
    omega
   have hkb : ∀ j, ∀ y ∈ ((cs.map (·.b)).take j).flatten, 0 ≤ y ∧ y < 256 := fun j y hy => by
    obtain ⟨c, hc, hxc⟩ := List.mem_flatten.1 hy
    exact HBX.out y (HMM.out c (List.mem_of_mem_take hc) y hxc)
   have HGV := hid (fun (W : World) (h : Below wr.heap.size wr W) => show Calls _ _ _ W (SGiven W N s f t ((cs.map (·.b)).take (k + 1)).flatten T PA RA) from by
    have hg := sgive_any (HSA.out.below h) (hkb k) x.A x.c x.b hxx (((hxr.more (by omega)).below h).more h.size) (by rw [hfl]; omega)
    rw [hfl] at hg
    exact hg)
   have HBN := hid (fun (W : World) (h : Below wr.heap.size wr W) => HOO.out.below h)
   have hcv := (hxr.below (Below.refl N wr).drew).convert (P := Tryz.prog) 22 5 9 Tryz.underlying22 Tryz.underlying5 Tryz.underlying9
   have HKB := hid (hkb (k + 1))
   obtain ⟨Y, hY⟩ : ∃ Y, x.b = Y := ⟨_, rfl⟩
   obtain ⟨y, hy⟩ : ∃ y, x.b.length = y := ⟨_, rfl⟩
   subst hK hA2
   rw [hY] at v2 hcv
   unfold Cu.val at v1 hcv
   rw [hy] at v1 hcv HGV
   have k1 : (k : Int) < (m : Int) := by omega
   clear hx hxb hcr hxr hxx hfl hkb hY hy
   go_wp2_with fail
   go_region
   all_goals (
    have hbd : Below wr.heap.size wr wr.drew := (Below.refl _ _).drew
    have HG5 := hid (HGV.out _ hbd)
    have HO5 := hid (HBN.out _ hbd)
    have HBD := hid hbd
    obtain ⟨wd, hwd⟩ : ∃ wd, wr.drew = wd := ⟨_, rfl⟩
    rw [hwd] at HG5 HO5 HBD ⊢
    clear hwd hbd hcv v1 v2
    go_wp2_with fail
    refine HG5.out.mono ?_
    rintro e w5 ⟨A3, c3, qx, mm, D, PA3, RA3, rfl, hm3, ho3, hp3, hs3, hkp3⟩
    have hzd := HBD.out.size
    obtain ⟨a3, o3, hfd3⟩ := hs3.fd
    have hc3 := (TdOk.fd HKB.out (by omega) hfd3).cnts.1
    have hql : qs.length + qx.length ≤ 92160000 := by
     have h1 := congrArg List.length hp3
     have h2 := congrArg List.length HPT.out
     rw [List.length_append, List.length_map] at h1
     rw [List.length_map] at h2
     omega
    have ho6 := hkp3.own N _ qs HO5.out HNA.out
    have hna5 : ∀ j, (Value.slice Ao qs.length co).ownBlock = some j → ¬ TS t PA3 RA3 j := fun j e h => by
     rcases hkp3.turn j h with h | h
     ·exact HNA.out j e h
     ·have := (World.ownsRow.lt HO5.out.1 j e).2; omega
    have hz5 : N ≤ w5.heap.size := hs3.size
    obtain ⟨M6, hM6⟩ : ∃ M6, qs.length + qx.length = M6 := ⟨_, rfl⟩
    have hM6l : M6 ≤ 92160000 := by omega
    have HX5 := hid (ERow.of_own ho3.1)
    have HOX := hid ho3
    have HO6 := hid ho6
    have HS3 := hid hs3
    have HNA5 := hid hna5
    have HM6 := hid hM6
    have HMM3 := hid (show N ≤ mm by have := HSA.out.size; omega)
    have HPT5 := hid (show (qs ++ qx).map (·.p) = (gT (T ++ D)).pts by rw [List.map_append, HPT.out, hp3])
    have HB5 := hid ((HBW.out.trans (HBD.out.mono (by omega))).trans hkp3.low)
    clear hp3 hs3 hkp3 hfd3 ho3 ho6 hna5 hc3 hql
    go_wp2_with (at_builtin; refine wpList_append_erow _ rfl _ _ 25 55 rfl N iP _ 2 32 Tryz.underlying25 hiP hpz hps hpb rfl (by decide) (.slice Ao qs.length co) qs.length (flatN qs) (by rfl) HO6.out.1 _ _ qx.length (flatN qx) (by rfl) HX5.out (flatN_length _) (oneN _) (by rw [hM6]; unfold maxLen; omega) (by rw [hM6]; omega) hz5 M6 hM6 (flatN (qs ++ qx)) (flatN_append _ _).symm ?_; intro A6 c6 w6 hown6 hg6 hat6; have HW6 := hid hown6; have HG6 := hid hg6; have HAT := hid hat6; clear hown6 hg6 hat6)
    go_roundg (m - (k + 1))
    case measure => have := HGK.out; omega
    case rel =>
     have hll : (qs ++ qx).length = M6 := by rw [List.length_append, HM6.out]
     refine ⟨k + 1, T ++ D, PA3, RA3, A6, c6, qs ++ qx, by rw [hll], by go_num, hlt, hid rfl, hid (HS3.out.grown HO6.out.1 HNA5.out HG6.out), hid ?_, HPT5, hid (fun j e h => ?_), hid (HB5.out.trans ((Below.refl _ _).grown HG6.out hz5 (fun j e => (World.ownsRow.lt HO6.out.1 j e).1)))⟩
     ·rw [hll]
      exact HO6.out.joined HOX.out HMM3.out (by rw [hll]; exact HW6.out) HG6.out
     ·rw [hll] at e
      rcases HAT.out with h2 | h2
      ·exact HNA5.out j (h2.symm.trans e) h
      ·rw [h2] at e
       injection e with e
       have := (HS3.out.ts_lt h).2
       omega)
  ·obtain rfl : k = m := by omega
   have hfl : ((cs.map (·.b)).take k).flatten = xs := by rw [List.take_of_length_le (by rw [List.length_map, HM.out]; exact Nat.le_refl _)]; exact HFL.out
   have hsa := HSA.out
   rw [hfl] at hsa
   have HCL := hid (sclose_any hsa HBX.out (by omega))
   clear hsa hfl
   go_wp2_with fail
   refine HCL.out.mono ?_
   rintro e w4 ⟨A3, c3, qx, mm, D, SA, Sc, es, PA3, Pc, ps, RA3, Rc, rfl, hm3, ho3, hp3, hk4, hps4, hkp3⟩
   have htd := TdOk.parts HBX.out (by omega) hps4
   have hc3 := htd.cnts
   have hql : qs.length + qx.length ≤ 92160000 := by
    have h1 := congrArg List.length hp3
    have h2 := congrArg List.length HPT.out
    rw [List.length_append, List.length_map] at h1
    rw [List.length_map] at h2
    omega
   have HO4 := hid (hkp3.own N _ qs HOO.out HNA.out)
   have HX4 := hid ho3
   have HK4 := hid hk4
   have HMM3 := hid (show N ≤ mm by omega)
   have hn4 : N ≤ w4.heap.size := by have := hk4.low; have := hk4.box.lt; omega
   have HB4 := hid (HB3.out.trans ((HBW.out.trans hkp3.low).mono hwN))
   have HOG := hid (show ofG xs (gT (T ++ D)) from ⟨_, hps4, rfl⟩)
   have HIG := hid htd.ig
   have HCN := hid hc3
   have HPT5 := hid (show (qs ++ qx).map (·.p) = (gT (T ++ D)).pts by rw [List.map_append, HPT.out, hp3])
   have HRO := hid (readOf_any a0 cap0 xs HBX.out (by omega) w4 ((HROW.out.below HB4.out).more HB4.out.size))
   clear htd hc3 ho3 hp3 hk4 hps4 hkp3 hm3
   go_wp2_with fail
   refine HRO.out.mono ?_
   rintro e w5 ⟨g, hof, SA5, Sc5, es5, PA5, Pc5, ps5, RA5, Rc5, rfl, hg5, hb5⟩
   obtain rfl := ofG_same HOG.out hof
   obtain ⟨G, hG⟩ : ∃ G, gT (T ++ D) = G := ⟨_, rfl⟩
   have hbx := HK4.out.box
   rw [hG] at HOG HIG HCN HPT5 hg5 hbx ⊢
   have HGE := hid hG
   obtain ⟨B, hB⟩ : ∃ B, w5.heap.size = B := ⟨_, rfl⟩
   obtain ⟨u, hu⟩ : ∃ u, w5.alloc (.cells #[.slice SA5 es5.length Sc5, .slice PA5 ps5.length Pc5, .int .i64 G.sk, .int .i64 G.fr, .slice RA5 G.rej.length Rc5] 28) = u := ⟨_, rfl⟩
   have su : u.heap.size = B + 1 := by rw [← hu, World.size_alloc, hB]
   have bu : Below w5.heap.size w5 u := by rw [← hu]; exact (Below.refl _ _).alloc (Nat.le_refl _) _
   have ku : Held u B 28 #[.slice SA5 es5.length Sc5, .slice PA5 ps5.length Pc5, .int .i64 G.sk, .int .i64 G.fr, .slice RA5 G.rej.length Rc5] := by rw [← hu, ← hB]; exact heap_alloc_new w5 _
   have b4u : Below w4.heap.size w4 u := hb5.trans (bu.mono hb5.size)
   have HBX5 := hid (hbx.below b4u hbx.lt)
   have HKU := hid ku
   have HGU := hid (hg5.below bu)
   have htu := HK4.out.tak.below b4u
   rw [hG] at htu
   have hp5 : ps.length ≤ 1000000000 ∧ G.rej.length ≤ 1000000000 := by
    have h1 := congrArg List.length htu.ptsp
    rw [List.length_map] at h1
    have := HCN.out
    exact ⟨by omega, by omega⟩
   have HGT := hid (fun (W : World) (h : Below u.heap.size u W) => rgot_any (htu.below h) HIG.out.trc hp5.1 hp5.2)
   have HOU := hid (HO4.out.below b4u)
   have HXU := hid (HX4.out.below b4u)
   have HBU := hid (HB4.out.trans (b4u.mono HB4.out.size))
   have HZU := hid b4u.size
   have HLO := hid (fun j e => (World.ownsRow.lt HO4.out.1 j e).2)
   have hnu : N ≤ u.heap.size := Nat.le_trans hn4 b4u.size
   have HH := hid (fun (W : World) (h : Below u.heap.size u W) => show SBox W s f t (sumN (T ++ D)) G.pts.length ∧ Held W B 28 #[.slice SA5 es5.length Sc5, .slice PA5 ps5.length Pc5, .int .i64 G.sk, .int .i64 G.fr, .slice RA5 G.rej.length Rc5] from ⟨HBX5.out.below h HBX5.out.lt, HKU.out.below h HKU.out.lt⟩)
   have HS := hid (fun (W : World) (h : SBox W s f t (sumN (T ++ D)) G.pts.length ∧ Held W B 28 #[.slice SA5 es5.length Sc5, .slice PA5 ps5.length Pc5, .int .i64 G.sk, .int .i64 G.fr, .slice RA5 G.rej.length Rc5]) => show W.cell? ⟨s, 1, none⟩ = some (.pointer (some ⟨t, 0, none⟩)) ∧ W.cell? ⟨B, 0, none⟩ = some (.slice SA5 es5.length Sc5) ∧ W.cell? ⟨B, 1, none⟩ = some (.slice PA5 ps5.length Pc5) ∧ W.cell? ⟨B, 2, none⟩ = some (.int .i64 G.sk) ∧ W.cell? ⟨B, 3, none⟩ = some (.int .i64 G.fr) ∧ W.cell? ⟨B, 4, none⟩ = some (.slice RA5 G.rej.length Rc5) from
    ⟨h.1.cell 1, h.2.cell 0, h.2.cell 1, h.2.cell 2, h.2.cell 3, h.2.cell 4⟩)
   have HSG := hid (show sameG G G = true by unfold sameG; exact decide_eq_true ⟨rfl, rfl, rfl, rfl, rfl⟩)
   obtain ⟨M6, hM6⟩ : ∃ M6, qs.length + qx.length = M6 := ⟨_, rfl⟩
   have hM6l : M6 ≤ 92160000 := by omega
   have HM6 := hid (show (qs ++ qx).length = M6 by rw [List.length_append, hM6])
   clear hof hg5 hb5 hbx bu ku b4u hG htu hp5
   go_wp2_with fail
   go_region_held3 (fun W => W.cell? ⟨s, 1, none⟩ = some (.pointer (some ⟨t, 0, none⟩)) ∧ W.cell? ⟨B, 0, none⟩ = some (.slice SA5 es5.length Sc5) ∧ W.cell? ⟨B, 1, none⟩ = some (.slice PA5 ps5.length Pc5) ∧ W.cell? ⟨B, 2, none⟩ = some (.int .i64 G.sk) ∧ W.cell? ⟨B, 3, none⟩ = some (.int .i64 G.fr) ∧ W.cell? ⟨B, 4, none⟩ = some (.slice RA5 G.rej.length Rc5))
    (first | exact HS.out _ (HH.out _ (Below.refl _ _)) | exact HS.out _ (HH.out _ (Below.refl _ _).drew) | exact HS.out _ hh10 | exact HS.out _ hh9 | exact HS.out _ (HH.out _ b8) | exact HS.out _ (HH.out _ b7) | exact HS.out _ (HH.out _ b6))
    (first
     | (refine step_append_guarded (by rfl) (.tmp 90) (.tmp 91) 25 55 (by rfl) N iP _ 2 32 Tryz.underlying25 hiP hpz hps hpb rfl (by omega) (.slice Ao qs.length co) qs.length (flatN qs) (by rfl) (HOU.out.below b8).1 _ (.slice A3 qx.length c3) qx.length (flatN qx) (by rfl) (ERow.of_own (HXU.out.below b8).1) (flatN_length _) (oneN _) (by rw [hM6]; unfold maxLen; omega) (by rw [hM6]; omega) (Nat.le_trans hnu b8.size) M6 hM6 (flatN (qs ++ qx)) (flatN_append _ _).symm ?_; intro A9 c9 w9 hO9 hg9; have nt : ∀ e, 55 ≠ e → NotT w8 (Value.slice Ao qs.length co).ownBlock e := (fun e he => NotT.of_own (HOU.out.below b8).1 he); have hh9 := (show SBox w9 s f t (sumN (T ++ D)) G.pts.length ∧ Held w9 B 28 #[.slice SA5 es5.length Sc5, .slice PA5 ps5.length Pc5, .int .i64 G.sk, .int .i64 G.fr, .slice RA5 G.rej.length Rc5] from ⟨(HH.out _ b8).1.nott (nt _ (by decide)) hg9, (HH.out _ b8).2.nott (nt _ (by decide)) hg9⟩); have h9 := hO9; rw [← HM6.out] at h9; have hj9 := (show OwnT w9 N (.slice A9 (qs ++ qx).length c9) (qs ++ qx) from OwnT.joined (HOU.out.below b8) (HXU.out.below b8) HMM3.out h9 hg9); have hp9 := own_rowp (HGU.out.below b8).pts (nt _ (by decide)) (nt _ (by decide)) HLO.out hg9; have hsp := rtsame_any _ _ _ _ _ _ w9 hj9.row hp9.row; rw [HPT5.out, (HGU.out).ptsp, decide_eq_true rfl, HM6.out] at hsp; have HSP := hid hsp; have HB9 := hid (HBU.out.trans ((b8.mono HBU.out.size).trans ((Below.refl _ _).grown hg9 (Nat.le_trans HBU.out.size b8.size) (fun j e => (Nat.le_trans hwN (World.ownsRow.lt (HOU.out.below b8).1 j e).1))))); clear hsp hp9 hj9 nt h9)
     | (go_at_call 19; (with_reducible refine (fix19_any _).mono ?_); rintro e w6 ⟨rfl, hb6⟩; have b6 : Below u.heap.size u w6 := (Below.refl u.heap.size u).drew.trans hb6)
     | (go_at_call 17; (with_reducible refine (HGT.out _ b6).mono ?_); rintro e w7 ⟨SA7, Sc7, es7, PA7, Pc7, ps7, RA7, Rc7, rfl, hg7, hb7⟩; have b7 : Below u.heap.size u w7 := b6.trans (hb7.mono b6.size); have hsm := rgsame_any G SA7 Sc7 es7 PA7 Pc7 ps7 RA7 Rc7 G SA5 Sc5 es5 PA5 Pc5 ps5 RA5 Rc5 w7 hg7.row (HGU.out.below b7).row; rw [HSG.out] at hsm; have HSM := hid hsm; clear hsm)
     | (go_at_call 11; (with_reducible refine HSM.out.mono ?_); rintro e w8 ⟨rfl, hb8⟩; have b8 : Below u.heap.size u w8 := b7.trans (hb8.mono b7.size))
     | (go_at_call 14; (with_reducible refine HSP.out.mono ?_); rintro e w10 ⟨rfl, hb10⟩; have hh10 := (show SBox w10 s f t (sumN (T ++ D)) G.pts.length ∧ Held w10 B 28 #[.slice SA5 es5.length Sc5, .slice PA5 ps5.length Pc5, .int .i64 G.sk, .int .i64 G.fr, .slice RA5 G.rej.length Rc5] from ⟨hh9.1.below hb10 hh9.1.lt, hh9.2.below hb10 hh9.2.lt⟩)))
   all_goals (
    have HBE := hid (HB9.out.trans (hb10.mono HB9.out.size))
    clear hb10 hh10 hh9
    go_wp2_with fail
    go_ret
    exact ⟨rfl, HBE.out⟩)
theorem lifted (os : Os) (started : os.Started) (H : Type) (enc : TypeId × Value → H) :
  ReturnsInHanded {} Tryz.checked os 5 .any (Rows.streamChunksSpec.pre6 enc Tryz.prog Tryz.f5 Rows.streamChunksRow.domain false) (Rows.streamChunksSpec.post enc Tryz.prog Tryz.f5 false true false false) := by
 refine returnsInHanded_of_change (C := Tryz.checked) own started (by kernel_rfl) Tryz.func5
  (ChangeSpec.witness6 (enc := enc) (C := Tryz.checked) false ⟨#[], #[.slice none 0 0, .slice none 0 0], []⟩ 8 (by kernel_rfl) (by kernel_rfl) (by kernel_rfl) (by kernel_rfl)) ?_
 intro W base args ds gs before hval0 hW hcnd _
 have hval : ∀ (j : Nat) t v, Tryz.f5.params[j]? = some t → args[j]? = some v → Value.okWide Tryz.prog W .any base t v := hval0
 have hW' := hW
 obtain ⟨p, q, hA0, hV, rfl, hfz, hnd⟩ := hW
 have hA : DataW.TrodAll enc Tryz.prog W 0 (fun _ => true) true Tryz.f5.params.toList args.toList ds p := hA0
 rw [Tryz.params5] at hA hval
 obtain ⟨v0, vs0, d0, ds0, p0, q0, hargs, rfl, rfl, h0, r0⟩ := trodAll_cons hA
 obtain ⟨v1, vs1, d1, ds1, p1, q1, rfl, rfl, rfl, h1, r1⟩ := trodAll_cons r0
 obtain ⟨rfl, rfl, rfl⟩ := trodAll_nil r1
 obtain rfl : args = #[v0, v1] := by cases args; simp_all
 obtain ⟨rfl, rfl⟩ := trodVars_none hV
 obtain ⟨a0, len0, cap0, rfl⟩ := okWide_slice Tryz.underlying22 (hval 0 22 v0 rfl rfl)
 have k0 := h0
 have lt0 : ∀ x ∈ p0, x.block < W.heap.size := by obtain ⟨m, hm⟩ := k0; exact DataW.trod_lt m _ _ _ hm
 obtain ⟨z0, w0⟩ : ∃ zs, IsRow .u8 W a0 len0 cap0 zs := by
  obtain ⟨fuel, hf⟩ := h0
  rcases open_ints Tryz.underlying22 Tryz.underlying5 (by kernel_rfl) hf with ⟨hcs, _⟩ | ⟨x, l, c, zs, hcs, _, hl, hm, hz, _, hcell, hwz⟩
  ·simp [Value.cells] at hcs
   obtain ⟨rfl, rfl, rfl⟩ := hcs
   exact ⟨[], .inl ⟨rfl, rfl, rfl, rfl⟩⟩
  ·simp [Value.cells] at hcs
   obtain ⟨rfl, rfl, rfl⟩ := hcs
   exact ⟨zs, .inr ⟨_, rfl, hl, hm, by simpa using hz, hcell, hwz⟩⟩
 obtain ⟨a1, len1, cap1, rfl⟩ := okWide_slice Tryz.underlying56 (hval 1 56 v1 rfl rfl)
 have k1 := h1
 have lt1 : ∀ x ∈ p1, x.block < W.heap.size := by obtain ⟨m, hm⟩ := k1; exact DataW.trod_lt m _ _ _ hm
 obtain ⟨z1, w1⟩ : ∃ zs, IsRow .i64 W a1 len1 cap1 zs := by
  obtain ⟨fuel, hf⟩ := h1
  rcases open_ints Tryz.underlying56 Tryz.underlying3 (by kernel_rfl) hf with ⟨hcs, _⟩ | ⟨x, l, c, zs, hcs, _, hl, hm, hz, _, hcell, hwz⟩
  ·simp [Value.cells] at hcs
   obtain ⟨rfl, rfl, rfl⟩ := hcs
   exact ⟨[], .inl ⟨rfl, rfl, rfl, rfl⟩⟩
  ·simp [Value.cells] at hcs
   obtain ⟨rfl, rfl, rfl⟩ := hcs
   exact ⟨zs, .inr ⟨_, rfl, hl, hm, by simpa using hz, hcell, hwz⟩⟩
 clear hA0 hval0
 refine (walk a0 len0 cap0 z0 a1 len1 cap1 z1 W w0 w1).mono fun e W' ⟨he, bel⟩ => ?_
 subst he
 exact ⟨_, rfl, _, _, _, [], _, [], hW', trodAll_mk1 (shut_bool Tryz.underlying4 _), (trodAll_cons_mk (Below.trod laidOut (by kernel_rfl) (of_decide_eq_true (by kernel_rfl)) k0 bel lt0) (trodAll_cons_mk (Below.trod laidOut (by kernel_rfl) (of_decide_eq_true (by kernel_rfl)) k1 bel lt1) (trodAll_mk0))), rfl, bel.frame _, fun h => by cases h⟩
theorem over : Rows.streamChunksRow.holds Tryz.pinned (OpenSpec.ofChange Rows.streamChunksSpec) :=
 OpenClaim.holds_of_wide 5 Tryz.f5 rfl rfl rfl rfl rfl rfl rfl ⟨rfl, rfl, rfl, rfl, rfl⟩ rfl rfl rfl rfl rfl (by kernel_rfl) Tryz.func5 (by kernel_rfl)
  (of_decide_eq_true (by kernel_rfl)) (by unfold Func.isWrapper; first | (rw [if_pos (by decide +kernel)]; kernel_rfl) | (rw [if_neg (by decide +kernel)]; exact ⟨rfl, rfl⟩))
  (fun os started H enc _ => lifted os started H enc)
theorem proved : Rows.StreamChunksSaid := over
end Go.Proofs.YtnlfcmbpocdpjaaGreat.streamChunks
