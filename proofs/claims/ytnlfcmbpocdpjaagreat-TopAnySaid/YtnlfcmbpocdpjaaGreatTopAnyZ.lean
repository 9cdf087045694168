/-
  At every slice of bytes and every size of chunks the law on any bytes, given to a stream, answers true, and nothing that lay in memory has changed. No condition.
-/
import Derived.Test.YtnlfcmbpocdpjaaGreatRows
import Derived.WalkKit
import Derived.ProofKit
import Derived.OpenShut
import Derived.ShutString
import Derived.ChangeOld
import Derived.Below
import Derived.Lib.SmallJoins
import Derived.Deep.LoopGhost
import Derived.Test.YtnlfcmbpocdpjaaGreatTopAnyZ16
set_option maxRecDepth 100000
set_option maxHeartbeats 16000000
namespace Go.Proofs.YtnlfcmbpocdpjaaGreat.topAny
open Lib (hid)
open Go.Proofs.YtnlfcmbpocdpjaaGreat
open Go.ChangeShapes Go.WideShapes Go.ChangeAt Go.RowKit
open Go.ChangeMaps (open_string shut_string)
set_option linter.unusedVariables false
theorem own : ownKnob Tryz.prog.godebug = none := by kernel_rfl
theorem laidOut : laidOutB Tryz.prog = true := by kernel_rfl
theorem walk (a0 : Option Addr) (len0 cap0 : Nat) (z0 : List Int) (a1 : Int) (w : World) (w0 : IsRow .u8 w a0 len0 cap0 z0) (w1 : (Lit.int .u8 a1).wf = true) :
  Calls Tryz.prog 6 #[.slice a0 len0 cap0, .int .u8 a1] w fun e w' => e = .returned (.bool true) ∧ Below w.heap.size w w' := by
 obtain ⟨xs, rfl, hrow, hbx⟩ := Row.of_arg w0
 obtain ⟨n0, n1⟩ := bounds_u8 w1
 clear w0 w1
 by_cases h12 : 1200 < xs.length
 ·have h12i : (1200 : Int) < (xs.length : Int) := by omega
  clear hrow hbx h12
  go_enter Tryz.func6, Tryz.ntmps6
  go_wp2_with fail
  refine (speaks_any _).mono ?_
  rintro e w3 ⟨rfl, hb3⟩
  go_wp2_with fail
  go_ret
  exact ⟨rfl, hb3⟩
 have h12i : ¬ (1200 : Int) < (xs.length : Int) := by omega
 have hl : xs.length ≤ 1200 := by omega
 obtain ⟨hxc1, hxc2⟩ : xs.length ≤ cap0 ∧ cap0 ≤ 9223372036854775807 := by
  obtain ⟨_, _, hv, q1, q2, _⟩ := hrow
  injection hv with _ _ e3
  subst e3
  unfold maxLen at q2
  exact ⟨q1, by omega⟩
 obtain ⟨iP, hiP, hpz, hps, hpb⟩ := info_parts Tryz.infoPoint
 have HROW := hid hrow
 have HBX := hid hbx
 have HTH := hid (through_any w a0 cap0 xs hbx (by omega) (fun l h => by have := (h.le hbx).1; omega) hrow (1 + a1))
 have hcv : IntKind.i64.wrap a1 = a1 := IntWalk.i64_in _ (by omega)
 have hcv2 : IntKind.i64.wrap (1 + a1) = 1 + a1 := IntWalk.i64_in _ (by omega)
 clear hrow hbx h12
 go_enter Tryz.func6, Tryz.ntmps6
 go_wp2_with fail
 refine HTH.out.mono ?_
 rintro e w1 ⟨Ao, co, qs, G, SA, Sc, es, PA, Pc, ps, RA, Rc, rfl, hog, hpt, hoo, hgo, hb1⟩
 obtain ⟨B, hB⟩ : ∃ B, w1.heap.size = B := ⟨_, rfl⟩
 obtain ⟨u, hu⟩ : ∃ u, w1.alloc (.cells #[.slice SA es.length Sc, .slice PA ps.length Pc, .int .i64 G.sk, .int .i64 G.fr, .slice RA G.rej.length Rc] 28) = u := ⟨_, rfl⟩
 have su : u.heap.size = B + 1 := by rw [← hu, World.size_alloc, hB]
 have bu : Below w1.heap.size w1 u := by rw [← hu]; exact (Below.refl _ _).alloc (Nat.le_refl _) _
 have ku : Held u B 28 #[.slice SA es.length Sc, .slice PA ps.length Pc, .int .i64 G.sk, .int .i64 G.fr, .slice RA G.rej.length Rc] := by rw [← hu, ← hB]; exact heap_alloc_new w1 _
 have HKU := hid ku
 have HGU := hid (hgo.below bu)
 have HOU := hid (hoo.below bu)
 have HBU := hid (hb1.trans (bu.mono hb1.size))
 have HOG := hid hog
 have HPT := hid hpt
 have HRT := hid (ofG_right HBX.out hog)
 have HBN := hid (ofG_bound HBX.out (by omega) hog)
 have HV := hid (fun (W : World) (h : Below u.heap.size u W) => show W.cell? ⟨B, 0, none⟩ = some (.slice SA es.length Sc) ∧ W.cell? ⟨B, 1, none⟩ = some (.slice PA ps.length Pc) ∧ W.cell? ⟨B, 2, none⟩ = some (.int .i64 G.sk) ∧ W.cell? ⟨B, 3, none⟩ = some (.int .i64 G.fr) ∧ W.cell? ⟨B, 4, none⟩ = some (.slice RA G.rej.length Rc) from by
  have k := HKU.out.below h HKU.out.lt
  exact ⟨k.cell 0, k.cell 1, k.cell 2, k.cell 3, k.cell 4⟩)
 have HRO := hid (fun (W : World) (h : Below u.heap.size u W) => readOf_any a0 cap0 xs HBX.out (by omega) W ((HROW.out.below (HBU.out.trans (h.mono HBU.out.size))).more (by have := HBU.out.size; have := h.size; omega)))
 have HSG := hid (show sameG G G = true by unfold sameG; exact decide_eq_true ⟨rfl, rfl, rfl, rfl, rfl⟩)
 have HPP := hid hgo.ptsp
 have HRJ := hid (rej_place HBX.out hog)
 clear hog hpt hoo hgo hb1 bu ku
 go_wp2_with fail
 go_region_held3 (fun W => W.cell? ⟨B, 0, none⟩ = some (.slice SA es.length Sc) ∧ W.cell? ⟨B, 1, none⟩ = some (.slice PA ps.length Pc) ∧ W.cell? ⟨B, 2, none⟩ = some (.int .i64 G.sk) ∧ W.cell? ⟨B, 3, none⟩ = some (.int .i64 G.fr) ∧ W.cell? ⟨B, 4, none⟩ = some (.slice RA G.rej.length Rc))
  (first | exact HV.out _ (Below.refl _ _) | exact HV.out _ (Below.refl _ _).drew | exact HV.out _ b5 | exact HV.out _ b4 | exact HV.out _ b3)
  (first
   | (go_at_call 12; (with_reducible refine (HRO.out _ (Below.refl _ _).drew).mono ?_); rintro e w3 ⟨g3, hof3, SA3, Sc3, es3, PA3, Pc3, ps3, RA3, Rc3, rfl, hg3, hb3⟩; obtain rfl := ofG_same HOG.out hof3; have b3 : Below u.heap.size u w3 := (Below.refl u.heap.size u).drew.trans hb3; have hsm := rgsame_any G SA Sc es PA Pc ps RA Rc G SA3 Sc3 es3 PA3 Pc3 ps3 RA3 Rc3 w3 (HGU.out.below b3).row hg3.row; rw [HSG.out] at hsm; have HSM := hid hsm; clear hsm hof3)
   | (go_at_call 11; (with_reducible refine HSM.out.mono ?_); rintro e w4 ⟨rfl, hb4⟩; have b4 : Below u.heap.size u w4 := b3.trans (hb4.mono b3.size); have hsp := rtsame_any Ao co qs PA Pc ps w4 (HOU.out.below b4).row (HGU.out.below b4).pts.row; rw [HPT.out, HPP.out, decide_eq_true rfl] at hsp; have HSP := hid hsp; clear hsp)
   | (go_at_call 14; (with_reducible refine HSP.out.mono ?_); rintro e w5 ⟨rfl, hb5⟩; have b5 : Below u.heap.size u w5 := b4.trans (hb5.mono b4.size)))
 all_goals (
  have z5 := b5.size
  have HB5 := hid (HBU.out.trans (b5.mono HBU.out.size))
  have hku5 := HKU.out.below b5 HKU.out.lt
  have HG5 := hid (HGU.out.below b5)
  have HK5 := hid hku5
  have hB5 := hku5.lt
  clear b5 b4 b3 hb5 hb4 hb3 hg3 hku5
  obtain ⟨M, hM⟩ : ∃ M, w5.heap.size = M := ⟨_, rfl⟩
  obtain ⟨v, hv⟩ : ∃ v, w5.alloc (.map #[] 0) = v := ⟨_, rfl⟩
  have bv : Below w5.heap.size w5 v := by rw [← hv]; exact (Below.refl _ _).alloc (Nat.le_refl _) _
  have hct : Cnt v M [] := by rw [← hv, ← hM]; exact Cnt.new w5
  have hmm := @run_makeMap Tryz.prog
  have kv := HK5.out.below bv hB5
  have x4 := kv.cell 4
  simp at x4
  have hBM : B < M := by rw [← hM]; exact hB5
  rw [hM] at bv
  have HBV := hid bv
  have HCT := hid hct
  have hvM : M < v.heap.size := hct.lt
  obtain ⟨r, hr⟩ : ∃ r, G.rej.length = r := ⟨_, rfl⟩
  have HR := hid hr
  have hrl : r ≤ 1000000000 := by rw [← hr]; exact HBN.out.2
  obtain ⟨-, hRc1, hRc2⟩ := (ERow.of_own HG5.out.rej).len
  rw [hr] at x4 hRc1
  clear bv hct kv hr
  go_wp2_with fail
  go_loopg [59] r (fun gk iv wr => ∃ k : Nat, iv = .int .i64 k ∧ k ≤ r ∧ Hid (r - k = gk) ∧ Hid (Cnt wr M ((G.rej.take k).map (·.1))) ∧ Hid (Below M w5 wr))
  case atStart => exact ⟨0, rfl, Nat.zero_le _, hid rfl, HCT, HBV⟩
  case round =>
   obtain ⟨k, rfl, hk, HGK, HCW, HBW⟩ := hrel
   by_cases hlt : k < r
   ·obtain ⟨d, hd⟩ : ∃ d, G.rej[k]? = some d := ⟨_, List.getElem?_eq_getElem (by rw [HR.out]; exact hlt)⟩
    have her : ERow wr M (.slice RA G.rej.length Rc) G.rej.length (flatJ G.rej) := by
     have h := ERow.of_own HG5.out.rej
     rw [hM] at h
     exact h.below HBW.out
    obtain ⟨b, o, rfl, hb, hc0⟩ := her.block (by rw [HR.out]; omega)
    obtain ⟨m0, m1⟩ := flatJ_at G.rej k d hd
    have y0 := hc0 _ _ m0
    have y1 := hc0 _ _ m1
    rw [← Nat.add_assoc] at y1
    obtain ⟨un, hun⟩ : ∃ un, wr.alloc (.cells #[.int .i64 d.1, .int .i64 d.2] 38) = un := ⟨_, rfl⟩
    have kn : Held un wr.heap.size 38 #[.int .i64 d.1, .int .i64 d.2] := by rw [← hun]; exact heap_alloc_new wr _
    have bn : Below wr.heap.size wr un := by rw [← hun]; exact (Below.refl _ _).alloc (Nat.le_refl _) _
    have q0 := kn.cell 0
    simp at q0
    have hcn := HCW.out.below bn HCW.out.lt
    have hd64 : (Lit.int .i64 d.1).wf = true := i64_wf (by have := HRJ.out d (List.mem_of_getElem? hd); omega)
    have hlk := hcn.look hd64
    obtain ⟨wz, hup, hcz, hgz⟩ := hcn.add hd64 (by rw [List.length_map, List.length_take]; omega)
    have hql : ((G.rej.take k).map (·.1)).count d.1 ≤ 1000000000 := Nat.le_trans List.count_le_length (by rw [List.length_map, List.length_take]; omega)
    obtain ⟨q, hq⟩ : ∃ q, ((G.rej.take k).map (·.1)).count d.1 = q := ⟨_, rfl⟩
    rw [hq] at hlk hup hql
    have hsn : (G.rej.take k).map (·.1) ++ [d.1] = (G.rej.take (k + 1)).map (·.1) := by rw [List.take_add_one, hd, List.map_append]; rfl
    rw [hsn] at hcz
    have HCZ := hid hcz
    have HBZ := hid ((HBW.out.trans (bn.mono (Nat.le_of_lt HCW.out.lt))).grown hgz (by have := HCW.out.lt; have := bn.size; omega) (fun j e => by injection e with e; omega))
    have hwq : IntKind.i64.wrap ((q : Int) + 1) = (q : Int) + 1 := IntWalk.i64_in _ (by omega)
    clear hd her hc0 m0 m1 kn bn hcn hcz hgz hq hsn x4
    go_wp2_with fail
    go_roundg (r - (k + 1))
    case measure => have := HGK.out; omega
    case rel => exact ⟨k + 1, by go_num, hlt, hid rfl, HCZ, HBZ⟩
   ·obtain rfl : k = r := by omega
    have kw := HK5.out.below HBW.out hBM
    have hwM := HCW.out.lt
    clear x4
    have x2 := kw.cell 2
    simp at x2
    have HCN := hid (show Cnt wr M (G.rej.map (·.1)) from by have h := HCW.out; rw [List.take_of_length_le (by rw [HR.out]; exact Nat.le_refl _)] at h; exact h)
    have HFR := hid (fun (W : World) (h : Below wr.heap.size wr W) => frames_any a0 cap0 xs (by omega) W ((HROW.out.below (HB5.out.trans ((HBW.out.trans (h.mono (by omega))).mono (by have := HB5.out.size; omega)))).more (by have := HB5.out.size; have := HBW.out.size; have := h.size; omega)) HBX.out)
    clear kw
    go_wp2_with fail
    go_region
    all_goals (
     have hbd : Below wr.heap.size wr wr.drew := (Below.refl _ _).drew
     have HF6 := hid (HFR.out _ hbd)
     have HBD := hid hbd
     obtain ⟨wd, hwd⟩ : ∃ wd, wr.drew = wd := ⟨_, rfl⟩
     rw [hwd] at HF6 HBD ⊢
     clear hwd hbd
     go_wp2_with fail
     refine HF6.out.mono ?_
     rintro e w7 ⟨sv, fs, l, rfl, hparts, hfs, hsg, hb7⟩
     obtain ⟨A, c, rfl, hc, hcm⟩ := hsg.form
     have hGl : G = gT l := ofG_same HOG.out ⟨l, hparts, rfl⟩
     have hwd7 := hb7.size
     have hbw7 : Below wr.heap.size wr w7 := HBD.out.trans (hb7.mono HBD.out.size)
     have HB57 := hid (HBW.out.trans (hbw7.mono (Nat.le_of_lt hwM)))
     have HC7 := hid (HCN.out.below hbw7 hwM)
     have hle := hparts.le HBX.out
     obtain ⟨t1, -, -⟩ := takeL_all l noG
     have t5 := Tiled.sum l 0 _ (hparts.tiled HBX.out (Nat.zero_le _))
     have t6 := sumN_parts l
     have hsk : G.sk = (skipN l : Int) := by
      have h : (gT l).sk = noG.sk + (skipN l : Int) := t1
      rw [hGl, h]
      show (0 : Int) + _ = _
      omega
     obtain ⟨FL, hFL⟩ : ∃ FL, framesS l = FL := ⟨_, rfl⟩
     rw [hFL] at t6 hfs
     obtain ⟨m, hm2⟩ : ∃ m, fs.length = m := ⟨_, rfl⟩
     have hFm : FL.length = m := by rw [← hfs, List.length_map, hm2]
     have hml : m ≤ 1200 := by
      have := List.length_filter_le (·.isf) l
      have h2 : (framesS l).length ≤ l.length := this
      rw [hFL, hFm] at h2
      omega
     obtain ⟨F, hF⟩ : ∃ F : Nat → Int, F = fun k => G.sk + (sumN (FL.take k) : Int) := ⟨_, rfl⟩
     have hF0 : F 0 = G.sk := by rw [hF]; simp [sumN]
     have hFm2 : F m = (xs.length : Int) := by
      rw [hF]
      show G.sk + (sumN (FL.take m) : Int) = xs.length
      rw [List.take_of_length_le (by omega), hsk]
      omega
     have hFs : ∀ k (f : Sg), FL[k]? = some f → F (k + 1) = F k + (f.n : Int) := fun k f h => by
      rw [hF]
      show G.sk + (sumN (FL.take (k + 1)) : Int) = G.sk + (sumN (FL.take k) : Int) + f.n
      rw [sumN_step h]
      omega
     have hFb : ∀ k, 0 ≤ F k ∧ F k ≤ 1200 := fun k => by
      rw [hF]
      show 0 ≤ G.sk + (sumN (FL.take k) : Int) ∧ G.sk + (sumN (FL.take k) : Int) ≤ 1200
      have h1 : sumN (FL.take k) + sumN (FL.drop k) = sumN FL := by rw [← sumN_append, List.take_append_drop]
      omega
     have HF0 := hid hF0
     have HFM := hid hFm2
     have HFS := hid hFs
     have HFB := hid hFb
     have HFFS := hid hfs
     have HSEG := hid hsg.row
     have HPA := hid hparts
     have HFL := hid hFL
     have HFM2 := hid hFm
     have HMM := hid hm2
     have HGL := hid hGl
     have HCT2 := hid (fun j => hG_cnts HBX.out (by omega) hparts hFL j)
     obtain ⟨n7, hn7⟩ : ∃ n7, w7.heap.size = n7 := ⟨_, rfl⟩
     rw [hm2] at hc HSEG ⊢
     have HN7 := hid hn7
     have hwM5 : w.heap.size ≤ M := by rw [← hM]; exact HB5.out.size
     have hM7 : M < n7 := by rw [← hn7]; exact HC7.out.lt
     have HW7 := hid (show Below w.heap.size w w7 from HB5.out.trans (HB57.out.mono hwM5))
     clear hsg hb7 hfs hparts t1 t5 t6 hsk hF hF0 hFm2 hFs hFb hle hFL hFm hm2 hGl hbw7 x2
     go_wp2_with fail
     go_loopg [11, 12, 13, 14, 15, 74] m (fun gk av sv hv fv bv iv wr => AnyLoop w7 n7 m FL F gk av sv hv fv bv iv wr)
     case atStart => exact ⟨0, none, 0, [], none, 0, [], rfl, rfl, rfl, rfl, by rw [HF0.out], rfl, Nat.zero_le _, hid rfl, hid (OwnT.nil _ _), hid rfl, hid (OwnP.nil _ _), hid rfl, hid (Below.refl _ _)⟩
     case round =>
      obtain ⟨j, Aa, ca, al, As, cs, sg, rfl, rfl, rfl, rfl, rfl, rfl, hj, HGKJ, HAL, HAP, HSGN, HSP, HBJ⟩ := hrel
      by_cases hlt2 : j < m
      ·obtain ⟨p, hp⟩ : ∃ p, fs[j]? = some p := ⟨_, List.getElem?_eq_getElem (by rw [HMM.out]; exact hlt2)⟩
       have hbj : Below w7.heap.size w7 wr := by rw [HN7.out]; exact HBJ.out
       have hz7 : n7 ≤ wr.heap.size := by rw [← HN7.out]; exact hbj.size
       obtain ⟨b, o, rfl, hb, y0, y1, y2, y3, y4, -⟩ := (HSEG.out.below hbj).at hp
       have hfk : FL[j]? = some p.s := by rw [← HFFS.out, List.getElem?_map, hp]; rfl
       have hin : p.s ∈ l := framesS_mem (by rw [HFL.out]; exact List.mem_of_getElem? hfk)
       have hisf : p.s.isf = true := by have h := List.mem_of_getElem? hfk; rw [← HFL.out] at h; exact (List.mem_filter.1 h).2
       have hget := HPA.out.get hin hisf
       have hpay := parts_pay HBX.out HPA.out p.s hin
       have hfn := (HPA.out.le HBX.out).2.2 p.s hin
       have hst := HFS.out j p.s hfk
       have href := refused_iff HBX.out HPA.out HFL.out hfk
       obtain ⟨⟨sf, sn, si, sk2, sp⟩, pA, pc⟩ := p
       simp only at y0 y1 y2 y3 y4 hst hisf hget hpay hfn href
       subst hisf
       have hbF := HFB.out j
       have hbF2 := HFB.out (j + 1)
       have hct2 := HCT2.out j
       rw [HFM2.out] at hct2
       obtain ⟨un, hun⟩ : ∃ un, wr.alloc (.cells #[.int .i64 sf, .int .i64 sn, .bool true, .int .i64 sk2, .slice pA sp.length pc] 46) = un := ⟨_, rfl⟩
       have kn : Held un wr.heap.size 46 #[.int .i64 sf, .int .i64 sn, .bool true, .int .i64 sk2, .slice pA sp.length pc] := by rw [← hun]; exact heap_alloc_new wr _
       have bn : Below wr.heap.size wr un := by rw [← hun]; exact (Below.refl _ _).alloc (Nat.le_refl _) _
       have hW : Below w.heap.size w un := (HW7.out.trans (hbj.mono HW7.out.size)).trans (bn.mono (by have := HW7.out.size; have := hbj.size; omega))
       have q0 := kn.cell 0
       simp at q0
       have hat := at_new a0 cap0 xs (by omega) un ((HROW.out.below hW).more hW.size) HBX.out sf (by omega)
       rw [hget] at hat
       have HAT := hid hat
       have HKN := hid kn
       have HBN1 := hid bn
       have HREF := hid href
       have HPAY := hid hpay
       have HFK := hid hfk
       have HST := hid hst
       have HWU := hid hW
       have hwF : IntKind.i64.wrap (F j + (sn : Int)) = F j + (sn : Int) := IntWalk.i64_in _ (by omega)
       obtain ⟨fj, hfj⟩ : ∃ fj, (hG FL j).fr = fj := ⟨_, rfl⟩
       rw [hfj] at hct2 ⊢
       have HFJ := hid hfj
       have hwf : IntKind.i64.wrap (fj + 1) = fj + 1 := IntWalk.i64_in _ (by omega)
       obtain ⟨isg, hisg⟩ : ∃ isg, (hG FL j).isg = isg := ⟨_, rfl⟩
       rw [hisg]
       have HISG := hid hisg
       clear hp hin hget hpay hst href kn bn hW hat hfk hfj hisg
       go_wp2_with fail
       refine HAT.out.mono ?_
       rintro e w8 ⟨fA, fc, rfl, hfrw, hb8, -⟩
       simp only
       obtain ⟨u8, hu8⟩ : ∃ u8, w8.alloc (.cells #[.int .i64 sk2, .slice fA sp.length fc] 44) = u8 := ⟨_, rfl⟩
       have k8 : Held u8 w8.heap.size 44 #[.int .i64 sk2, .slice fA sp.length fc] := by rw [← hu8]; exact heap_alloc_new w8 _
       have bu8 : Below w8.heap.size w8 u8 := by rw [← hu8]; exact (Below.refl _ _).alloc (Nat.le_refl _) _
       have hb18 : Below un.heap.size un u8 := hb8.trans (bu8.mono hb8.size)
       have kn8 := HKN.out.below hb18 HKN.out.lt
       have hbw8 : Below wr.heap.size wr u8 := HBN1.out.trans (hb18.mono HBN1.out.size)
       obtain ⟨z0, z1⟩ := cC2 k8
       have x1 := kn8.cell 1
       have x3 := kn8.cell 3
       have x0 := kn8.cell 0
       simp at z0 z1 x1 x3 x0
       have hlk := (HC7.out.below ((hbj.trans (hbw8.mono hbj.size))) HC7.out.lt).look (k := (sf : Int)) (i64_wf (by omega))
       obtain ⟨q, hq⟩ : ∃ q, (G.rej.map (·.1)).count (sf : Int) = q := ⟨_, rfl⟩
       rw [hq] at hlk
       have hqr : 0 < q ↔ (frameG (hG FL j) sk2 sp).2 ≠ 0 := by rw [← hq, List.count_pos_iff, HGL.out]; exact HREF.out
       have HQR := hid hqr
       have HBW8 := hid hbw8
       have HPW := hid ((hfrw.below bu8).more bu8.size)
       clear hfrw hb8 bu8 hb18 kn8 hbw8 hq hqr k8 hbj
       by_cases he : (frameG (hG FL j) sk2 sp).2 ≠ 0
       ·have hq0 : (q : Int) > 0 := by have := HQR.out.2 he; omega
        have HE := hid he
        clear he
        go_wp2_with fail
        go_roundg (m - (j + 1))
        case measure => have := HGKJ.out; omega
        case rel =>
         have h := AnyLoop.skip HFK.out rfl HE.out hlt2 (by omega) HAL.out HAP.out HSGN.out HSP.out HBJ.out HBW8.out hz7 HST.out
         rw [HISG.out, HFJ.out] at h
         exact h
       ·have he0 := Decidable.not_not.1 he
        have hq0 : ¬ (q : Int) > 0 := fun h => he (HQR.out.1 (by omega))
        have HE := hid he0
        clear he
        by_cases hk1 : sk2 = 1
        ·obtain ⟨g1, g2, -, -, -, -⟩ := hG_sig HFK.out rfl he0 hk1
         have HK1 := hid hk1
         have HBS := hid (bsget_any fA fc sp (by have := HPAY.out.1; omega) HPAY.out.2 u8 HPW.out)
         have G1 := hid g1
         have G2 := hid g2
         rw [hk1] at z0 x3
         clear g1 g2 he0 hk1
         go_wp2_with fail
         refine HBS.out.mono ?_
         rintro e w9 ⟨⟨A2, c2, es2, rfl, ho2, hp2⟩, hb9⟩
         rw [G1.out]
         have hb89 := HBW8.out.trans (hb9.mono HBW8.out.size)
         have HES := hid (show OwnP w9 n7 (.slice A2 es2.length c2) es2 from ho2.base (by have := HBW8.out.size; omega))
         have HP2 := hid hp2
         have HB9 := hid hb89
         cases isg with
         | false =>
          clear ho2 hp2 hb9 hb89
          go_wp2_with fail
          go_roundg (m - (j + 1))
          case measure => have := HGKJ.out; omega
          case rel => exact AnyLoop.sign HFK.out rfl HE.out HK1.out hlt2 (by omega) HAL.out HAP.out HES.out HP2.out HBJ.out HB9.out hz7 HST.out (by rw [HFJ.out])
         | true =>
          have hsm := rsigsame_any A2 c2 es2 As cs sg w9 ho2.row (HSGN.out.below hb89).row
          rw [hp2, HSP.out, G2.out HISG.out, decide_eq_true rfl] at hsm
          have HSM := hid hsm
          clear ho2 hp2 hb9 hb89 hsm
          go_wp2_with fail
          refine HSM.out.mono ?_
          rintro e w10 ⟨rfl, hb10⟩
          have HES10 := hid (HES.out.below hb10)
          have HB10 := hid (HB9.out.trans (hb10.mono HB9.out.size))
          clear hb10
          go_wp2_with fail
          go_roundg (m - (j + 1))
          case measure => have := HGKJ.out; omega
          case rel => exact AnyLoop.sign HFK.out rfl HE.out HK1.out hlt2 (by omega) HAL.out HAP.out HES10.out HP2.out HBJ.out HB10.out hz7 HST.out (by rw [HFJ.out])
        ·obtain ⟨g1, g2, -, -, g5, -⟩ := hG_pts HFK.out rfl he0 hk1
         have HK1 := hid hk1
         have hk1b : (sk2 == 1) = false := beq_false_of_ne hk1
         obtain rfl : isg = true := HISG.out.symm.trans g1
         have hug := uget_any As cs sg fA fc sp HPAY.out.2 (by have := HPAY.out.1; omega) u8 (HSGN.out.below HBW8.out).row HPW.out
         rw [HSP.out] at hug
         have HUG := hid hug
         have G2 := hid g2
         have hct3 := (HCT2.out (j + 1)).1
         rw [g5, List.length_append, HFM2.out, ← HAP.out, List.length_map] at hct3
         clear g1 g2 g5 he0 hug
         go_wp2_with fail
         refine HUG.out.mono ?_
         rintro e w9 ⟨A2, c2, q2, rfl, ho2, hp2, hb9⟩
         rw [G2.out]
         have hb89 := HBW8.out.trans (hb9.mono HBW8.out.size)
         have hql := congrArg List.length hp2
         rw [List.length_map] at hql
         rw [← hql] at hct3
         obtain ⟨N6, hN6⟩ : ∃ N6, al.length + q2.length = N6 := ⟨_, rfl⟩
         have hN6l : N6 ≤ 10000000 := by omega
         have HQ2 := hid (show OwnT w9 n7 (.slice A2 q2.length c2) q2 from ho2.base (by have := HBW8.out.size; omega))
         have HX2 := hid (ERow.of_own ho2.1)
         have HA9 := hid (HAL.out.below hb89)
         have HP2 := hid hp2
         have HB9 := hid hb89
         have HN6 := hid hN6
         have hz9 : n7 ≤ w9.heap.size := Nat.le_trans hz7 hb89.size
         clear ho2 hp2 hb9 hb89 hql hct3
         go_wp2_with (at_builtin; refine wpList_append_erow _ rfl _ _ 25 55 rfl n7 iP _ 2 32 Tryz.underlying25 hiP hpz hps hpb rfl (by decide) (.slice Aa al.length ca) al.length (flatN al) (by rfl) HA9.out.1 _ _ q2.length (flatN q2) (by rfl) HX2.out (flatN_length _) (oneN _) (by rw [hN6]; unfold maxLen; omega) (by rw [hN6]; omega) hz9 N6 hN6 (flatN (al ++ q2)) (flatN_append _ _).symm ?_; intro A6 c6 w6 hown6 hg6 hat6; have HW6 := hid hown6; have HG6 := hid hg6; clear hown6 hg6 hat6)
         go_roundg (m - (j + 1))
         case measure => have := HGKJ.out; omega
         case rel => exact AnyLoop.points HFK.out rfl HE.out HK1.out hlt2 (by omega) HAL.out HAP.out HSGN.out HSP.out HQ2.out HP2.out HBJ.out HB9.out hz7 HST.out (by rw [HFJ.out]) HN6.out HW6.out HG6.out
      ·obtain rfl : j = m := by omega
       have hbj : Below w7.heap.size w7 wr := by rw [HN7.out]; exact HBJ.out
       have h57 : Below w5.heap.size w5 wr := by rw [hM]; exact HB57.out.trans (hbj.mono (by rw [HN7.out]; omega))
       obtain ⟨e1, -, e3, e4⟩ := hG_all (j := j) HFL.out (by rw [HFM2.out]; exact Nat.le_refl _)
       rw [← HGL.out] at e1 e3 e4
       have hck := tcheck_any As cs sg Aa ca al wr HSGN.out.row HAL.out.row
       rw [HSP.out, HAP.out, e1, e3, HRT.out.trc] at hck
       generalize (checkT G.sig G.pts).2 = T2 at hck
       have HCK := hid hck
       have HH5 := hid h57
       have HBW := hid (HW7.out.trans (hbj.mono HW7.out.size))
       have HAPE := hid (HAP.out.trans e3)
       have HSPE := hid (HSP.out.trans e1)
       have HKB := hid (fun (W : World) (h : Below wr.heap.size wr W) => show W.cell? ⟨B, 0, none⟩ = some (.slice SA es.length Sc) ∧ W.cell? ⟨B, 1, none⟩ = some (.slice PA ps.length Pc) ∧ W.cell? ⟨B, 3, none⟩ = some (.int .i64 G.fr) from by
        have k := HK5.out.below (h57.trans (h.mono h57.size)) HK5.out.lt
        exact ⟨k.cell 0, k.cell 1, k.cell 3⟩)
       have hBw : B < wr.heap.size := Nat.lt_of_lt_of_le hB5 h57.size
       rw [e4, HFM.out]
       clear hbj h57 e1 e3 e4 hck
       go_wp2_with fail
       refine HCK.out.mono ?_
       rintro e w9 ⟨rfl, hb9⟩
       have HB9 := hid hb9
       clear hb9
       go_wp2_with fail
       refine (speaks_any w9).mono ?_
       rintro e w10 ⟨rfl, hb10⟩
       have hb := HB9.out.trans (hb10.mono HB9.out.size)
       obtain ⟨x0, x1, x3⟩ := HKB.out w10 hb
       have hB10 : B < w10.heap.size := Nat.lt_of_lt_of_le hBw hb.size
       have hsp := rtsame_any Aa ca al PA Pc ps w10 (HAL.out.below hb).row (HG5.out.below (HH5.out.trans (hb.mono HH5.out.size))).pts.row
       rw [HAPE.out, HPP.out, decide_eq_true rfl] at hsp
       have HSPT := hid hsp
       have HB10 := hid hb
       clear hb hb10 hsp
       go_wp2_with fail
       refine HSPT.out.mono ?_
       rintro e w11 ⟨rfl, hb11⟩
       have hb := HB10.out.trans (hb11.mono HB10.out.size)
       clear x0 x1 x3
       obtain ⟨x0, x1, x3⟩ := HKB.out w11 hb
       have hB11 : B < w11.heap.size := Nat.lt_of_lt_of_le hBw hb.size
       have hgs := (HG5.out.below (HH5.out.trans (hb.mono HH5.out.size)))
       have hss := rsigsame_any As cs sg SA Sc es w11 (HSGN.out.below hb).row hgs.sig.row
       rw [HSPE.out, hgs.sigp, decide_eq_true rfl] at hss
       have HSS := hid hss
       have HB11 := hid hb
       clear hb hb11 hss hgs
       go_wp2_with fail
       refine HSS.out.mono ?_
       rintro e w12 ⟨rfl, hb12⟩
       have HB12 := hid (HBW.out.trans ((HB11.out.trans (hb12.mono HB11.out.size)).mono HBW.out.size))
       clear hb12
       go_wp2_with fail
       go_ret
       exact ⟨rfl, HB12.out⟩))
theorem lifted (os : Os) (started : os.Started) (H : Type) (enc : TypeId × Value → H) :
  ReturnsInHanded {} Tryz.checked os 6 .any (Rows.topAnySpec.pre6 enc Tryz.prog Tryz.f6 Rows.topAnyRow.domain false) (Rows.topAnySpec.post enc Tryz.prog Tryz.f6 false true false false) := by
 refine returnsInHanded_of_change (C := Tryz.checked) own started (by kernel_rfl) Tryz.func6
  (ChangeSpec.witness6 (enc := enc) (C := Tryz.checked) false ⟨#[], #[.slice none 0 0, .int .u8 0], []⟩ 8 (by kernel_rfl) (by kernel_rfl) (by kernel_rfl) (by kernel_rfl)) ?_
 intro W base args ds gs before hval0 hW hcnd _
 have hval : ∀ (j : Nat) t v, Tryz.f6.params[j]? = some t → args[j]? = some v → Value.okWide Tryz.prog W .any base t v := hval0
 have hW' := hW
 obtain ⟨p, q, hA0, hV, rfl, hfz, hnd⟩ := hW
 have hA : DataW.TrodAll enc Tryz.prog W 0 (fun _ => true) true Tryz.f6.params.toList args.toList ds p := hA0
 rw [Tryz.params6] at hA hval
 obtain ⟨v0, vs0, d0, ds0, p0, q0, hargs, rfl, rfl, h0, r0⟩ := trodAll_cons hA
 obtain ⟨v1, vs1, d1, ds1, p1, q1, rfl, rfl, rfl, h1, r1⟩ := trodAll_cons r0
 obtain ⟨rfl, rfl, rfl⟩ := trodAll_nil r1
 obtain rfl : args = #[v0, v1] := by cases args; simp_all
 obtain ⟨rfl, rfl⟩ := trodVars_none hV
 obtain ⟨a0, len0, cap0, rfl⟩ := okWide_slice Tryz.underlying22 (hval 0 22 v0 rfl rfl)
 have k0 := h0
 have lt0 : ∀ x ∈ p0, x.block < W.heap.size := by obtain ⟨m, hm⟩ := k0; exact DataW.trod_lt m _ _ _ hm
 obtain ⟨z0, w0⟩ : ∃ zs, IsRow .u8 W a0 len0 cap0 zs := by
  obtain ⟨fuel, hf⟩ := h0
  rcases open_ints Tryz.underlying22 Tryz.underlying5 (by kernel_rfl) hf with ⟨hcs, _⟩ | ⟨x, l, c, zs, hcs, _, hl, hm, hz, _, hcell, hwz⟩
  ·simp [Value.cells] at hcs
   obtain ⟨rfl, rfl, rfl⟩ := hcs
   exact ⟨[], .inl ⟨rfl, rfl, rfl, rfl⟩⟩
  ·simp [Value.cells] at hcs
   obtain ⟨rfl, rfl, rfl⟩ := hcs
   exact ⟨zs, .inr ⟨_, rfl, hl, hm, by simpa using hz, hcell, hwz⟩⟩
 obtain ⟨a1, rfl, rfl, rfl, w1⟩ := open_int Tryz.underlying5 (hval 1 5 v1 rfl rfl) h1
 clear hA0 hval0
 refine (walk a0 len0 cap0 z0 a1 W w0 w1).mono fun e W' ⟨he, bel⟩ => ?_
 subst he
 exact ⟨_, rfl, _, _, _, [], _, [], hW', trodAll_mk1 (shut_bool Tryz.underlying4 _), (trodAll_cons_mk (Below.trod laidOut (by kernel_rfl) (of_decide_eq_true (by kernel_rfl)) k0 bel lt0) (trodAll_cons_mk (shut_int Tryz.underlying5 w1) (trodAll_mk0))), rfl, bel.frame _, fun h => by cases h⟩
theorem over : Rows.topAnyRow.holds Tryz.pinned (OpenSpec.ofChange Rows.topAnySpec) :=
 OpenClaim.holds_of_wide 6 Tryz.f6 rfl rfl rfl rfl rfl rfl rfl ⟨rfl, rfl, rfl, rfl, rfl⟩ rfl rfl rfl rfl rfl (by kernel_rfl) Tryz.func6 (by kernel_rfl)
  (of_decide_eq_true (by kernel_rfl)) (by unfold Func.isWrapper; first | (rw [if_pos (by decide +kernel)]; kernel_rfl) | (rw [if_neg (by decide +kernel)]; exact ⟨rfl, rfl⟩))
  (fun os started H enc _ => lifted os started H enc)
theorem proved : Rows.TopAnySaid := over
end Go.Proofs.YtnlfcmbpocdpjaaGreat.topAny
