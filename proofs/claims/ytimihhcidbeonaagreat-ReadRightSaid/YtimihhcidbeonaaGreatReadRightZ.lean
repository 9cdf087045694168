/-
  The points that are read of any bytes are a trace of the signature that was read; each byte is of a frame that was taken or refused, or skipped; each refused frame is one of the parts: ReadRight answers true at every slice of bytes. No conditions.
-/
import Derived.Test.YtimihhcidbeonaaGreatRows
import Derived.WalkKit
import Derived.ProofKit
import Derived.OpenShut
import Derived.ShutString
import Derived.ChangeOld
import Derived.Below
import Derived.Lib.SmallJoins
import Derived.Deep.LoopGhost
import Derived.Test.YtimihhcidbeonaaGreatReadRightZ12
namespace Go.Proofs.YtimihhcidbeonaaGreat.readRight
open Go.Proofs.YtimihhcidbeonaaGreat
open Go.ChangeShapes Go.WideShapes Go.ChangeAt Go.RowKit
open Go.ChangeMaps (open_string shut_string)
set_option linter.unusedVariables false
theorem own : ownKnob Tryz.prog.godebug = none := by kernel_rfl
theorem laidOut : laidOutB Tryz.prog = true := by kernel_rfl
set_option maxRecDepth 100000 in
set_option maxHeartbeats 2000000 in
theorem walk (a0 : Option Addr) (len0 cap0 : Nat) (z0 : List Int) (w : World) (w0 : IsRow .u8 w a0 len0 cap0 z0) :
    Calls Tryz.prog 7 #[.slice a0 len0 cap0] w fun e w' => e = .returned (.bool true) ∧ Below w.heap.size w w' := by
  obtain ⟨xs, rfl, hx, hxb⟩ := Row.of_arg w0
  clear w0
  have HX := Lib.hid hx
  have HFX := Lib.hid (fun W => fix18_any W)
  by_cases h15 : 1500 < xs.length
  · have h15i : (1500 : Int) < (xs.length : Int) := by omega
    clear hx hxb h15
    go_enter Tryz.func7, Tryz.ntmps7
    go_wp2_with fail
    refine (HFX.out _).mono ?_
    rintro e w1 ⟨rfl, hb1⟩
    have HB1 := Lib.hid hb1
    clear hb1
    go_wp2_with fail
    go_ret
    exact ⟨rfl, HB1.out⟩
  · have h15i : ¬ (1500 : Int) < (xs.length : Int) := by omega
    have HOF := Lib.hid (readOf_any a0 cap0 xs hxb (by omega) w hx)
    have HFR := Lib.hid (fun (W : World) (h : Below w.heap.size w W) => frames_any a0 cap0 xs (by omega) W ((HX.out.below h).more h.size) hxb)
    have HSK := Lib.hid (fun (W : World) (h : Below w.heap.size w W) => skippedN_any a0 cap0 xs (by omega) W ((HX.out.below h).more h.size) hxb)
    have HXB := Lib.hid hxb
    obtain ⟨L, hL⟩ : ∃ L, xs.length = L := ⟨_, rfl⟩
    have HL := Lib.hid hL
    have hcap := HX.out
    obtain ⟨hc1, hc2⟩ : xs.length ≤ cap0 ∧ cap0 ≤ 9223372036854775807 := by
      obtain ⟨_, _, hv, q1, q2, _⟩ := hcap
      injection hv with _ _ e3
      subst e3
      unfold maxLen at q2
      exact ⟨q1, by omega⟩
    rw [hL] at HOF HFR HSK h15 h15i hc1 ⊢
    clear hx hxb hL hcap
    go_enter Tryz.func7, Tryz.ntmps7
    go_wp2_with fail
    refine HOF.out.mono ?_
    rintro e w1 ⟨g, hof, SA, Sc, es, PA, Pc, ps, RA, Rc, rfl, hg1, hb1⟩
    obtain ⟨B, hB⟩ : ∃ B, w1.heap.size = B := ⟨_, rfl⟩
    obtain ⟨u, hu⟩ : ∃ u, w1.alloc (.cells #[.slice SA es.length Sc, .slice PA ps.length Pc, .int .i64 g.sk, .int .i64 g.fr, .slice RA g.rej.length Rc] 64) = u := ⟨_, rfl⟩
    have su : u.heap.size = B + 1 := by rw [← hu, World.size_alloc, hB]
    have bu : Below w1.heap.size w1 u := by rw [← hu]; exact (Below.refl _ _).alloc (Nat.le_refl _) _
    have ku : Held u B 64 #[.slice SA es.length Sc, .slice PA ps.length Pc, .int .i64 g.sk, .int .i64 g.fr, .slice RA g.rej.length Rc] := by rw [← hu, ← hB]; exact heap_alloc_new w1 _
    have HKU := Lib.hid ku
    have HGU := Lib.hid (hg1.below bu).row
    have HBU := Lib.hid (hb1.trans (bu.mono hb1.size))
    have HF1 := Lib.hid (HFR.out u HBU.out)
    have HOG := Lib.hid hof
    have HTR := Lib.hid (ofG_right HXB.out hof).trc
    have HRB := Lib.hid (ofG_bound HXB.out (by have := HL.out; omega) hof)
    clear hg1 bu ku hof hb1
    go_wp2_with fail
    refine HF1.out.mono ?_
    rintro e w2 ⟨v, fs, l, rfl, hparts, hfs, hsg, hb2⟩
    obtain ⟨A, c, rfl, hc, hm⟩ := hsg.form
    have z2 := hb2.size
    have HB2 := Lib.hid (HBU.out.trans (hb2.mono HBU.out.size))
    have k2 := HKU.out.below hb2 (by omega)
    have x0 := k2.cell 0
    have x1 := k2.cell 1
    simp at x0 x1
    have hg2 := (HGU.out.below hb2).more z2
    have HCK := Lib.hid (tcheck_any SA Sc es PA Pc ps w2 hg2.sig hg2.pts)
    rw [hg2.sigp, hg2.ptsp, HTR.out] at HCK
    generalize (checkT g.sig g.pts).2 = T2 at HCK
    -- the counts
    obtain ⟨l', hp', hg'⟩ := HOG.out
    have hll := hparts.same hp'
    subst hll
    obtain ⟨t1, t2, R, t3, t4⟩ := takeL_all l noG
    have hgg : takeL noG (l.map sgK) = g := hg'.symm
    rw [hgg] at t1 t2 t3
    have t5 := Tiled.sum l 0 _ (hparts.tiled HXB.out (Nat.zero_le _))
    have t6 := sumN_parts l
    have t7 : g.rej = R := by rw [t3]; rfl
    rw [← t7] at t4
    have hle := hparts.le HXB.out
    have hsk : g.sk = (skipN l : Int) := by rw [t1]; simp [noG]
    obtain ⟨FL, hFL⟩ : ∃ FL, framesS l = FL := ⟨_, rfl⟩
    rw [hFL] at t2 t4 t6 hfs
    obtain ⟨m, hm2⟩ : ∃ m, fs.length = m := ⟨_, rfl⟩
    have hFm : FL.length = m := by rw [← hfs, List.length_map, hm2]
    have hml : m ≤ L := by
      have := List.length_filter_le (·.isf) l
      have h2 : (framesS l).length ≤ l.length := this
      rw [hFL, hFm] at h2
      have := HL.out
      omega
    have hfr : g.fr + (g.rej.length : Int) = (m : Int) := by rw [t2, hFm]; simp [noG]
    have hfr0 : 0 ≤ g.fr := (ofG_right HXB.out HOG.out).fr
    obtain ⟨F, hF⟩ : ∃ F : Nat → Int, F = fun k => g.sk + (sumN (FL.take k) : Int) := ⟨_, rfl⟩
    have hF0 : F 0 = g.sk := by rw [hF]; simp [sumN]
    have hFm2 : F m = (L : Int) := by
      rw [hF]
      show g.sk + (sumN (FL.take m) : Int) = L
      rw [List.take_of_length_le (by omega), hsk]
      have := HL.out
      omega
    have hFs : ∀ k (f : Sg), FL[k]? = some f → F (k + 1) = F k + (f.n : Int) := fun k f h => by
      rw [hF]
      show g.sk + (sumN (FL.take (k + 1)) : Int) = g.sk + (sumN (FL.take k) : Int) + f.n
      rw [sumN_step h]
      omega
    have hFb : ∀ k, 0 ≤ F k ∧ F k ≤ (L : Int) := fun k => by
      rw [hF]
      show 0 ≤ g.sk + (sumN (FL.take k) : Int) ∧ g.sk + (sumN (FL.take k) : Int) ≤ L
      have h1 : sumN (FL.take k) + sumN (FL.drop k) = sumN FL := by rw [← sumN_append, List.take_append_drop]
      have := HL.out
      omega
    have HF0 := Lib.hid hF0
    have HFM := Lib.hid hFm2
    have HFS := Lib.hid hFs
    have HFB := Lib.hid hFb
    have HSUB := Lib.hid t4
    have HFFS := Lib.hid hfs
    have HSG := Lib.hid hsg.row
    have HPP := Lib.hid hparts
    have HSKN := Lib.hid hsk
    have HFRN := Lib.hid hfr
    have hrl : g.rej.length ≤ m := by omega
    have HNE := Lib.hid (ofG_rej HOG.out)
    have HMM := Lib.hid hm2
    have HK2 := Lib.hid k2
    have HG2 := Lib.hid hg2
    rw [hm2] at hc HSG ⊢
    clear hsg hb2 hfs hparts hp' hg' hgg t1 t2 t3 t4 t5 t6 t7 hsk hF hF0 hFm2 hFs hFb hle k2 hg2 hFL hFm hm2
    go_wp2_with fail
    refine HCK.out.mono ?_
    rintro e w3 ⟨rfl, hb3⟩
    have z3 := hb3.size
    have HB3 := Lib.hid (HB2.out.trans (hb3.mono HB2.out.size))
    have k3 := HK2.out.below hb3 HK2.out.lt
    have hB3 : B < w3.heap.size := k3.lt
    clear x0 x1
    have x2 := k3.cell 2
    have x4 := k3.cell 4
    simp at x2 x4
    have HK3 := Lib.hid k3
    have HSG3 := Lib.hid (HSG.out.below hb3)
    have HG3 := Lib.hid ((HG2.out.below hb3).more z3)
    obtain ⟨s0, hs0⟩ : ∃ s0, g.sk = s0 := ⟨_, rfl⟩
    obtain ⟨r, hr⟩ : ∃ r, g.rej.length = r := ⟨_, rfl⟩
    have HR := Lib.hid hr
    have HS0 := Lib.hid hs0
    rw [hr] at hrl
    clear hb3 k3 hr hs0
    go_wp2_with fail
    go_loopg [7, 33] m (fun gk nv iv wr => ∃ k : Nat, iv = .int .i64 k ∧ nv = .int .i64 (F k) ∧ k ≤ m ∧ Hid (m - k = gk) ∧ Hid (Below w3.heap.size w3 wr))
    case atStart => exact ⟨0, rfl, by rw [HF0.out], Nat.zero_le _, Lib.hid rfl, Lib.hid (Below.refl _ _)⟩
    case round =>
      obtain ⟨k, rfl, rfl, hk, HGK, HBW⟩ := hrel
      by_cases hlt : k < m
      · obtain ⟨p, hp⟩ : ∃ p, fs[k]? = some p := ⟨_, List.getElem?_eq_getElem (by rw [HMM.out]; exact hlt)⟩
        obtain ⟨b, o, rfl, hb, y0, y1, y2, y3, y4, -⟩ := (HSG3.out.below HBW.out).at hp
        have hfk : FL[k]? = some p.s := by rw [← HFFS.out, List.getElem?_map, hp]; rfl
        have hst := HFS.out k p.s hfk
        have hbd := HFB.out (k + 1)
        obtain ⟨⟨sf, sn, si, sk2, sp⟩, pA, pc⟩ := p
        simp only at y0 y1 y2 y3 y4 hst
        obtain ⟨un, hun⟩ : ∃ un, wr.alloc (.cells #[.int .i64 sf, .int .i64 sn, .bool si, .int .i64 sk2, .slice pA sp.length pc] 80) = un := ⟨_, rfl⟩
        have kn : Held un wr.heap.size 80 #[.int .i64 sf, .int .i64 sn, .bool si, .int .i64 sk2, .slice pA sp.length pc] := by rw [← hun]; exact heap_alloc_new wr _
        have HBN := Lib.hid (show Below w3.heap.size w3 un from by rw [← hun]; exact HBW.out.alloc HBW.out.size _)
        have q1 := kn.cell 1
        simp at q1
        have HST := Lib.hid hst
        have hwr : IntKind.i64.wrap (F k + (sn : Int)) = F k + (sn : Int) := IntWalk.i64_in _ (by omega)
        clear hp hfk kn hst hbd x2 x4
        go_wp2_with fail
        go_roundg (m - (k + 1))
        case measure => have := HGK.out; omega
        case rel => exact ⟨k + 1, by go_num, by rw [HST.out], by omega, Lib.hid rfl, HBN⟩
      · obtain rfl : m = k := by omega
        have HFM2 := HFM
        rw [HFM.out]
        have k4 := HK3.out.below HBW.out hB3
        clear x2 x4
        have x4 := k4.cell 4
        simp at x4
        rw [HR.out] at x4
        clear k4
        go_wp2_with fail
        obtain ⟨wx, hwx⟩ : ∃ wx, wx = wr := ⟨_, rfl⟩
        subst hwx
        have hzx := HBW.out.size
        go_loopg [10, 45] r (fun gk kv iv wr => ∃ i k : Nat, iv = .int .i64 i ∧ kv = .int .i64 k ∧ i ≤ r ∧ k ≤ m ∧ Hid (r - i = gk) ∧ Hid (((g.rej.drop i).map (·.1)).Sublist ((FL.drop k).map (fun s => (s.frm : Int)))) ∧ Hid (Below w3.heap.size w3 wr))
        case atStart => exact ⟨0, 0, rfl, rfl, Nat.zero_le _, Nat.zero_le _, Lib.hid rfl, Lib.hid HSUB.out, Lib.hid HBW.out⟩
        case round =>
          obtain ⟨i, k, rfl, rfl, hi, hk2, HGK2, HSB, HBY⟩ := hrel
          by_cases hlt : i < r
          · obtain ⟨d, hd⟩ : ∃ d, g.rej[i]? = some d := ⟨_, List.getElem?_eq_getElem (by rw [HR.out]; exact hlt)⟩
            obtain ⟨b, o, rfl, hb, hc0⟩ := (HG3.out.rej.below HBY.out).block (by rw [HR.out]; omega)
            obtain ⟨m0, m1⟩ := flatJ_at g.rej i d hd
            have y0 := hc0 _ _ m0
            have y1 := hc0 _ _ m1
            rw [← Nat.add_assoc] at y1
            have hdr : g.rej.drop i = d :: g.rej.drop (i + 1) := by
              obtain ⟨hkl, he⟩ := List.getElem?_eq_some_iff.1 hd
              rw [List.drop_eq_getElem_cons hkl, he]
            have hdn : d.2 ≠ 0 := HNE.out d (List.mem_of_getElem? hd)
            have hdb : (d.2 == 0) = false := beq_eq_false_iff_ne.2 hdn
            obtain ⟨un, hun⟩ : ∃ un, wr.alloc (.cells #[.int .i64 d.1, .int .i64 d.2] 73) = un := ⟨_, rfl⟩
            have kn : Held un wr.heap.size 73 #[.int .i64 d.1, .int .i64 d.2] := by rw [← hun]; exact heap_alloc_new wr _
            have sn : un.heap.size = wr.heap.size + 1 := by rw [← hun, World.size_alloc]
            have HKN := Lib.hid kn
            have HBN := Lib.hid (show Below w3.heap.size w3 un from by rw [← hun]; exact HBY.out.alloc HBY.out.size _)
            have HSB2 := Lib.hid (show (d.1 :: (g.rej.drop (i + 1)).map (·.1)).Sublist ((FL.drop k).map (fun s => (s.frm : Int))) from by have h := HSB.out; rw [hdr] at h; exact h)
            have hzw := HBY.out.size
            clear hd hc0 m0 m1 kn hdr hdn x4 HSB
            go_wp2_with fail
            obtain ⟨wz, hwz⟩ : ∃ wz, wz = wr := ⟨_, rfl⟩
            subst hwz
            go_loopg [10] m (fun gk kv wr => ∃ k : Nat, kv = .int .i64 k ∧ k ≤ m ∧ Hid (m - k ≤ gk) ∧ Hid ((d.1 :: (g.rej.drop (i + 1)).map (·.1)).Sublist ((FL.drop k).map (fun s => (s.frm : Int)))) ∧ Hid (Below un.heap.size un wr))
            case atStart => exact ⟨k, rfl, hk2, Lib.hid (by omega), HSB2, Lib.hid (Below.refl _ _)⟩
            case round =>
              obtain ⟨k, rfl, hk2, HGK3, HSB3, HBZ⟩ := hrel
              have hkm : k < m := by
                have h := HSB3.out.length_le
                simp only [List.length_cons, List.length_map, List.length_drop] at h
                have h2 : FL.length = m := by rw [← HFFS.out, List.length_map, HMM.out]
                omega
              obtain ⟨p, hp⟩ : ∃ p, fs[k]? = some p := ⟨_, List.getElem?_eq_getElem (by rw [HMM.out]; exact hkm)⟩
              have hbz3 : Below w3.heap.size w3 wr := HBN.out.trans (HBZ.out.mono HBN.out.size)
              obtain ⟨b2, o2, rfl, hb2, v0, -⟩ := (HSG3.out.below hbz3).at hp
              have hfk : FL[k]? = some p.s := by rw [← HFFS.out, List.getElem?_map, hp]; rfl
              have hdk : FL.drop k = p.s :: FL.drop (k + 1) := by
                obtain ⟨hkl, he⟩ := List.getElem?_eq_some_iff.1 hfk
                rw [List.drop_eq_getElem_cons hkl, he]
              have hsn := HSB3.out
              rw [hdk, List.map_cons] at hsn
              have hnx := sub_next hsn
              have kz := HKN.out.below HBZ.out HKN.out.lt
              have q0 := kz.cell 0
              have q1 := kz.cell 1
              simp at q0 q1
              obtain ⟨⟨sf, sn2, si, sk2, sp⟩, pA, pc⟩ := p
              simp only at v0 hnx
              have e1 : (k : Int) < (m : Int) := by omega
              have e2 : decide ((k : Int) < (m : Int)) = true := decide_eq_true e1
              have e3 : ¬ (m : Int) ≤ (k : Int) := by omega
              have e4 : ((k : Int) == (m : Int)) = false := beq_eq_false_iff_ne.2 (by omega)
              have HNX := Lib.hid hnx
              have HBZ3 := Lib.hid hbz3
              have hv0 := fun n => show (wr.drewN n).cell? ⟨b2, o2 + k * 5, none⟩ = some (.int .i64 (sf : Int)) from v0
              have hq0 := fun n => show (wr.drewN n).cell? ⟨wz.heap.size, 0, none⟩ = some (.int .i64 d.1) from q0
              clear hp hfk hdk hsn hnx kz hbz3
              by_cases he : (sf : Int) = d.1
              · have e5 : ((sf : Int) != d.1) = false := by simp [he]
                have HS4 := Lib.hid (HNX.out.1 he)
                clear he HNX
                go_wp2_with fail
                go_quiet (fail)
                have hq1 := fun n => show (wr.drewN n).cell? ⟨wz.heap.size, 1, none⟩ = some (.int .i64 d.2) from q1
                go_wp2_with fail
                go_roundg (r - (i + 1))
                case measure => have := HGK2.out; omega
                case rel => exact ⟨i + 1, k + 1, by go_num, by go_num, hlt, hkm, Lib.hid rfl, HS4, Lib.hid (below_drewN HBZ3.out _)⟩
              · have e5 : ((sf : Int) != d.1) = true := by simp [he]
                have HS4 := Lib.hid (HNX.out.2 he)
                clear he HNX
                go_wp2_with fail
                go_quiet (fail)
                go_wp2_with fail
                go_roundg (m - (k + 1))
                case measure => have := HGK3.out; omega
                case rel => exact ⟨k + 1, by go_num, hkm, Lib.hid (Nat.le_refl _), HS4, Lib.hid (below_drewN HBZ.out _)⟩
          · obtain rfl : r = i := by omega
            clear x4 HSB
            have HV := Lib.hid (fun W (hW : Below wr.heap.size wr W) => show W.cell? ⟨B, 2, none⟩ = some (.int .i64 s0) ∧ W.cell? ⟨B, 3, none⟩ = some (.int .i64 g.fr) ∧ W.cell? ⟨B, 4, none⟩ = some (.slice RA r Rc) from by
              have h := HK3.out.below (HBY.out.trans (hW.mono HBY.out.size)) hB3
              have h2 := h.cell 2
              have h4 := h.cell 4
              simp at h2 h4
              rw [HS0.out] at h2
              rw [HR.out] at h4
              exact ⟨h2, h.cell 3, h4⟩)
            have HFX1 := Lib.hid (fun W (hW : Below wr.heap.size wr W) => HFX.out W)
            have HSK1 := Lib.hid (fun W (hW : Below wr.heap.size wr W) => HSK.out W ((HB3.out.trans (HBY.out.mono HB3.out.size)).trans (hW.mono (Nat.le_trans HB3.out.size HBY.out.size))))
            have hfrm : IntKind.i64.wrap (g.fr + (r : Int)) = (m : Int) := by
              have h := HFRN.out
              rw [HR.out] at h
              rw [h]
              exact IntWalk.i64_in _ (by omega)
            have hmm : ((m : Int) == (m : Int)) = true := beq_self_eq_true _
            have hLL : ((L : Int) == (L : Int)) = true := beq_self_eq_true _
            have hss : (s0 == s0) = true := beq_self_eq_true _
            go_wp2_with fail
            go_region_held3 (fun W => W.cell? ⟨B, 2, none⟩ = some (.int .i64 s0) ∧ W.cell? ⟨B, 3, none⟩ = some (.int .i64 g.fr) ∧ W.cell? ⟨B, 4, none⟩ = some (.slice RA r Rc))
              (first | exact HV.out _ (Below.refl _ _) | exact HV.out _ (Below.refl _ _).drew | exact HV.out _ b6 | exact HV.out _ b5)
              (first
                | (go_at_call 29; (with_reducible refine (HFX1.out _ (Below.refl _ _).drew).mono ?_); rintro e w5 ⟨rfl, hb5⟩; have b5 : Below wr.heap.size wr w5 := (Below.refl wr.heap.size wr).drew.trans hb5)
                | (go_at_call 40; (with_reducible refine (HSK1.out _ b5).mono ?_); rintro e w6 ⟨l6, rfl, hp6, hb6⟩; have b6 : Below wr.heap.size wr w6 := b5.trans (hb6.mono b5.size); rw [← HPP.out.same hp6, ← HSKN.out, HS0.out]))
            go_wp2_with fail
            go_ret
            exact ⟨rfl, (HB3.out.trans (HBY.out.mono HB3.out.size)).trans (b6.mono (Nat.le_trans HB3.out.size HBY.out.size))⟩
set_option maxRecDepth 100000 in
theorem lifted (os : Os) (started : os.Started) (H : Type) (enc : TypeId × Value → H) :
    ReturnsInHanded {} Tryz.checked os 7 .any (Rows.readRightSpec.pre6 enc Tryz.prog Tryz.f7 Rows.readRightRow.domain false) (Rows.readRightSpec.post enc Tryz.prog Tryz.f7 false true false false) := by
  refine returnsInHanded_of_change (C := Tryz.checked) own started (by kernel_rfl) Tryz.func7
    (ChangeSpec.witness6 (enc := enc) (C := Tryz.checked) false ⟨#[], #[.slice none 0 0], []⟩ 8 (by kernel_rfl) (by kernel_rfl) (by kernel_rfl) (by kernel_rfl)) ?_
  intro W base args ds gs before hval0 hW hcnd _
  have hval : ∀ (j : Nat) t v, Tryz.f7.params[j]? = some t → args[j]? = some v → Value.okWide Tryz.prog W .any base t v := hval0
  have hW' := hW
  obtain ⟨p, q, hA0, hV, rfl, hfz, hnd⟩ := hW
  have hA : DataW.TrodAll enc Tryz.prog W 0 (fun _ => true) true Tryz.f7.params.toList args.toList ds p := hA0
  rw [Tryz.params7] at hA hval
  obtain ⟨v0, vs0, d0, ds0, p0, q0, hargs, rfl, rfl, h0, r0⟩ := trodAll_cons hA
  obtain ⟨rfl, rfl, rfl⟩ := trodAll_nil r0
  obtain rfl : args = #[v0] := by cases args; simp_all
  obtain ⟨rfl, rfl⟩ := trodVars_none hV
  obtain ⟨a0, len0, cap0, rfl⟩ := okWide_slice Tryz.underlying23 (hval 0 23 v0 rfl rfl)
  have k0 := h0
  have lt0 : ∀ x ∈ p0, x.block < W.heap.size := by obtain ⟨m, hm⟩ := k0; exact DataW.trod_lt m _ _ _ hm
  obtain ⟨z0, w0⟩ : ∃ zs, IsRow .u8 W a0 len0 cap0 zs := by
    obtain ⟨fuel, hf⟩ := h0
    rcases open_ints Tryz.underlying23 Tryz.underlying5 (by kernel_rfl) hf with ⟨hcs, _⟩ | ⟨x, l, c, zs, hcs, _, hl, hm, hz, _, hcell, hwz⟩
    · simp [Value.cells] at hcs
      obtain ⟨rfl, rfl, rfl⟩ := hcs
      exact ⟨[], .inl ⟨rfl, rfl, rfl, rfl⟩⟩
    · simp [Value.cells] at hcs
      obtain ⟨rfl, rfl, rfl⟩ := hcs
      exact ⟨zs, .inr ⟨_, rfl, hl, hm, by simpa using hz, hcell, hwz⟩⟩
  clear hA0 hval0
  refine (walk a0 len0 cap0 z0 W w0).mono fun e W' ⟨he, bel⟩ => ?_
  subst he
  exact ⟨_, rfl, _, _, _, [], _, [], hW', trodAll_mk1 (shut_bool Tryz.underlying4 _), (trodAll_cons_mk (Below.trod laidOut (by kernel_rfl) (of_decide_eq_true (by kernel_rfl)) k0 bel lt0) (trodAll_mk0)), rfl, bel.frame _, fun h => by cases h⟩
theorem over : Rows.readRightRow.holds Tryz.pinned (OpenSpec.ofChange Rows.readRightSpec) :=
  OpenClaim.holds_of_wide 7 Tryz.f7 rfl rfl rfl rfl rfl rfl rfl ⟨rfl, rfl, rfl, rfl, rfl⟩ rfl rfl rfl rfl rfl (by kernel_rfl) Tryz.func7 (by kernel_rfl)
    (of_decide_eq_true (by kernel_rfl)) (by unfold Func.isWrapper; first | (rw [if_pos (by decide +kernel)]; kernel_rfl) | (rw [if_neg (by decide +kernel)]; exact ⟨rfl, rfl⟩))
    (fun os started H enc _ => lifted os started H enc)
theorem proved : Rows.ReadRightSaid := over
end Go.Proofs.YtimihhcidbeonaaGreat.readRight
