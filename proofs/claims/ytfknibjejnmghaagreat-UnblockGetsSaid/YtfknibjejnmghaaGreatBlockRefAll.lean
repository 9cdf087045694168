/-
  The document's own payload of points; its Whole and Put.
-/
import Derived.Test.YtfknibjejnmghaaGreatDictRefs
import Derived.Test.YtfknibjejnmghaaGreatBlobPut
import Derived.Test.YtfknibjejnmghaaGreatFolds
import Derived.Test.YtfknibjejnmghaaGreatPlainBlock
import Derived.Deep.LoopGhost
import Derived.Deep.RegionHeld3
import Derived.Test.YtfknibjejnmghaaGreatTraceRefs
namespace Go.Proofs.YtfknibjejnmghaaGreat
open Go.RowKit Go.ChangeShapes Go.WideShapes
set_option linter.unusedVariables false

theorem rnum_any (n : Nat) (hn : n < 9223372036854775808) (w : World) : Calls Tryz.prog 97 #[.int .i64 n] w fun e w' => e = .returned (.string (strOfNums (encI n))) ∧ Below w.heap.size w w' := by
  have HP := Lib.hid (fun W => rput n (by omega) W)
  generalize encI n = E at HP ⊢
  go_enter Tryz.func97, Tryz.ntmps97
  go_wp2_with fail
  refine (HP.out _).mono ?_
  rintro e w1 ⟨rfl, hb1⟩
  go_wp2_with fail
  go_ret
  exact ⟨rfl, hb1⟩
#print axioms rnum_any
theorem add_to {P : Program} {k l m : List Int} (h : k ++ l = m) (hl : m.length ≤ 9223372036854775807) (W : World) : (Op.stringOp .add (strOfNums k) (strOfNums l)).run P W = .ok (.string (strOfNums m)) W := by
  subst h
  exact add_strs W k l (by rw [List.length_append] at hl; exact hl)

set_option maxRecDepth 100000 in
set_option maxHeartbeats 16000000 in
theorem rtext_any (A : Option Addr) (c : Nat) (l : List Pm) (w : World) (hrow : TrRow w w.heap.size (.slice A l.length c) l) (hok : BOk l) (h0 : 0 < l.length) :
    Calls Tryz.prog 77 #[.slice A l.length c] w fun e w' => e = .returned (.string (strOfNums (payB l))) ∧ Below w.heap.size w w' := by
  obtain ⟨-, hc1, hc2⟩ := hrow.1.len
  obtain ⟨L, hLe⟩ : ∃ L, addT [] l = L := ⟨_, rfl⟩
  obtain ⟨hL1, hL2⟩ := hok.dict
  rw [hLe] at hL1 hL2
  obtain ⟨p0, hp0⟩ : ∃ p, l[0]? = some p := ⟨_, List.getElem?_eq_getElem h0⟩
  obtain ⟨t0, ht0⟩ : ∃ t0 : Nat, p0.tm = (t0 : Int) := ⟨p0.tm.toNat, by have := (hok.pts p0 (List.mem_of_getElem? hp0)).fits.1; omega⟩
  have ht0l : t0 < 18446744073709551616 := by have := (hok.pts p0 (List.mem_of_getElem? hp0)).fits.2; omega
  have ht0e : (tmAt l 0).toNat = t0 := by rw [tmAt_of hp0, ht0]; rfl
  have hlen := payB_len hok
  obtain ⟨D, hD⟩ : ∃ D : Nat → List Int, D = fun k => encI t0 ++ encI l.length ++ encI L.length ++ catT (L.take k) := ⟨_, rfl⟩
  obtain ⟨F, hF⟩ : ∃ F : Nat → List Int, F = fun k => D L.length ++ ptsB L l k := ⟨_, rfl⟩
  have hpay : payB l = F l.length := by rw [hF, hD]; simp only [payB, headB, dictB, hLe, ht0e, List.append_assoc, List.take_length]
  have hD0 : D 0 = encI t0 ++ encI l.length ++ encI L.length := by rw [hD]; simp [catT]
  have hDs : ∀ (k : Nat) (t : List Int), L[k]? = some t → D (k + 1) = D k ++ encT t := fun k t ht => by rw [hD]; simp only; rw [catT_take_succ L ht]; simp only [List.append_assoc]
  have hF0 : F 0 = D L.length := by rw [hF]; simp [ptsB]
  have hFs : ∀ k, F (k + 1) = F k ++ ptB L l k := fun k => by rw [hF]; simp only; rw [ptsB_succ]; simp only [List.append_assoc]
  have hFl : ∀ k, k ≤ l.length → (F k).length ≤ 10000000000 := fun k hk => by
    have e1 : (F l.length).length ≤ 10000000000 := by rw [← hpay]; omega
    have mono : ∀ j, (F k).length ≤ (F (k + j)).length := fun j => by
      induction j with
      | zero => exact Nat.le_refl _
      | succ j ih => rw [← Nat.add_assoc, hFs, List.length_append]; omega
    have := mono (l.length - k)
    rw [show k + (l.length - k) = l.length by omega] at this
    omega
  have hDl : ∀ k, (D k).length ≤ 10000000000 := fun k => by
    have h1 := hFl 0 (Nat.zero_le _)
    rw [hF0, hD] at h1
    rw [hD]
    simp only [List.length_append, List.take_length] at h1 ⊢
    have := catT_take_le L k
    omega
  rw [hpay]
  have hof := rof13_any A c l w hrow (by have := nT_le l hok.pts; have := hok.few; omega)
  rw [hLe] at hof
  obtain ⟨B, hB⟩ : ∃ B, w.heap.size = B := ⟨_, rfl⟩
  rw [hB] at hof hrow ⊢
  obtain ⟨n, hn⟩ : ∃ n, l.length = n := ⟨_, rfl⟩
  have hfew := hok.few
  rw [hn] at hfew hc1 h0 hD0 hof hFl ⊢
  have HOF := Lib.hid hof
  have HTR := Lib.hid (fun W (hb : Below B w W) => hrow.below hb)
  have HOK := Lib.hid hok
  have HDS := Lib.hid hDs
  have HDL := Lib.hid hDl
  have HFS := Lib.hid hFs
  have HFL := Lib.hid hFl
  have HL2 := Lib.hid hL2
  have HLE := Lib.hid hLe
  have HN := Lib.hid hn
  have HP0 := Lib.hid hp0
  obtain ⟨m, hm⟩ : ∃ m, L.length = m := ⟨_, rfl⟩
  rw [hm] at hL1 hD0 hF0
  have HM := Lib.hid hm
  have hlD := hDl 0
  have hq1 : ∀ W, (Op.stringOp .add (strOfNums (encI t0)) (strOfNums (encI n))).run Tryz.prog W = .ok (.string (strOfNums (encI t0 ++ encI n))) W := add_to rfl (by rw [hD0] at hlD; simp only [List.length_append] at hlD ⊢; omega)
  have hq2 : ∀ W, (Op.stringOp .add (strOfNums (encI t0 ++ encI n)) (strOfNums (encI m))).run Tryz.prog W = .ok (.string (strOfNums (D 0))) W := add_to hD0.symm (by omega)
  have HNT := Lib.hid (fun W => rput t0 ht0l W)
  have HNN := Lib.hid (fun W => rnum_any n (by omega) W)
  have HNM := Lib.hid (fun W => rnum_any m (by omega) W)
  have HF0 := Lib.hid hF0
  have z0 : encI t0 ++ encI n = encI t0 ++ encI n := rfl
  generalize encI t0 ++ encI n = E2 at hq1 hq2
  generalize encI t0 = E0 at hq1 HNT
  generalize encI n = E1 at hq1 HNN
  generalize encI m = E3 at hq2 HNM
  clear hof hrow hok hF hD hpay hD0 hDs hF0 hFs hFl hDl hL2 hLe hn hp0 hm hlD z0 hlen
  obtain ⟨b, o, rfl, hb0, x0, -, -, -, -⟩ := (HTR.out _ (Below.refl _ _)).at HP0.out
  rw [ht0] at x0
  simp only [Nat.zero_mul, Nat.add_zero] at x0
  go_enter Tryz.func77, Tryz.ntmps77
  go_wp2_with fail
  refine HOF.out.mono ?_
  rintro e w1 ⟨vL, rfl, ⟨hoL, hxL⟩, hb1⟩
  rw [HM.out] at hoL
  obtain ⟨AL, cL, rfl⟩ := own_form hoL
  obtain ⟨-, hd1, hd2⟩ := (ERow.of_own hoL).len
  have x1 := (hb1.cell (p := ⟨b, o, none⟩) hb0).trans x0
  have HO1 := Lib.hid hoL
  have HX1 := Lib.hid hxL
  have HB1 := Lib.hid hb1
  have z1 := hb1.size
  clear hoL hxL hb1 x0 HOF
  go_wp2_with fail
  refine (HNT.out _).mono ?_
  rintro e w2 ⟨rfl, hb2⟩
  have HB2 := Lib.hid hb2
  clear hb2 x1 HNT
  go_wp2_with fail
  refine (HNN.out _).mono ?_
  rintro e w3 ⟨rfl, hb3⟩
  have HB3 := Lib.hid (HB2.out.trans (hb3.mono HB2.out.size))
  clear hb3 HNN
  go_wp2_with fail
  refine (HNM.out _).mono ?_
  rintro e w4 ⟨rfl, hb4⟩
  have HB4 := Lib.hid (HB3.out.trans (hb4.mono HB3.out.size))
  clear hb4 HNM
  go_wp2_with fail
  clear hq1 hq2
  go_loopg [4, 5] m (fun gk s i wr => ∃ (k : Nat), k ≤ m ∧ s = .string (strOfNums (D k)) ∧ i = .int .i64 k ∧ Hid (m - k = gk) ∧ Hid (Below w1.heap.size w1 wr))
  case atStart => exact ⟨0, Nat.zero_le _, rfl, rfl, Lib.hid rfl, HB4⟩
  case round =>
    obtain ⟨k, hk, rfl, rfl, HGK, HB⟩ := hrel
    by_cases hlt : k < m
    · obtain ⟨t, ht⟩ : ∃ t, L[k]? = some t := ⟨_, List.getElem?_eq_getElem (by have := HM.out; omega)⟩
      obtain ⟨b5, o5, rfl, _, hcl⟩ := (ERow.of_own (own_below HO1.out HB.out)).block (by omega)
      have y0 := hcl k _ (strVs_at L ht)
      have htx := HL2.out t (List.mem_of_getElem? ht)
      have hds := HDS.out k t ht
      have HC := Lib.hid (fun W => rbput t (by omega) W)
      have hqa : ∀ W, (Op.stringOp .add (strOfNums (D k)) (strOfNums (encT t))).run Tryz.prog W = .ok (.string (strOfNums (D (k + 1)))) W := add_to hds.symm (by have := HDL.out (k + 1); omega)
      generalize encT t = E at HC hqa
      clear hcl ht htx hds
      go_wp2_with fail
      refine (HC.out _).mono ?_
      rintro e w5 ⟨rfl, hb5⟩
      have HB5 := Lib.hid (HB.out.trans (hb5.mono HB.out.size))
      clear hb5 HC
      go_wp2_with fail
      go_roundg (m - (k + 1))
      case measure => have := HGK.out; omega
      case rel => exact ⟨k + 1, by omega, rfl, by go_num, Lib.hid rfl, HB5⟩
    · obtain rfl : m = k := by omega
      go_wp2_with fail
      go_loopg [4, 6] n (fun gk s i wr => ∃ (j : Nat), j ≤ n ∧ s = .string (strOfNums (F j)) ∧ i = .int .i64 j ∧ Hid (n - j = gk) ∧ Hid (Below w1.heap.size w1 wr))
      case atStart => exact ⟨0, Nat.zero_le _, by rw [HF0.out], rfl, Lib.hid rfl, HB⟩
      case round =>
        obtain ⟨j, hj, rfl, rfl, HGJ, HB6⟩ := hrel
        by_cases hjl : j < n
        · skip
          obtain ⟨d, hd⟩ : ∃ d, l[j]? = some d := ⟨_, List.getElem?_eq_getElem (by have := HN.out; omega)⟩
          have hdm := List.mem_of_getElem? hd
          have HPO := Lib.hid (HOK.out.pts d hdm)
          have hlow : Below B w wr := HB1.out.trans (HB6.out.mono (show B ≤ w1.heap.size by omega))
          obtain ⟨_, _, e9, _, u0, u1, hokd, hl1, hl2⟩ := (HTR.out _ hlow).at hd
          injection e9 with e9
          injection e9 with e9a e9b
          subst e9a e9b
          have HEVR := Lib.hid (fun W (hb : Below B w W) => (((HTR.out _ hb).2 d hdm).1))
          have HFE := Lib.hid (show F (j + 1) = F j ++ ptB L l j from HFS.out j)
          have HEV := Lib.hid (show evsAt l j = d.evs from evsAt_of hd)
          have HIN := Lib.hid (show ∀ e ∈ d.evs, ∀ a ∈ e.args, a.t = 2 → a.s ∈ L from fun e he a ha ht => by rw [← HLE.out]; exact addT_has l [] d hdm e he a ha ht)
          have hfl := HFL.out (j + 1) (by omega)
          have ux1 := (hlow.cell (p := ⟨b, o + j * 2 + 1, none⟩) hb0).symm.trans u1
          have ux0 := u0
          obtain ⟨dA, hdA⟩ : ∃ dA, d.A = dA := ⟨_, rfl⟩
          rw [hdA] at u1 ux1 HEVR
          clear hokd hdA
          obtain ⟨wx, hwx⟩ : ∃ wx, wx = wr := ⟨_, rfl⟩
          subst hwx
          cases j with
          | zero =>
            have HXE := Lib.hid (show F (0 + 1) = F 0 ++ evsB L d.evs by rw [HFE.out, ptB, HEV.out]; simp)
            have hlow2 : Below B w _ := HB1.out.trans (HB6.out.mono (show B ≤ w1.heap.size by omega))
            have u1' := (hlow2.cell (p := ⟨b, o + 0 * 2 + 1, none⟩) hb0).trans ux1
            simp only [Nat.zero_mul, Nat.add_zero] at u1'
            have HE5 := Lib.hid (fun W => rnum_any d.evs.length (by have := HPO.out.few; omega) W)
            obtain ⟨G, hG⟩ : ∃ G : Nat → List Int, G = fun i => F 0 ++ encI d.evs.length ++ evlB L (d.evs.take i) := ⟨_, rfl⟩
            have hG0 : F 0 ++ encI d.evs.length = G 0 := by rw [hG]; simp [evlB]
            have HGn := Lib.hid (show G d.evs.length = F (0 + 1) by rw [hG, HXE.out]; simp [evsB])
            have HGs := Lib.hid (show ∀ (i : Nat) (e : Em), d.evs[i]? = some e → G (i + 1) = G i ++ encI e.p.toNat ++ argsB L e.args from fun i e he => by rw [hG]; simp only; rw [evlB_succ he]; simp only [evB, List.append_assoc])
            have HGl := Lib.hid (show ∀ i, (G i).length ≤ 10000000000 from fun i => by
              have h1 := hfl
              have h2 := flatMap_take_le (evB L) d.evs i
              rw [HXE.out] at h1
              rw [hG]
              simp only [evsB, evlB, List.length_append] at h1 ⊢
              omega)
            have hqb : ∀ W, (Op.stringOp .add (strOfNums (F 0)) (strOfNums (encI d.evs.length))).run Tryz.prog W = .ok (.string (strOfNums (G 0))) W := add_to hG0 (by have := HGl.out 0; omega)
            generalize encI d.evs.length = E5 at HE5 hqb hG0
            clear hG hG0 hlow2
            go_wp2_with fail
            refine (HE5.out _).mono ?_
            rintro e w8 ⟨rfl, hb8⟩
            have HB8 := Lib.hid (HB6.out.trans (hb8.mono HB6.out.size))
            clear hb8 HE5 u1'
            go_wp2_with fail
            clear hqb
            go_loopg [4, 8] d.evs.length (fun gi s i wr => ∃ (i0 : Nat), i0 ≤ d.evs.length ∧ s = .string (strOfNums (G i0)) ∧ i = .int .i64 i0 ∧ Hid (d.evs.length - i0 = gi) ∧ Hid (Below w1.heap.size w1 wr))
            case atStart => exact ⟨0, Nat.zero_le _, rfl, rfl, Lib.hid rfl, HB8⟩
            case round =>
              obtain ⟨i, hi, rfl, rfl, HGI, HB9⟩ := hrel
              by_cases hil : i < d.evs.length
              · obtain ⟨e, he⟩ : ∃ e, d.evs[i]? = some e := ⟨_, List.getElem?_eq_getElem hil⟩
                have hem := List.mem_of_getElem? he
                have heo := HPO.out.evs e hem
                have hlow3 : Below B w wr := HB1.out.trans (HB9.out.mono (show B ≤ w1.heap.size by omega))
                obtain ⟨b2, o2, hA2, hb2, v0, v1, hoke, hl3, hl4⟩ := (HEVR.out _ hlow3).at he
                have HGR := Lib.hid (fun W (hb : Below B w W) => (((HEVR.out W hb).2 e hem).1))
                have HV1 := Lib.hid (fun W (hb : Below B w W) => (show W.cell? ⟨b2, o2 + i * 2 + 1, none⟩ = some (.slice e.A e.args.length e.c) from (hb.cell (p := ⟨b2, o2 + i * 2 + 1, none⟩) hb2).trans ((hlow3.cell (p := ⟨b2, o2 + i * 2 + 1, none⟩) hb2).symm.trans v1)))
                obtain ⟨pn, hpn⟩ : ∃ pn : Nat, e.p = (pn : Int) := ⟨e.p.toNat, by have := heo.low; omega⟩
                have hpl : pn < 64 := by have := heo.high; omega
                have hge : G (i + 1) = G i ++ encI pn ++ argsB L e.args := by rw [HGs.out i e he, hpn]; rfl
                have hfew2 := heo.few
                have HAO := Lib.hid heo.args
                have HAI := Lib.hid (HIN.out e hem)
                have HE6 := Lib.hid (fun W => rnum_any pn (by omega) W)
                obtain ⟨H, hH⟩ : ∃ H : Nat → List Int, H = fun q => G i ++ encI pn ++ argsB L (e.args.take q) := ⟨_, rfl⟩
                have hH0 : G i ++ encI pn = H 0 := by rw [hH]; simp [argsB]
                have HHn := Lib.hid (show H e.args.length = G (i + 1) by rw [hH, hge]; simp)
                have HHs := Lib.hid (show ∀ (q : Nat) (a : Ag), e.args[q]? = some a → H (q + 1) = H q ++ encI (argN L a) from fun q a ha => by rw [hH]; simp only; rw [argsB_succ ha]; simp only [List.append_assoc])
                have HHl := Lib.hid (show ∀ q, (H q).length ≤ 10000000000 from fun q => by
                  have h1 := HGl.out (i + 1)
                  have h2 := flatMap_take_le (fun a => encI (argN L a)) e.args q
                  rw [hge] at h1
                  rw [hH]
                  simp only [argsB, List.length_append] at h1 ⊢
                  omega)
                have hqc : ∀ W, (Op.stringOp .add (strOfNums (G i)) (strOfNums (encI pn))).run Tryz.prog W = .ok (.string (strOfNums (H 0))) W := add_to hH0 (by have := HHl.out 0; omega)
                generalize encI pn = E6 at HE6 hqc
                obtain ⟨ep, args, eA, ec⟩ := e
                simp only at v0 v1 hl3 hl4 hpn HGR HV1 HAO HAI HHn HHs hfew2
                subst hpn
                obtain ⟨dA0, hdA0⟩ : ∃ a, dA = a := ⟨_, rfl⟩
                clear he hem heo hlow3 hoke hge hH hH0
                obtain ⟨wy, hwy⟩ : ∃ wy, wy = wr := ⟨_, rfl⟩
                subst hwy
                rw [hA2]
                go_wp2_with fail
                refine (HE6.out _).mono ?_
                rintro e w10 ⟨rfl, hb10⟩
                have HB10 := Lib.hid (HB9.out.trans (hb10.mono HB9.out.size))
                clear hb10 HE6 v0 v1
                go_wp2_with fail
                clear hqc
                go_loopg [4, 9] args.length (fun gq s i wr => ∃ (q : Nat), q ≤ args.length ∧ s = .string (strOfNums (H q)) ∧ i = .int .i64 q ∧ Hid (args.length - q = gq) ∧ Hid (Below w1.heap.size w1 wr))
                case atStart => exact ⟨0, Nat.zero_le _, rfl, rfl, Lib.hid rfl, HB10⟩
                case round =>
                  obtain ⟨q, hq, rfl, rfl, HGQ, HB11⟩ := hrel
                  have hlow4 : Below B w wr := HB1.out.trans (HB11.out.mono (show B ≤ w1.heap.size by omega))
                  have v1 := HV1.out _ hlow4
                  by_cases hql : q < args.length
                  · obtain ⟨a, ha⟩ : ∃ a, args[q]? = some a := ⟨_, List.getElem?_eq_getElem hql⟩
                    have ham := List.mem_of_getElem? ha
                    have hao := HAO.out a ham
                    have hai := HAI.out a ham
                    have hhs := HHs.out q a ha
                    have hyl := argN_lt (D := L) hao (by have := HM.out; omega)
                    obtain ⟨b3, o3, rfl, hb3, y0, y1, y2, hfit⟩ := (HGR.out _ hlow4).at ha
                    have b12 : Below w1.heap.size w1 (wr.alloc (.cells #[.int .i64 a.t, .int .i64 a.n, .string (strOfNums a.s)] 50)) := HB11.out.alloc HB11.out.size _
                    by_cases ht : a.t = 1
                    · have hy : foldI a.n = ((argN L a : Nat) : Int) := by
                        obtain ⟨_, _, _, f1, f2⟩ := hfit
                        have := foldI_range f1 f2
                        rw [argN, if_pos ht]
                        omega
                      have HFO := Lib.hid (fun W => rfold_any a.n hfit.2.2.2.1 hfit.2.2.2.2 W)
                      rw [hy] at HFO
                      generalize argN L a = y at HFO hyl hhs hy
                      have HPY := Lib.hid (fun W => rput y hyl W)
                      have hqd : ∀ W, (Op.stringOp .add (strOfNums (H q)) (strOfNums (encI y))).run Tryz.prog W = .ok (.string (strOfNums (H (q + 1)))) W := add_to hhs.symm (by have := HHl.out (q + 1); omega)
                      generalize encI y = E7 at HPY hqd
                      obtain ⟨at', hat⟩ : ∃ t, a.t = t := ⟨_, rfl⟩
                      rw [hat] at ht y0 b12
                      subst ht
                      have HB12 := Lib.hid b12
                      clear ha ham hao hai hhs hfit hy b12 hlow4
                      obtain ⟨w12, hw12⟩ : ∃ w12, wr.alloc (.cells #[.int .i64 1, .int .i64 a.n, .string (strOfNums a.s)] 50) = w12 := ⟨_, rfl⟩
                      rw [hw12] at HB12
                      have h12 : Held w12 wr.heap.size 50 #[.int .i64 1, .int .i64 a.n, .string (strOfNums a.s)] := by rw [← hw12]; exact heap_alloc_new wr _
                      have g0 := h12.cell 0
                      have g1 := h12.cell 1
                      simp at g0 g1
                      clear h12
                      go_wp2_with fail
                      refine (HFO.out _).mono ?_
                      rintro e w13 ⟨rfl, rfl⟩
                      go_wp2_with fail
                      refine (HPY.out _).mono ?_
                      rintro e w14 ⟨rfl, hb14⟩
                      have HB14 := Lib.hid (HB12.out.trans (hb14.mono HB12.out.size))
                      clear hb14 HPY HFO
                      go_wp2_with fail
                      go_roundg (args.length - (q + 1))
                      case measure => have := HGQ.out; omega
                      case rel => exact ⟨q + 1, by omega, rfl, by go_num, Lib.hid rfl, HB14⟩
                    · have ht2 : a.t = 2 := hao.kind.resolve_left ht
                      have hy : placeD L a.s = ((argN L a : Nat) : Int) := by
                        rw [argN, if_neg ht]
                        exact placeD_in (hai ht2)
                      have hyL : argN L a < 9223372036854775808 := by
                        have := HM.out
                        rcases placeD_ways L a.s with ⟨q1, _⟩ | ⟨i, q1, q2, _⟩
                        · omega
                        · omega
                      have HPL := Lib.hid (fun W (hb : Below w1.heap.size w1 W) => (show Calls Tryz.prog 100 #[.slice AL m cL, .string (strOfNums a.s)] W fun e w' => e = .returned (.int .i64 (argN L a : Nat)) ∧ W = w' from by
                        have h := rplace_any AL cL L a.s (by rw [HM.out]; exact (ERow.of_own (own_below HO1.out hb))) HX1.out hfit.2.1
                        rw [HM.out, hy] at h
                        exact h))
                      generalize argN L a = y at HPL hyl hhs hy hyL
                      have HPY := Lib.hid (fun W => rnum_any y hyL W)
                      have hqd : ∀ W, (Op.stringOp .add (strOfNums (H q)) (strOfNums (encI y))).run Tryz.prog W = .ok (.string (strOfNums (H (q + 1)))) W := add_to hhs.symm (by have := HHl.out (q + 1); omega)
                      generalize encI y = E7 at HPY hqd
                      have hne : (a.t == 1) = false := beq_eq_false_iff_ne.2 ht
                      obtain ⟨at', hat⟩ : ∃ t, a.t = t := ⟨_, rfl⟩
                      rw [hat] at ht2 y0 b12
                      subst ht2
                      have HB12 := Lib.hid b12
                      clear ha ham hao hai hhs hfit hy b12 hlow4 ht hne
                      obtain ⟨w12, hw12⟩ : ∃ w12, wr.alloc (.cells #[.int .i64 2, .int .i64 a.n, .string (strOfNums a.s)] 50) = w12 := ⟨_, rfl⟩
                      rw [hw12] at HB12
                      have h12 : Held w12 wr.heap.size 50 #[.int .i64 2, .int .i64 a.n, .string (strOfNums a.s)] := by rw [← hw12]; exact heap_alloc_new wr _
                      have g0 := h12.cell 0
                      have g2 := h12.cell 2
                      simp at g0 g2
                      clear h12
                      go_wp2_with fail
                      refine (HPL.out _ HB12.out).mono ?_
                      rintro e w13 ⟨rfl, rfl⟩
                      go_wp2_with fail
                      refine (HPY.out _).mono ?_
                      rintro e w14 ⟨rfl, hb14⟩
                      have HB14 := Lib.hid (HB12.out.trans (hb14.mono HB12.out.size))
                      clear hb14 HPY HPL
                      go_wp2_with fail
                      go_roundg (args.length - (q + 1))
                      case measure => have := HGQ.out; omega
                      case rel => exact ⟨q + 1, by omega, rfl, by go_num, Lib.hid rfl, HB14⟩
                  · obtain rfl : q = args.length := by omega
                    go_wp2_with fail
                    rw [← hA2]
                    go_roundg (d.evs.length - (i + 1))
                    case measure => have := HGI.out; omega
                    case rel => exact ⟨i + 1, by omega, by rw [HHn.out], by go_num, Lib.hid rfl, HB11⟩
              · obtain rfl : i = d.evs.length := by omega
                go_wp2_with fail
                go_roundg (n - (0 + 1))
                case measure => have := HGJ.out; omega
                case rel => exact ⟨0 + 1, by omega, by rw [HGn.out], by go_num, Lib.hid rfl, HB9⟩
          | succ m2 =>
            obtain ⟨d0, hd0⟩ : ∃ d, l[m2]? = some d := ⟨_, List.getElem?_eq_getElem (by have := HN.out; omega)⟩
            have hord : d0.tm ≤ d.tm := HOK.out.ord m2 d0 d hd0 hd
            have hf0 := (HOK.out.pts d0 (List.mem_of_getElem? hd0)).fits
            have hfd := HPO.out.fits
            unfold Pm.Fits at hf0 hfd
            obtain ⟨y, hy⟩ : ∃ y : Nat, d.tm - d0.tm = (y : Int) := ⟨(d.tm - d0.tm).toNat, by omega⟩
            have hyl : y < 18446744073709551616 := by omega
            have HXE := Lib.hid (show F (m2 + 1 + 1) = (F (m2 + 1) ++ encI y) ++ evsB L d.evs by
              have hst : stepN l (m2 + 1) = y := by
                unfold stepN
                rw [tmAt_of hd, show m2 + 1 - 1 = m2 from rfl, tmAt_of hd0, hy]
                rfl
              rw [HFE.out, ptB, HEV.out, if_pos (Nat.succ_pos m2), hst, List.append_assoc])
            obtain ⟨_, _, e9, _, z0, _⟩ := (HTR.out _ hlow).at hd0
            injection e9 with e9
            injection e9 with e9a e9b
            subst e9a e9b
            have hw9 : IntKind.u64.wrap (d.tm - d0.tm) = (y : Int) := by rw [hy]; exact IntWalk.u64_in _ (by omega)
            have hm9 : IntKind.i64.wrap (m2 : Int) = (m2 : Int) := IntWalk.i64_in _ (by omega)
            have hm1 : (0 : Int) ≤ (m2 : Int) := by omega
            have hm2 : (m2 : Int) < (n : Int) := by omega
            have hm3 : ¬ (m2 : Int) < 0 := by omega
            have hm4 : ¬ (n : Int) ≤ (m2 : Int) := by omega
            have hm5 : m2 < n := by omega
            have hm6 : (0 : Int) ≤ (m2 : Int) + 1 := by omega
            have hm7 : (m2 : Int) + 1 < (n : Int) := by omega
            have hm8 : ¬ (m2 : Int) + 1 < 0 := by omega
            have hm9' : ¬ (n : Int) ≤ (m2 : Int) + 1 := by omega
            have hm10 : m2 + 1 < n := by omega
            obtain ⟨X, hX⟩ : ∃ X, F (m2 + 1) ++ encI y = X := ⟨_, rfl⟩
            rw [hX] at HXE
            have HPY := Lib.hid (fun W => rput y hyl W)
            have hqd : ∀ W, (Op.stringOp .add (strOfNums (F (m2 + 1))) (strOfNums (encI y))).run Tryz.prog W = .ok (.string (strOfNums X)) W := add_to hX (by
              have h1 := hfl
              rw [HXE.out, List.length_append] at h1
              omega)
            generalize encI y = E9 at HPY hqd hX
            have HALL := Lib.hid (fun W (hb : Below wx.heap.size wx W) => (⟨(hb.cell (p := ⟨b, o + (m2 + 1) * 2, none⟩) (by have := hlow.size; show b < _; omega)).trans u0, (hb.cell (p := ⟨b, o + m2 * 2, none⟩) (by have := hlow.size; show b < _; omega)).trans z0⟩ : W.cell? ⟨b, o + (m2 + 1) * 2, none⟩ = some (.int .u64 d.tm) ∧ W.cell? ⟨b, o + m2 * 2, none⟩ = some (.int .u64 d0.tm)))
            clear hd hdm hd0 hf0 hfd hy hX hord hlow u1
            go_wp2_with fail
            go_region_held3 (fun W => W.cell? ⟨b, o + (m2 + 1) * 2, none⟩ = some (.int .u64 d.tm) ∧ W.cell? ⟨b, o + m2 * 2, none⟩ = some (.int .u64 d0.tm))
              (first | exact HALL.out _ b7 | exact HALL.out _ (Below.refl _ _).drew | exact HALL.out _ (Below.refl _ _))
              (first | (go_at_call 96; (with_reducible refine (HPY.out _).mono ?_); rintro e w7 ⟨rfl, hb7⟩; have b7 : Below wx.heap.size wx w7 := (Below.refl _ _).drew.trans hb7))
            have HB7 := Lib.hid (HB6.out.trans (b7.mono HB6.out.size))
            clear b7 hb7 HALL HPY u0 z0 hw9 hm9 hqd
            have hlow2 : Below B w _ := HB1.out.trans (HB7.out.mono (show B ≤ w1.heap.size by omega))
            have u1' := (hlow2.cell (p := ⟨b, o + (m2 + 1) * 2 + 1, none⟩) hb0).trans ux1
            have HE5 := Lib.hid (fun W => rnum_any d.evs.length (by have := HPO.out.few; omega) W)
            obtain ⟨G, hG⟩ : ∃ G : Nat → List Int, G = fun i => X ++ encI d.evs.length ++ evlB L (d.evs.take i) := ⟨_, rfl⟩
            have hG0 : X ++ encI d.evs.length = G 0 := by rw [hG]; simp [evlB]
            have HGn := Lib.hid (show G d.evs.length = F (m2 + 1 + 1) by rw [hG, HXE.out]; simp [evsB])
            have HGs := Lib.hid (show ∀ (i : Nat) (e : Em), d.evs[i]? = some e → G (i + 1) = G i ++ encI e.p.toNat ++ argsB L e.args from fun i e he => by rw [hG]; simp only; rw [evlB_succ he]; simp only [evB, List.append_assoc])
            have HGl := Lib.hid (show ∀ i, (G i).length ≤ 10000000000 from fun i => by
              have h1 := hfl
              have h2 := flatMap_take_le (evB L) d.evs i
              rw [HXE.out] at h1
              rw [hG]
              simp only [evsB, evlB, List.length_append] at h1 ⊢
              omega)
            have hqb : ∀ W, (Op.stringOp .add (strOfNums (X)) (strOfNums (encI d.evs.length))).run Tryz.prog W = .ok (.string (strOfNums (G 0))) W := add_to hG0 (by have := HGl.out 0; omega)
            generalize encI d.evs.length = E5 at HE5 hqb hG0
            clear hG hG0 hlow2
            go_wp2_with fail
            refine (HE5.out _).mono ?_
            rintro e w8 ⟨rfl, hb8⟩
            have HB8 := Lib.hid (HB7.out.trans (hb8.mono HB7.out.size))
            clear hb8 HE5 u1'
            go_wp2_with fail
            clear hqb
            go_loopg [4, 8] d.evs.length (fun gi s i wr => ∃ (i0 : Nat), i0 ≤ d.evs.length ∧ s = .string (strOfNums (G i0)) ∧ i = .int .i64 i0 ∧ Hid (d.evs.length - i0 = gi) ∧ Hid (Below w1.heap.size w1 wr))
            case atStart => exact ⟨0, Nat.zero_le _, rfl, rfl, Lib.hid rfl, HB8⟩
            case round =>
              obtain ⟨i, hi, rfl, rfl, HGI, HB9⟩ := hrel
              by_cases hil : i < d.evs.length
              · obtain ⟨e, he⟩ : ∃ e, d.evs[i]? = some e := ⟨_, List.getElem?_eq_getElem hil⟩
                have hem := List.mem_of_getElem? he
                have heo := HPO.out.evs e hem
                have hlow3 : Below B w wr := HB1.out.trans (HB9.out.mono (show B ≤ w1.heap.size by omega))
                obtain ⟨b2, o2, hA2, hb2, v0, v1, hoke, hl3, hl4⟩ := (HEVR.out _ hlow3).at he
                have HGR := Lib.hid (fun W (hb : Below B w W) => (((HEVR.out W hb).2 e hem).1))
                have HV1 := Lib.hid (fun W (hb : Below B w W) => (show W.cell? ⟨b2, o2 + i * 2 + 1, none⟩ = some (.slice e.A e.args.length e.c) from (hb.cell (p := ⟨b2, o2 + i * 2 + 1, none⟩) hb2).trans ((hlow3.cell (p := ⟨b2, o2 + i * 2 + 1, none⟩) hb2).symm.trans v1)))
                obtain ⟨pn, hpn⟩ : ∃ pn : Nat, e.p = (pn : Int) := ⟨e.p.toNat, by have := heo.low; omega⟩
                have hpl : pn < 64 := by have := heo.high; omega
                have hge : G (i + 1) = G i ++ encI pn ++ argsB L e.args := by rw [HGs.out i e he, hpn]; rfl
                have hfew2 := heo.few
                have HAO := Lib.hid heo.args
                have HAI := Lib.hid (HIN.out e hem)
                have HE6 := Lib.hid (fun W => rnum_any pn (by omega) W)
                obtain ⟨H, hH⟩ : ∃ H : Nat → List Int, H = fun q => G i ++ encI pn ++ argsB L (e.args.take q) := ⟨_, rfl⟩
                have hH0 : G i ++ encI pn = H 0 := by rw [hH]; simp [argsB]
                have HHn := Lib.hid (show H e.args.length = G (i + 1) by rw [hH, hge]; simp)
                have HHs := Lib.hid (show ∀ (q : Nat) (a : Ag), e.args[q]? = some a → H (q + 1) = H q ++ encI (argN L a) from fun q a ha => by rw [hH]; simp only; rw [argsB_succ ha]; simp only [List.append_assoc])
                have HHl := Lib.hid (show ∀ q, (H q).length ≤ 10000000000 from fun q => by
                  have h1 := HGl.out (i + 1)
                  have h2 := flatMap_take_le (fun a => encI (argN L a)) e.args q
                  rw [hge] at h1
                  rw [hH]
                  simp only [argsB, List.length_append] at h1 ⊢
                  omega)
                have hqc : ∀ W, (Op.stringOp .add (strOfNums (G i)) (strOfNums (encI pn))).run Tryz.prog W = .ok (.string (strOfNums (H 0))) W := add_to hH0 (by have := HHl.out 0; omega)
                generalize encI pn = E6 at HE6 hqc
                obtain ⟨ep, args, eA, ec⟩ := e
                simp only at v0 v1 hl3 hl4 hpn HGR HV1 HAO HAI HHn HHs hfew2
                subst hpn
                obtain ⟨dA0, hdA0⟩ : ∃ a, dA = a := ⟨_, rfl⟩
                clear he hem heo hlow3 hoke hge hH hH0
                obtain ⟨wy, hwy⟩ : ∃ wy, wy = wr := ⟨_, rfl⟩
                subst hwy
                rw [hA2]
                go_wp2_with fail
                refine (HE6.out _).mono ?_
                rintro e w10 ⟨rfl, hb10⟩
                have HB10 := Lib.hid (HB9.out.trans (hb10.mono HB9.out.size))
                clear hb10 HE6 v0 v1
                go_wp2_with fail
                clear hqc
                go_loopg [4, 9] args.length (fun gq s i wr => ∃ (q : Nat), q ≤ args.length ∧ s = .string (strOfNums (H q)) ∧ i = .int .i64 q ∧ Hid (args.length - q = gq) ∧ Hid (Below w1.heap.size w1 wr))
                case atStart => exact ⟨0, Nat.zero_le _, rfl, rfl, Lib.hid rfl, HB10⟩
                case round =>
                  obtain ⟨q, hq, rfl, rfl, HGQ, HB11⟩ := hrel
                  have hlow4 : Below B w wr := HB1.out.trans (HB11.out.mono (show B ≤ w1.heap.size by omega))
                  have v1 := HV1.out _ hlow4
                  by_cases hql : q < args.length
                  · obtain ⟨a, ha⟩ : ∃ a, args[q]? = some a := ⟨_, List.getElem?_eq_getElem hql⟩
                    have ham := List.mem_of_getElem? ha
                    have hao := HAO.out a ham
                    have hai := HAI.out a ham
                    have hhs := HHs.out q a ha
                    have hyl := argN_lt (D := L) hao (by have := HM.out; omega)
                    obtain ⟨b3, o3, rfl, hb3, y0, y1, y2, hfit⟩ := (HGR.out _ hlow4).at ha
                    have b12 : Below w1.heap.size w1 (wr.alloc (.cells #[.int .i64 a.t, .int .i64 a.n, .string (strOfNums a.s)] 50)) := HB11.out.alloc HB11.out.size _
                    by_cases ht : a.t = 1
                    · have hy : foldI a.n = ((argN L a : Nat) : Int) := by
                        obtain ⟨_, _, _, f1, f2⟩ := hfit
                        have := foldI_range f1 f2
                        rw [argN, if_pos ht]
                        omega
                      have HFO := Lib.hid (fun W => rfold_any a.n hfit.2.2.2.1 hfit.2.2.2.2 W)
                      rw [hy] at HFO
                      generalize argN L a = y at HFO hyl hhs hy
                      have HPY := Lib.hid (fun W => rput y hyl W)
                      have hqd : ∀ W, (Op.stringOp .add (strOfNums (H q)) (strOfNums (encI y))).run Tryz.prog W = .ok (.string (strOfNums (H (q + 1)))) W := add_to hhs.symm (by have := HHl.out (q + 1); omega)
                      generalize encI y = E7 at HPY hqd
                      obtain ⟨at', hat⟩ : ∃ t, a.t = t := ⟨_, rfl⟩
                      rw [hat] at ht y0 b12
                      subst ht
                      have HB12 := Lib.hid b12
                      clear ha ham hao hai hhs hfit hy b12 hlow4
                      obtain ⟨w12, hw12⟩ : ∃ w12, wr.alloc (.cells #[.int .i64 1, .int .i64 a.n, .string (strOfNums a.s)] 50) = w12 := ⟨_, rfl⟩
                      rw [hw12] at HB12
                      have h12 : Held w12 wr.heap.size 50 #[.int .i64 1, .int .i64 a.n, .string (strOfNums a.s)] := by rw [← hw12]; exact heap_alloc_new wr _
                      have g0 := h12.cell 0
                      have g1 := h12.cell 1
                      simp at g0 g1
                      clear h12
                      go_wp2_with fail
                      refine (HFO.out _).mono ?_
                      rintro e w13 ⟨rfl, rfl⟩
                      go_wp2_with fail
                      refine (HPY.out _).mono ?_
                      rintro e w14 ⟨rfl, hb14⟩
                      have HB14 := Lib.hid (HB12.out.trans (hb14.mono HB12.out.size))
                      clear hb14 HPY HFO
                      go_wp2_with fail
                      go_roundg (args.length - (q + 1))
                      case measure => have := HGQ.out; omega
                      case rel => exact ⟨q + 1, by omega, rfl, by go_num, Lib.hid rfl, HB14⟩
                    · have ht2 : a.t = 2 := hao.kind.resolve_left ht
                      have hy : placeD L a.s = ((argN L a : Nat) : Int) := by
                        rw [argN, if_neg ht]
                        exact placeD_in (hai ht2)
                      have hyL : argN L a < 9223372036854775808 := by
                        have := HM.out
                        rcases placeD_ways L a.s with ⟨q1, _⟩ | ⟨i, q1, q2, _⟩
                        · omega
                        · omega
                      have HPL := Lib.hid (fun W (hb : Below w1.heap.size w1 W) => (show Calls Tryz.prog 100 #[.slice AL m cL, .string (strOfNums a.s)] W fun e w' => e = .returned (.int .i64 (argN L a : Nat)) ∧ W = w' from by
                        have h := rplace_any AL cL L a.s (by rw [HM.out]; exact (ERow.of_own (own_below HO1.out hb))) HX1.out hfit.2.1
                        rw [HM.out, hy] at h
                        exact h))
                      generalize argN L a = y at HPL hyl hhs hy hyL
                      have HPY := Lib.hid (fun W => rnum_any y hyL W)
                      have hqd : ∀ W, (Op.stringOp .add (strOfNums (H q)) (strOfNums (encI y))).run Tryz.prog W = .ok (.string (strOfNums (H (q + 1)))) W := add_to hhs.symm (by have := HHl.out (q + 1); omega)
                      generalize encI y = E7 at HPY hqd
                      have hne : (a.t == 1) = false := beq_eq_false_iff_ne.2 ht
                      obtain ⟨at', hat⟩ : ∃ t, a.t = t := ⟨_, rfl⟩
                      rw [hat] at ht2 y0 b12
                      subst ht2
                      have HB12 := Lib.hid b12
                      clear ha ham hao hai hhs hfit hy b12 hlow4 ht hne
                      obtain ⟨w12, hw12⟩ : ∃ w12, wr.alloc (.cells #[.int .i64 2, .int .i64 a.n, .string (strOfNums a.s)] 50) = w12 := ⟨_, rfl⟩
                      rw [hw12] at HB12
                      have h12 : Held w12 wr.heap.size 50 #[.int .i64 2, .int .i64 a.n, .string (strOfNums a.s)] := by rw [← hw12]; exact heap_alloc_new wr _
                      have g0 := h12.cell 0
                      have g2 := h12.cell 2
                      simp at g0 g2
                      clear h12
                      go_wp2_with fail
                      refine (HPL.out _ HB12.out).mono ?_
                      rintro e w13 ⟨rfl, rfl⟩
                      go_wp2_with fail
                      refine (HPY.out _).mono ?_
                      rintro e w14 ⟨rfl, hb14⟩
                      have HB14 := Lib.hid (HB12.out.trans (hb14.mono HB12.out.size))
                      clear hb14 HPY HPL
                      go_wp2_with fail
                      go_roundg (args.length - (q + 1))
                      case measure => have := HGQ.out; omega
                      case rel => exact ⟨q + 1, by omega, rfl, by go_num, Lib.hid rfl, HB14⟩
                  · obtain rfl : q = args.length := by omega
                    go_wp2_with fail
                    rw [← hA2]
                    go_roundg (d.evs.length - (i + 1))
                    case measure => have := HGI.out; omega
                    case rel => exact ⟨i + 1, by omega, by rw [HHn.out], by go_num, Lib.hid rfl, HB11⟩
              · obtain rfl : i = d.evs.length := by omega
                go_wp2_with fail
                go_roundg (n - (m2 + 1 + 1))
                case measure => have := HGJ.out; omega
                case rel => exact ⟨m2 + 1 + 1, by omega, by rw [HGn.out], by go_num, Lib.hid rfl, HB9⟩
        · obtain rfl : j = n := by omega
          go_wp2_with fail
          go_ret
          exact ⟨rfl, HB1.out.trans (HB6.out.mono (show B ≤ w1.heap.size by omega))⟩
#print axioms rtext_any
end Go.Proofs.YtfknibjejnmghaaGreat

namespace Go.Proofs.YtfknibjejnmghaaGreat
open Go.RowKit Go.ChangeShapes Go.WideShapes
set_option linter.unusedVariables false

section
variable (A : Option Addr) (c : Nat) (ds : List Pd) (T : Option Addr) (ct : Nat) (ps : List Pm) (w : World)
set_option maxRecDepth 100000 in
set_option maxHeartbeats 1000000 in
theorem rwhole_any (hrow : PredRow w w.heap.size (.slice A ds.length c) ds) (ht : TrRow w w.heap.size (.slice T ps.length ct) ps) :
    Calls Tryz.prog 52 #[.slice A ds.length c, .slice T ps.length ct] w fun e w' => e = .returned (.tuple #[.string (strOfNums (wholeB (ds.map (·.p)) ps).1), .int .i64 (wholeB (ds.map (·.p)) ps).2]) ∧ Below w.heap.size w w' := by
  obtain ⟨-, hc1, hc2⟩ := ht.1.len
  have HCK := Lib.hid (rtcheck_any A c ds T ct ps w hrow ht)
  have hw : ∀ h : checkB (ds.map (·.p)) ps ≠ 0, wholeB (ds.map (·.p)) ps = ([], checkB (ds.map (·.p)) ps) := fun h => if_neg h
  by_cases h0 : ps.length = 0
  · have hck : checkB (ds.map (·.p)) ps = 1 := if_pos h0
    rw [hw (by rw [hck]; decide), hck]
    rw [h0] at HCK hc1 ⊢
    clear h0 hck hw hrow ht
    go_enter Tryz.func52, Tryz.ntmps52
    go_wp2_with fail
    go_ret2
    exact ⟨rfl, Below.refl _ _⟩
  · have hn0 : ¬ (ps.length : Int) = 0 := by omega
    have hne0 : ((ps.length : Int) == 0) = false := beq_eq_false_iff_ne.2 hn0
    by_cases h1 : (checkT (ds.map (·.p)) (ps.map (·.p))).1 = 0
    · by_cases h2 : 1024 < ps.length
      · have hck : checkB (ds.map (·.p)) ps = 6 := by unfold checkB; rw [if_neg h0, if_neg (fun h => h h1), if_pos h2]
        rw [hw (by rw [hck]; decide), hck]
        rw [h1] at HCK
        generalize checkT (ds.map (·.p)) (ps.map (·.p)) = C at HCK h1
        obtain ⟨n, hn⟩ : ∃ n, ps.length = n := ⟨_, rfl⟩
        rw [hn] at HCK hc1 h0 hn0 hne0 h2 ⊢
        have h2' : (1024 : Int) < (n : Int) := by omega
        clear hn hck hw hrow ht h1
        go_enter Tryz.func52, Tryz.ntmps52
        go_wp2_with fail
        refine HCK.out.mono ?_
        rintro e w1 ⟨rfl, hb1⟩
        go_wp2_with fail
        go_ret2
        exact ⟨rfl, hb1⟩
      · have hck : checkB (ds.map (·.p)) ps = 0 := by unfold checkB; rw [if_neg h0, if_neg (fun h => h h1), if_neg h2]
        have hbo := ht.bok hck
        rw [show wholeB (ds.map (·.p)) ps = (payB ps, 0) from if_pos hck]
        rw [h1] at HCK
        have HT := Lib.hid (fun W (hb : Below w.heap.size w W) => rtext_any T ct ps W ((ht.below hb).more hb.size) hbo (by omega))
        generalize checkT (ds.map (·.p)) (ps.map (·.p)) = C at HCK h1
        dsimp only
        generalize payB ps = P at HT ⊢
        obtain ⟨n, hn⟩ : ∃ n, ps.length = n := ⟨_, rfl⟩
        rw [hn] at HCK HT hc1 h0 hn0 hne0 h2 ⊢
        have h2' : ¬ (1024 : Int) < (n : Int) := by omega
        have h2'' : (n : Int) ≤ 1024 := by omega
        clear hn hck hw hrow ht h1 hbo
        go_enter Tryz.func52, Tryz.ntmps52
        go_wp2_with fail
        refine HCK.out.mono ?_
        rintro e w1 ⟨rfl, hb1⟩
        go_wp2_with fail
        refine (HT.out _ hb1).mono ?_
        rintro e w2 ⟨rfl, hb2⟩
        have HB2 := Lib.hid (hb1.trans (hb2.mono hb1.size))
        clear hb1 hb2
        go_wp2_with fail
        go_ret2
        exact ⟨rfl, HB2.out⟩
    · have hck : checkB (ds.map (·.p)) ps = (checkT (ds.map (·.p)) (ps.map (·.p))).1 := by unfold checkB; rw [if_neg h0, if_pos h1]
      rw [hw (by rw [hck]; exact h1), hck]
      generalize checkT (ds.map (·.p)) (ps.map (·.p)) = C at HCK h1 ⊢
      have hne : (C.1 != 0) = true := bne_iff_ne.2 h1
      obtain ⟨n, hn⟩ : ∃ n, ps.length = n := ⟨_, rfl⟩
      rw [hn] at HCK hc1 h0 hn0 hne0 ⊢
      clear hn hck hw hrow ht
      go_enter Tryz.func52, Tryz.ntmps52
      go_wp2_with fail
      refine HCK.out.mono ?_
      rintro e w1 ⟨rfl, hb1⟩
      go_wp2_with fail
      go_ret2
      exact ⟨rfl, hb1⟩
#print axioms rwhole_any

set_option maxRecDepth 100000 in
set_option maxHeartbeats 1000000 in
theorem rput14_any (hrow : PredRow w w.heap.size (.slice A ds.length c) ds) (ht : TrRow w w.heap.size (.slice T ps.length ct) ps) :
    Calls Tryz.prog 25 #[.slice A ds.length c, .slice T ps.length ct] w fun e w' => e = .returned (.tuple #[.string (strOfNums (putB (ds.map (·.p)) ps).1), .int .i64 (putB (ds.map (·.p)) ps).2]) ∧ Below w.heap.size w w' := by
  have hwh := rwhole_any A c ds T ct ps w hrow ht
  unfold wholeB at hwh
  unfold putB
  by_cases h0 : checkB (ds.map (·.p)) ps = 0
  · rw [if_pos h0] at hwh ⊢
    have hpl := payB_len (ht.bok h0)
    clear h0 hrow ht
    dsimp only at hwh
    generalize payB ps = P at hwh hpl ⊢
    have HW := Lib.hid hwh
    have hss : (strOfNums P).size = P.length := strOfNums_size P
    clear hwh
    by_cases h1 : 4096 < P.length
    · rw [if_pos h1]
      have h1' : (4096 : Int) < ((strOfNums P).size : Int) := by rw [hss]; omega
      generalize strOfNums P = S at HW h1' hss
      go_enter Tryz.func25, Tryz.ntmps25
      go_wp2_with fail
      refine HW.out.mono ?_
      rintro e w1 ⟨rfl, hb1⟩
      go_wp2_with fail
      go_ret2
      exact ⟨rfl, hb1⟩
    · rw [if_neg h1]
      have h1' : ¬ (4096 : Int) < ((strOfNums P).size : Int) := by rw [hss]; omega
      dsimp only
      generalize strOfNums P = S at HW h1' hss ⊢
      go_enter Tryz.func25, Tryz.ntmps25
      go_wp2_with fail
      refine HW.out.mono ?_
      rintro e w1 ⟨rfl, hb1⟩
      go_wp2_with fail
      go_ret2
      exact ⟨rfl, hb1⟩
  · rw [if_neg h0] at hwh ⊢
    have hne : (checkB (ds.map (·.p)) ps == 0) = false := beq_eq_false_iff_ne.2 h0
    generalize checkB (ds.map (·.p)) ps = C at hwh hne h0 ⊢
    have HW := Lib.hid hwh
    clear hwh hrow ht
    go_enter Tryz.func25, Tryz.ntmps25
    go_wp2_with fail
    refine HW.out.mono ?_
    rintro e w1 ⟨rfl, hb1⟩
    go_wp2_with fail
    go_ret2
    exact ⟨rfl, hb1⟩
#print axioms rput14_any

end
end Go.Proofs.YtfknibjejnmghaaGreat
