/-
  The document's own way through a payload: Get.
-/
import Derived.Test.YtnjhkjlekepjoaaSigRef
import Derived.Test.YtnjhkjlekepjoaaSigbinGet
import Derived.Test.YtnjhkjlekepjoaaPlainSigRd
import Derived.Test.YtnjhkjlekepjoaaBlobRefGet
import Derived.Deep.AppendLies
import Derived.Deep.RegionLaw
namespace Go.Proofs.Ytnjhkjlekepjoaa
open Go.RowKit

/-- No predicates, in a block of their own. -/
theorem own_noP (w : World) : (w.alloc (.cells #[] 45)).ownsRow w.heap.size 45 2 (.slice (some ⟨w.heap.size, 0, none⟩) 0 0) 0 [] :=
  ⟨rfl, .inr ⟨w.heap.size, 0, #[], rfl, Nat.le_refl _, heap_alloc_new w _, Nat.le_refl _, Nat.zero_le _, rfl, rfl⟩⟩
theorem sig_none {n : Nat} {r : List Pr × Int} {k : Int} {e : Ending} {w' : World} (hr : r = ([], k)) (h : w'.ownsRow n 45 2 (.slice (some ⟨n, 0, none⟩) 0 0) 0 []) (he : e = .returned (.tuple #[.slice (some ⟨n, 0, none⟩) 0 0, .int .i64 k])) : SigGot n r e w' := by
  subst hr
  exact ⟨_, 0, [], he, ⟨h, by simp⟩, rfl⟩

set_option maxRecDepth 100000 in
set_option maxHeartbeats 8000000 in
theorem rsget_any (xs : List Int) (hb : ∀ x ∈ xs, 0 ≤ x ∧ x < 256) (hl : xs.length ≤ 1000000) (w : World) :
    Calls Try.prog 15 #[.string (strOfNums xs)] w fun e w' => SigGot w.heap.size (getSig xs) e w' ∧ Below w.heap.size w w' := by
  obtain ⟨i1, hi1, hy0, hy1, hy2⟩ := info_parts Try.infoPred
  obtain ⟨i0, hi0, hz0, hz1, hz2⟩ := info_parts Try.infoIntB
  have hss : (strOfNums xs).size = xs.length := strOfNums_size xs
  have hg := fun W => rget_any xs hb (by omega) W
  have HNO := Lib.hid (own_noP w)
  have HB0 := Lib.hid (show Below w.heap.size w (w.alloc (.cells #[] 45)) from (Below.refl _ _).alloc (Nat.le_refl _) _)
  obtain ⟨n, hn⟩ : ∃ n, w.heap.size = n := ⟨_, rfl⟩
  have hsa : (w.alloc (.cells #[] 45)).heap.size = n + 1 := by rw [← hn]; simp
  rw [hn] at HNO HB0 ⊢
  have HN := Lib.hid hn
  have HSA := Lib.hid hsa
  clear hn hsa
  by_cases h1 : (getI xs).2.2 = 0
  · obtain ⟨N, s, hgi, b1, b2, b3, b4, b5⟩ := getI_ok xs hb h1
    rw [hgi] at hg
    simp only at hg
    have HG := Lib.hid hg
    have HGI := Lib.hid hgi
    have HB := Lib.hid hb
    have hN0 : (0 : Int) ≤ (N : Int) := by omega
    clear hg hgi b3 b4 h1 hb
    by_cases h2 : 64 < N
    · have hli : (64 : Int) < (N : Int) := by omega
      have HR := Lib.hid (getSig_limit HGI.out h2)
      clear h2
      go_enter Try.func15, Try.ntmps15
      go_wp2_with fail
      refine (HG.out _).mono ?_
      rintro e w1 ⟨rfl, rfl⟩
      go_wp2_with fail
      rw [HN.out]
      go_ret2
      exact ⟨sig_none HR.out HNO.out rfl, HB0.out⟩
    · have hli : (N : Int) ≤ 64 := by omega
      have hcv : IntKind.i64.wrap (N : Int) = (N : Int) := by rw [IntKind.wrap_i64]; omega
      go_enter Try.func15, Try.ntmps15
      go_wp2_with fail
      refine (HG.out _).mono ?_
      rintro e w1 ⟨rfl, rfl⟩
      go_wp2_with fail
      rw [HN.out]
      obtain ⟨w0, hw0⟩ : ∃ w0, w.alloc (.cells #[] 45) = w0 := ⟨_, rfl⟩
      rw [hw0] at HNO HB0 HSA ⊢
      clear hw0
      have hs0 : w0.heap.size = n + 1 := HSA.out
      have HNOW := Lib.hid (fun (W : World) (h : Below (n + 1) w0 W) => own_below HNO.out (by rw [hs0]; exact h))
      have HOUT := Lib.hid (show OwnP (w0.alloc (.cells #[] 45)) (n + 1) (.slice (some ⟨n + 1, 0, none⟩) 0 0) [] from ⟨by have := own_noP w0; rw [hs0] at this; exact this, by simp⟩)
      have HST := Lib.hid (show Below (n + 1) w0 (w0.alloc (.cells #[] 45)) from (Below.refl _ _).alloc (by omega) _)
      have HRS := Lib.hid (RdG.start (xs := xs) (n := N) (s := s) b2)
      have h64 : N ≤ 64 := by omega
      clear hs0
      go_loopg [6, 8, 9] N (fun gk pl out i wr => ∃ (k p : Nat) (A : Option Addr) (c : Nat) (es : List Pd), k ≤ N ∧ p ≤ xs.length ∧ i = .int .i64 k ∧ pl = .int .i64 p ∧ out = .slice A es.length c ∧ Hid (N - k = gk) ∧ Hid (RdG xs N s k p (es.map (·.p))) ∧ Hid (OwnP wr (n + 1) (.slice A es.length c) es) ∧ Hid (Below (n + 1) w0 wr))
      case atStart => exact ⟨0, s, _, 0, [], Nat.zero_le _, b2, rfl, rfl, rfl, Lib.hid rfl, HRS, HOUT, HST⟩
      case round =>
        obtain ⟨k, p, A, c, es, hk, hp, rfl, rfl, rfl, HGK, HRD, HOW, HBW⟩ := hrel
        obtain ⟨wx, hwx⟩ : ∃ wx, wx = wr := ⟨_, rfl⟩
        subst hwx
        by_cases hlt : k < N
        · have hys : ∀ x ∈ xs.drop p, 0 ≤ x ∧ x < 256 := drop_bytes HB.out p
          have hyl : (xs.drop p).length = xs.length - p := List.length_drop
          have hgt := fun W => rbget_any (xs.drop p) 32 (by omega) (by omega) W hys (by omega)
          have hcut : (strOfNums xs).extract p xs.length = strOfNums (xs.drop p) := by rw [str_cut, List.take_length]
          have hpi : (p : Int) ≤ (xs.length : Int) := by omega
          have hpi0 : (0 : Int) ≤ (p : Int) := by omega
          have hway := getP_ways (xs.drop p) hys
          have HYL := Lib.hid hyl
          clear hys hyl
          obtain ⟨ys, hys⟩ : ∃ ys, xs.drop p = ys := ⟨_, rfl⟩
          have HYS := Lib.hid hys
          rw [hys] at hgt hcut hway HYL
          clear hys
          rcases hway with ⟨e1, eP⟩ | ⟨nm, sz, ht, c1, c2, c3, c4, c5, hway⟩
          · have HR := Lib.hid (HRD.out.bad HGI.out h64 hlt (by rw [HYS.out, eP]) e1)
            have hne : ((getT 32 ys).2.2 != 0) = true := bne_iff_ne.2 e1
            clear eP e1
            generalize getT 32 ys = t at hgt HR hne
            obtain ⟨a, b, er⟩ := t
            simp only at hgt HR hne
            have HGT := Lib.hid hgt
            clear hgt
            go_wp2_with fail
            refine (HGT.out _).mono ?_
            rintro e w2 ⟨rfl, rfl⟩
            go_wp2_with fail
            go_ret2
            exact ⟨sig_none HR.out (HNOW.out _ HBW.out) rfl, HB0.out.trans (HBW.out.mono (by omega))⟩
          · rw [ht] at hgt
            simp only at hgt
            have HGT := Lib.hid hgt
            have hyl2 : ys.length = xs.length - p := HYL.out
            obtain ⟨P, hP⟩ : ∃ P, p + sz = P := ⟨_, rfl⟩
            have hPl : P ≤ xs.length := by omega
            have hPi : (P : Int) ≤ (xs.length : Int) := by omega
            have hPi0 : (0 : Int) ≤ (P : Int) := by omega
            have hzs : ∀ x ∈ xs.drop P, 0 ≤ x ∧ x < 256 := drop_bytes HB.out P
            have hzl : (xs.drop P).length = xs.length - P := List.length_drop
            have hgn := fun W => rget_any (xs.drop P) hzs (by omega) W
            have hcut2 : (strOfNums xs).extract P xs.length = strOfNums (xs.drop P) := by rw [str_cut, List.take_length]
            have hys2 : ys.drop sz = xs.drop P := by rw [← HYS.out, List.drop_drop, hP]
            rw [hys2] at hway
            obtain ⟨zs, hzs2⟩ : ∃ zs, xs.drop P = zs := ⟨_, rfl⟩
            rw [hzs2] at hgn hcut2 hway hzl
            have p1 : (p : Int) + (sz : Int) = (P : Int) := by omega
            have r1 : IntKind.i64.wrap (P : Int) = (P : Int) := IntWalk.i64_in _ (by omega)
            have HZL := Lib.hid hzl
            have HC4 := Lib.hid c5
            clear hgt hzs hzs2 hzl hys2 c4 c5 hyl2
            rcases hway with ⟨e1, eP⟩ | ⟨m, z2, hgi2, d1, d2, d3, d4, hway⟩
            · have HR := Lib.hid (HRD.out.bad HGI.out h64 hlt (by rw [HYS.out, eP]) e1)
              have hne : ((getI zs).2.2 != 0) = true := bne_iff_ne.2 e1
              clear eP e1
              generalize getI zs = t at hgn HR hne
              obtain ⟨a, b, er⟩ := t
              simp only at hgn HR hne
              have HGN := Lib.hid hgn
              clear hgn hP
              go_wp2_with fail
              refine (HGT.out _).mono ?_
              rintro e w2 ⟨rfl, rfl⟩
              go_wp2_with fail
              refine (HGN.out _).mono ?_
              rintro e w2 ⟨rfl, rfl⟩
              go_wp2_with fail
              go_ret2
              exact ⟨sig_none HR.out (HNOW.out _ HBW.out) rfl, HB0.out.trans (HBW.out.mono (by omega))⟩
            · rw [hgi2] at hgn
              simp only at hgn
              have HGN := Lib.hid hgn
              have hyl3 : ys.length = xs.length - p := HYL.out
              have hm0 : (0 : Int) ≤ (m : Int) := by omega
              by_cases h8 : 8 < m
              · have eP : getP ys = (default, 0, 6) := by
                  rcases hway with ⟨_, e⟩ | ⟨h, _⟩ | ⟨h, _⟩
                  · exact e
                  · omega
                  · omega
                have HR := Lib.hid (HRD.out.bad HGI.out h64 hlt (by rw [HYS.out, eP]) (show (6 : Int) ≠ 0 by decide))
                have h8i : (8 : Int) < (m : Int) := by omega
                clear hgn hP hway eP hyl3 d4
                go_wp2_with fail
                refine (HGT.out _).mono ?_
                rintro e w2 ⟨rfl, rfl⟩
                go_wp2_with fail
                refine (HGN.out _).mono ?_
                rintro e w2 ⟨rfl, rfl⟩
                go_wp2_with fail
                go_ret2
                exact ⟨sig_none HR.out (HNOW.out _ HBW.out) rfl, HB0.out.trans (HBW.out.mono (by omega))⟩
              · obtain ⟨Q, hQ⟩ : ∃ Q, P + z2 = Q := ⟨_, rfl⟩
                have hzl3 : zs.length = xs.length - P := HZL.out
                have hQl : Q ≤ xs.length := by omega
                have hysq : ys.drop (sz + z2) = xs.drop Q := by rw [← HYS.out, List.drop_drop, ← Nat.add_assoc, hP, hQ]
                have h8i : (m : Int) ≤ 8 := by omega
                have HSH := Lib.hid (show xs.length < Q + m → getP ys = (default, 0, 2) from by
                  intro h
                  rcases hway with ⟨h', e⟩ | ⟨_, _, e⟩ | ⟨_, h', e⟩
                  · omega
                  · exact e
                  · omega)
                have HOK := Lib.hid (show Q + m ≤ xs.length → getP ys = (⟨nm, (xs.drop Q).take m⟩, sz + z2 + m, 0) from by
                  intro h
                  rcases hway with ⟨h', e⟩ | ⟨_, h', e⟩ | ⟨_, _, e⟩
                  · omega
                  · omega
                  · rw [← hysq]; exact e)
                have HQP := Lib.hid (show p + (sz + z2 + m) = Q + m by omega)
                have q1 : (P : Int) + (z2 : Int) = (Q : Int) := by omega
                have r2 : IntKind.i64.wrap (Q : Int) = (Q : Int) := IntWalk.i64_in _ (by omega)
                have hcv2 : IntKind.i64.wrap (m : Int) = (m : Int) := by rw [IntKind.wrap_i64]; omega
                have HPB := Lib.hid (show Held (wx.alloc (.cells #[.string (strOfNums nm), .slice none 0 0] 45)) wx.heap.size 45 #[.string (strOfNums nm), .slice none 0 0] from heap_alloc_new wx _)
                have HBX := Lib.hid (show Below wx.heap.size wx (wx.alloc (.cells #[.string (strOfNums nm), .slice none 0 0] 45)) from (Below.refl _ _).alloc (Nat.le_refl _) _)
                have hwx : n + 1 ≤ wx.heap.size := by have := HBW.out.size; have := HSA.out; omega
                clear hgn hP hQ hway hyl3 d4 hysq hzl3
                go_wp2_with fail
                refine (HGT.out _).mono ?_
                rintro e w2 ⟨rfl, rfl⟩
                go_wp2_with fail
                refine (HGN.out _).mono ?_
                rintro e w2 ⟨rfl, rfl⟩
                go_wp2_with fail
                go_loopg [6, 17] m (fun gk2 pl j wr2 => ∃ (t T : Nat) (A2 : Option Addr) (c2 : Nat), t ≤ m ∧ T ≤ xs.length ∧ j = .int .i64 t ∧ pl = .int .i64 T ∧ Hid (Q + t = T) ∧ Hid (m - t = gk2) ∧ Hid (wr2.ownsRow (wx.heap.size + 1) 3 1 (.slice A2 t c2) t (((xs.drop Q).take t).map (.int .i64))) ∧ Hid (Held wr2 wx.heap.size 45 #[.string (strOfNums nm), .slice A2 t c2]) ∧ Hid (Below wx.heap.size wx wr2))
                case atStart => exact ⟨0, Q, none, 0, Nat.zero_le _, hQl, rfl, rfl, Lib.hid rfl, Lib.hid rfl, Lib.hid (World.ownsRow_nil _ _ _ _), HPB, HBX⟩
                case round =>
                  obtain ⟨t, T, A2, c2, htm, hT, rfl, rfl, HQT, HGK2, HO2, HH2, HB2⟩ := hrel
                  have hTi : (T : Int) ≤ (xs.length : Int) := by omega
                  by_cases htl : t < m
                  · by_cases hend : T = xs.length
                    · have HR := Lib.hid (HRD.out.bad HGI.out h64 hlt (by rw [HYS.out, HSH.out (by have := HQT.out; omega)]) (show (2 : Int) ≠ 0 by decide))
                      have heq : ((T : Int) == (xs.length : Int)) = true := by rw [hend]; exact beq_self_eq_true _
                      have HB3 := Lib.hid (HBW.out.trans (HB2.out.mono hwx))
                      clear hend
                      go_wp2_with fail
                      go_ret2
                      exact ⟨sig_none HR.out (HNOW.out _ HB3.out) rfl, HB0.out.trans (HB3.out.mono (by omega))⟩
                    · have heq : ((T : Int) == (xs.length : Int)) = false := beq_eq_false_iff_ne.2 (by omega)
                      have hat := str_at xs HB.out T (by omega) (by omega)
                      have hTl : (T : Int) < (xs.length : Int) := by omega
                      obtain ⟨z, hz⟩ : ∃ z, xs.getD T 0 = z := ⟨_, rfl⟩
                      have HNX := Lib.hid (show ((xs.drop Q).take t).map (Value.int .i64) ++ [.int .i64 z] = ((xs.drop Q).take (t + 1)).map (.int .i64) by
                        rw [List.take_add_one, List.getElem?_drop, HQT.out, List.getElem?_eq_getElem (show T < xs.length by omega), ← hz, List.getD, List.getElem?_eq_getElem (show T < xs.length by omega)]
                        simp)
                      have hzb : 0 ≤ xs.getD T 0 ∧ xs.getD T 0 < 256 := HB.out _ (by rw [List.getD, List.getElem?_eq_getElem (show T < xs.length by omega)]; exact List.getElem_mem _)
                      rw [hz] at hat hzb
                      have hzw : IntKind.i64.wrap z = z := by rw [IntKind.wrap_i64]; omega
                      clear hz hzb
                      have x0 := HH2.out.cell 0
                      have x1 := HH2.out.cell 1
                      have xl := HH2.out.lt
                      simp at x0 x1
                      go_wp2_with fail
                      go_region_law (first | (refine step_append_lies _ rfl (.tmp 86) (.tmp 91) 43 rfl (wx.heap.size + 1) 3 i0 (.int .i64 0) 1 8 Try.underlying43 hi0 hz0 hz1 hz2 rfl (by decide) _ _ _ rfl (HO2.out.alloc _) ⟨wr.heap.size, 0, none⟩ 1 1 [.int .i64 z] rfl rfl (cell_one_new _ _ _) (by simp [Value.oneCell']) (by decide) (by simp only [maxLen]; omega) (by omega) (by simp; omega) _ rfl ?_; intro g cap w5 hown5 hg5 hlie hlt5; have hh5 := (HH2.out.below (B := wr.heap.size) (((Below.refl _ _).alloc (Nat.le_refl _) _).drew) xl).grown hg5 (Ne.symm (own_low HO2.out (Nat.lt_succ_self _))); have y0 := hh5.cell 0; have y1 := hh5.cell 1; have yf := hh5.frozen 1; have yl := hh5.lt; simp at y0 y1))
                      all_goals
                        have HOX := Lib.hid (own_put1 (i := 1) (u := .slice (some ⟨g, 0, none⟩) (t + 1) cap) hown5 (Nat.lt_succ_self _))
                        have HHX := Lib.hid (show Held (w5.setCell ⟨wx.heap.size, 1, none⟩ (.slice (some ⟨g, 0, none⟩) (t + 1) cap)) wx.heap.size 45 #[.string (strOfNums nm), .slice (some ⟨g, 0, none⟩) (t + 1) cap] by simpa using hh5.put 1 (.slice (some ⟨g, 0, none⟩) (t + 1) cap))
                        have HBX5 := Lib.hid (((HB2.out.trans ((((Below.refl wr.heap.size wr).alloc (Nat.le_refl _) _).drew).mono (Nat.le_of_lt xl))).grown hg5 (by simp; omega) (fun i e => by have := (World.ownsRow.lt HO2.out i e).1; omega)).setCell (p := ⟨wx.heap.size, 1, none⟩) (Nat.le_refl _) (.slice (some ⟨g, 0, none⟩) (t + 1) cap))
                        clear hown5 hg5 hh5 hlie
                        go_wp2_with fail
                        go_roundg (m - (t + 1))
                        case measure => have := HGK2.out; omega
                        case rel => exact ⟨t + 1, T + 1, some ⟨g, 0, none⟩, cap, by omega, by omega, by go_num, by go_num, Lib.hid (by have := HQT.out; omega), Lib.hid rfl, Lib.hid (by rw [← HNX.out]; exact HOX.out), HHX, HBX5⟩
                  · obtain rfl : t = m := by omega
                    obtain ⟨ar, har⟩ : ∃ ar, (xs.drop Q).take t = ar := ⟨_, rfl⟩
                    have harl : ar.length = t := by rw [← har, List.length_take, List.length_drop]; have := HQT.out; omega
                    have hab : ∀ x ∈ ar, 0 ≤ x ∧ x < 256 := fun x hx => HB.out x (List.mem_of_mem_drop (List.mem_of_mem_take (by rw [har]; exact hx)))
                    have hpp := HOK.out (by have := HQT.out; omega)
                    rw [har] at HO2 hpp
                    have hrn := HRD.out.next hlt (by rw [HYS.out]; exact hpp) (by rw [HQP.out]; have := HQT.out; omega)
                    rw [HQP.out] at hrn
                    clear har hpp HOK HSH
                    subst harl
                    have HFT := Lib.hid (show (⟨⟨nm, ar⟩, A2, c2⟩ : Pd).Fits from ⟨by unfold maxLen; simp only; omega, HC4.out, fun x hx => by have := hab x hx; omega⟩)
                    have hes : es.length = k := by have := HRD.out.2.2.2.1; rw [List.length_map] at this; exact this
                    have HES := Lib.hid hes
                    have HRN := Lib.hid hrn
                    have HO3 := Lib.hid (HOW.out.below HB2.out)
                    have HA3 := Lib.hid (show OwnA wr (n + 1) ⟨⟨nm, ar⟩, A2, c2⟩ from own_base HO2.out (by omega))
                    have x0 := HH2.out.cell 0
                    have x1 := HH2.out.cell 1
                    have xl := HH2.out.lt
                    simp at x0 x1
                    clear hab hrn hes
                    go_wp2_with (at_builtin; refine wpList_append_pred (by rfl) (.tmp 96) (.tmp 98) 22 (by rfl) i1 _ Try.underlying22 hi1 hy0 hy1 hy2 rfl (n + 1) (.slice A es.length c) es (by rfl) (HO3.out.below ((Below.refl _ _).alloc (Nat.le_refl _) _)) ⟨wr.heap.size, 0, none⟩ 1 ⟨⟨nm, ar⟩, A2, c2⟩ (by rfl) (by go_simp) (by go_simp) (HA3.out.below ((Below.refl _ _).alloc (Nat.le_refl _) _)) HFT.out (by have := HES.out; omega) (by simp; omega) ?_; intro v5 w5 hO5 hg5)
                    have hlow : ∀ i, (Value.slice A es.length c).ownBlock = some i → n + 1 ≤ i := fun i e => (World.ownsRow.lt HO3.out.1 i e).1
                    have HB5 := Lib.hid (((HBW.out.trans (HB2.out.mono hwx)).alloc (show n + 1 ≤ wr.heap.size by omega) (.cells #[.string (strOfNums nm), .slice A2 ar.length c2] 45)).grown hg5 (by simp; omega) hlow)
                    have HEV := Lib.hid (show (es ++ [(⟨⟨nm, ar⟩, A2, c2⟩ : Pd)]).map (·.p) = es.map (·.p) ++ [⟨nm, ar⟩] by simp)
                    obtain ⟨A5, c5, ev, _, _⟩ := hO5.form
                    have HO5 := Lib.hid hO5
                    subst ev
                    clear hO5 hg5 hlow
                    generalize es ++ [(⟨⟨nm, ar⟩, A2, c2⟩ : Pd)] = es5 at HO5 HEV ⊢
                    go_wp2_with fail
                    go_roundg (N - (k + 1))
                    case measure => have := HGK.out; omega
                    case rel => exact ⟨k + 1, T, A5, c5, es5, by omega, hT, by go_num, rfl, rfl, Lib.hid rfl, Lib.hid (by rw [HEV.out, ← HQT.out]; exact HRN.out), HO5, HB5⟩
        · obtain rfl : k = N := by omega
          by_cases hpl : p < xs.length
          · have hpli : (p : Int) < (xs.length : Int) := by omega
            have HR := Lib.hid (HRD.out.form HGI.out h64 hpl)
            go_wp2_with fail
            go_ret2
            exact ⟨sig_none HR.out (HNOW.out _ HBW.out) rfl, HB0.out.trans (HBW.out.mono (by omega))⟩
          · have hpli : ¬ (p : Int) < (xs.length : Int) := by omega
            have HCK := Lib.hid (rcheck_any A c es wx (HOW.out.fresh).1)
            have hck1 := fun h => HRD.out.check HGI.out h64 hpl h
            have hck2 := fun h => HRD.out.ok HGI.out h64 hpl h
            generalize checkP (es.map (·.p)) = ck at HCK hck1 hck2
            by_cases hz : ck = 0
            · have HR := Lib.hid (hck2 hz)
              subst hz
              clear hck1 hck2
              go_wp2_with fail
              refine HCK.out.mono ?_
              rintro e w2 ⟨rfl, rfl⟩
              go_wp2_with fail
              go_ret2
              exact ⟨⟨A, c, es, by rw [HR.out]; rfl, HOW.out.base (by omega), by rw [HR.out]⟩, HB0.out.trans (HBW.out.mono (by omega))⟩
            · have HR := Lib.hid (hck1 hz)
              have hne : (ck != 0) = true := bne_iff_ne.2 hz
              clear hck1 hck2 hz
              go_wp2_with fail
              refine HCK.out.mono ?_
              rintro e w2 ⟨rfl, rfl⟩
              go_wp2_with fail
              go_ret2
              exact ⟨sig_none HR.out (HNOW.out _ HBW.out) rfl, HB0.out.trans (HBW.out.mono (by omega))⟩
  · have hne : ((getI xs).2.2 != 0) = true := bne_iff_ne.2 h1
    have HR := Lib.hid (getSig_num h1)
    generalize getI xs = t at hg hne HR
    obtain ⟨a, b, e0⟩ := t
    simp only at hg hne HR
    have HG := Lib.hid hg
    clear hg h1
    go_enter Try.func15, Try.ntmps15
    go_wp2_with fail
    refine (HG.out _).mono ?_
    rintro e w1 ⟨rfl, rfl⟩
    go_wp2_with fail
    rw [HN.out]
    go_ret2
    exact ⟨sig_none HR.out HNO.out rfl, HB0.out⟩
#print axioms rsget_any
end Go.Proofs.Ytnjhkjlekepjoaa
