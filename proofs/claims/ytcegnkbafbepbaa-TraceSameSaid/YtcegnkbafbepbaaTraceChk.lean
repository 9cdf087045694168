/-
  What trace.Check answers.
-/
import Derived.Test.YtcegnkbafbepbaaTraceCheck
import Derived.Test.YtcegnkbafbepbaaSigCode
import Derived.BigQuiet
namespace Go.Proofs.Ytcegnkbafbepbaa
open Go.RowKit Go.Shelf

set_option maxRecDepth 100000 in
set_option maxHeartbeats 2000000 in
theorem tcheck_any (A : Option Addr) (c : Nat) (ds : List Pd) (T : Option Addr) (ct : Nat) (ps : List Pm) (w : World) (hrow : PredRow w w.heap.size (.slice A ds.length c) ds) (ht : TrRow w w.heap.size (.slice T ps.length ct) ps) :
    Calls Try.prog 9 #[.slice A ds.length c, .slice T ps.length ct] w fun e w' => e = .returned (.tuple #[.int .i64 (checkT (ds.map (·.p)) (ps.map (·.p))).1, .int .i64 (checkT (ds.map (·.p)) (ps.map (·.p))).2]) ∧ Below w.heap.size w w' := by
  obtain ⟨-, hc1, hc2⟩ := ht.1.len
  have HCK := Lib.hid (scheck_any A c ds w hrow)
  have hsig := @checkT_sig (ds.map (·.p)) (ps.map (·.p))
  have hfound := @checkT_found (ds.map (·.p)) (ps.map (·.p))
  have hnone := @checkT_none (ds.map (·.p)) (ps.map (·.p))
  have HEV := Lib.hid (fun (p : Pm) (W : World) h1 h2 => checkEvents_any A c ds p W h1 h2)
  generalize checkT (ds.map (·.p)) (ps.map (·.p)) = R at hsig hfound hnone ⊢
  generalize ds.map (·.p) = sig at hsig hfound hnone HCK HEV
  obtain ⟨s, hs⟩ : ∃ s, checkP sig = s := ⟨_, rfl⟩
  rw [hs] at hsig hfound hnone HCK
  have HROW := Lib.hid hrow
  have HTR := Lib.hid ht
  clear hrow ht
  by_cases h0 : s = 0
  case neg =>
    have HR := Lib.hid (hsig h0)
    have h1 : (s == 0) = false := beq_eq_false_iff_ne.2 h0
    have h2 : (s != 0) = true := bne_iff_ne.2 h0
    clear h0 hsig hfound hnone
    go_enter Try.func9, Try.ntmps9
    go_wp2_with fail
    refine HCK.out.mono ?_
    rintro e w1 ⟨rfl, hb1⟩
    go_wp2_with fail
    exact bodyPost_ret (v := .tuple #[.int .i64 s, .int .i64 0]) (by simp [results, Try.results9, go_sem]) rfl ⟨by rw [HR.out], hb1⟩
  subst h0
  have HF := Lib.hid (fun r (hr : r < (ps.map (·.p)).length) => hfound rfl hr)
  have HNO := Lib.hid (hnone rfl)
  clear hsig hfound hnone hs
  go_enter Try.func9, Try.ntmps9
  go_wp2_with fail
  refine HCK.out.mono ?_
  rintro e w1 ⟨rfl, hb1⟩
  have HB1 := Lib.hid hb1
  clear hb1
  go_wp2_with fail
  go_loopg [17] ps.length (fun gk i wr => ∃ k : Nat, k ≤ ps.length ∧ i = .int .i64 k ∧ Hid (ps.length - k = gk) ∧ Hid (∀ j, j < k → whyT sig (ps.map (·.p)) j = 0) ∧ Hid (Below w.heap.size w wr))
  case atStart => exact ⟨0, Nat.zero_le _, rfl, Lib.hid rfl, Lib.hid (fun j h => absurd h (Nat.not_lt_zero _)), HB1⟩
  case round =>
    obtain ⟨k, hk, rfl, HGK, HJ, HB⟩ := hrel
    by_cases hlt : k < ps.length
    · obtain ⟨d, hd⟩ : ∃ d, ps[k]? = some d := ⟨_, List.getElem?_eq_getElem hlt⟩
      have hz := HB.out.size
      obtain ⟨b, o, rfl, hb, x0, x1, hok, hl1, hl2⟩ := (HTR.out.below HB.out).at hd
      have hfd := hok.2
      unfold Pm.Fits at hfd
      obtain ⟨w4, hw4⟩ : ∃ w4, wr.alloc (.cells #[.int .u64 d.tm, .slice d.A d.evs.length d.c] 39) = w4 := ⟨_, rfl⟩
      have s4 : w4.heap.size = wr.heap.size + 1 := by rw [← hw4, World.size_alloc]
      have hb4 : Below wr.heap.size wr w4 := by rw [← hw4]; exact (Below.refl _ _).alloc (Nat.le_refl _) _
      have hh4 : Held w4 wr.heap.size 39 #[.int .u64 d.tm, .slice d.A d.evs.length d.c] := by rw [← hw4]; exact heap_alloc_new wr _
      have HB4 := Lib.hid (HB.out.trans (hb4.mono hz))
      have y0 := hh4.cell 0
      have y1 := hh4.cell 1
      simp at y0 y1
      have HOK := Lib.hid hok
      have HD := Lib.hid hd
      obtain ⟨r, hr⟩ : ∃ r, whyE sig d.p.evs = r := ⟨_, rfl⟩
      have HE := Lib.hid (fun (W : World) (hb : Below w4.heap.size w4 W) => HEV.out d W ((HROW.out.below (HB4.out.trans (hb.mono (by omega)))).more (by have := hb.size; omega)) ((hok.below ((hb4.mono hz).trans (hb.mono (by omega)))).more (by have := hb.size; omega)))
      rw [hr] at HE
      have HRR := Lib.hid hr
      clear hok hd hr hh4
      by_cases hk0 : 0 < k
      · obtain ⟨e, he⟩ : ∃ e, ps[k - 1]? = some e := ⟨_, List.getElem?_eq_getElem (by omega)⟩
        obtain ⟨b', o', ee, hb', z0, _, hoe, _⟩ := (HTR.out.below HB.out).at he
        have hfe := hoe.2
        unfold Pm.Fits at hfe
        injection ee with ee
        injection ee with e1 e2 _
        subst e1 e2
        have z4 := (hb4.cell (p := ⟨b, o + (k - 1) * 2, none⟩) (by simp only; omega)).trans z0
        obtain ⟨j, hj⟩ : ∃ j, k - 1 = j := ⟨_, rfl⟩
        have hkj : k = j + 1 := by omega
        rw [hj] at z4
        rw [hj] at he
        have HE1 := Lib.hid he
        clear he hoe z0 hj
        have hki : (k : Int) - 1 = (j : Int) := by omega
        have hek : (ps.map (·.p)).getD k default = d.p := getD_of (at_pn HD.out)
        have hej : (ps.map (·.p)).getD (k - 1) default = e.p := by rw [show k - 1 = j by omega]; exact getD_of (at_pn HE1.out)
        by_cases htm : d.tm < e.tm
        · have hw : whyT sig (ps.map (·.p)) k = 8 := whyT_order ⟨hk0, by rw [hek, hej]; exact htm⟩
          have HR := Lib.hid ((HF.out k (by rw [List.length_map]; exact hlt) HJ.out (by rw [hw]; decide)).trans (by rw [hw]))
          clear hw hkj hek hej
          go_wp2_with fail
          go_quiet (fail)
          go_wp2_with fail
          exact bodyPost_ret (v := .tuple #[.int .i64 8, .int .i64 k]) (by simp [results, Try.results9, go_sem]) rfl ⟨by rw [HR.out], HB4.out.trans (drewN_low _ _ _)⟩
        · have hw : whyT sig (ps.map (·.p)) k = r := by
            rw [whyT_else (by rw [hek, hej]; exact fun h => htm h.2), hek]
            exact HRR.out
          have hge : e.tm ≤ d.tm := by omega
          have HW := Lib.hid hw
          clear hw hkj htm hek hej
          go_wp2_with fail
          go_quiet (fail)
          go_wp2_with fail
          refine (HE.out _ (drewN_low _ _ _)).mono ?_
          rintro e5 w5 ⟨rfl, hb5⟩
          have HB5 := Lib.hid (HB4.out.trans ((drewN_low w4 _ _).trans (hb5.mono (show w.heap.size ≤ w4.heap.size by omega))))
          clear hb5
          by_cases h0 : r = 0
          · subst h0
            have HJ2 := Lib.hid (step_lt (P := fun j => whyT sig (ps.map (·.p)) j = 0) HJ.out HW.out)
            go_wp2_with fail
            go_roundg (ps.length - (k + 1))
            case measure => have := HGK.out; omega
            case rel => exact ⟨k + 1, by omega, by go_num, Lib.hid rfl, HJ2, HB5⟩
          · have HR := Lib.hid ((HF.out k (by rw [List.length_map]; exact hlt) HJ.out (by rw [HW.out]; exact h0)).trans (by rw [HW.out]))
            have h1 : (r == 0) = false := beq_eq_false_iff_ne.2 h0
            have h2 : (r != 0) = true := bne_iff_ne.2 h0
            clear h0
            go_wp2_with fail
            exact bodyPost_ret (v := .tuple #[.int .i64 r, .int .i64 k]) (by simp [results, Try.results9, go_sem]) rfl ⟨by rw [HR.out], HB5.out⟩
      · have hw : whyT sig (ps.map (·.p)) k = r := by
          rw [whyT_else (fun h => hk0 h.1), getD_of (at_pn HD.out)]
          exact HRR.out
        have HW := Lib.hid hw
        have hkd : decide (0 < (k : Int)) = false := decide_eq_false (by omega)
        clear hw
        go_wp2_with fail
        go_quiet (fail)
        go_wp2_with fail
        refine (HE.out _ (drewN_low _ _ _)).mono ?_
        rintro e5 w5 ⟨rfl, hb5⟩
        have HB5 := Lib.hid (HB4.out.trans ((drewN_low w4 _ _).trans (hb5.mono (show w.heap.size ≤ w4.heap.size by omega))))
        clear hb5
        by_cases h0 : r = 0
        · subst h0
          have HJ2 := Lib.hid (step_lt (P := fun j => whyT sig (ps.map (·.p)) j = 0) HJ.out HW.out)
          go_wp2_with fail
          go_roundg (ps.length - (k + 1))
          case measure => have := HGK.out; omega
          case rel => exact ⟨k + 1, by omega, by go_num, Lib.hid rfl, HJ2, HB5⟩
        · have HR := Lib.hid ((HF.out k (by rw [List.length_map]; exact hlt) HJ.out (by rw [HW.out]; exact h0)).trans (by rw [HW.out]))
          have h1 : (r == 0) = false := beq_eq_false_iff_ne.2 h0
          have h2 : (r != 0) = true := bne_iff_ne.2 h0
          clear h0
          go_wp2_with fail
          exact bodyPost_ret (v := .tuple #[.int .i64 r, .int .i64 k]) (by simp [results, Try.results9, go_sem]) rfl ⟨by rw [HR.out], HB5.out⟩
    · obtain rfl : k = ps.length := by omega
      have HR := Lib.hid (HNO.out (fun j hj => HJ.out j (by rwa [List.length_map] at hj)))
      go_wp2_with fail
      exact bodyPost_ret (v := .tuple #[.int .i64 0, .int .i64 0]) (by simp [results, Try.results9, go_sem]) rfl ⟨by rw [HR.out], HB.out⟩
#print axioms tcheck_any
end Go.Proofs.Ytcegnkbafbepbaa
