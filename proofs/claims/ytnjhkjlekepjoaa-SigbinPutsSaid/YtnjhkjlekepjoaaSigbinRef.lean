/-
  The document's own Put and Frame for signatures as payloads.
-/
import Derived.Test.YtnjhkjlekepjoaaSigRefs
import Derived.Test.YtnjhkjlekepjoaaBlobPut
import Derived.Test.YtnjhkjlekepjoaaPlainSigs
import Derived.Deep.LoopGhost
import Derived.Deep.RegionHeld3
namespace Go.Proofs.Ytnjhkjlekepjoaa
open Go.RowKit

set_option maxRecDepth 100000 in
set_option maxHeartbeats 2000000 in
theorem rsbput_any (A : Option Addr) (c : Nat) (ds : List Pd) (w : World) (hrow : PredRow w w.heap.size (.slice A ds.length c) ds) :
    Calls Try.prog 9 #[.slice A ds.length c] w fun e w' => e = .returned (.tuple #[.string (strOfNums (putS (ds.map (·.p))).1), .int .i64 (putS (ds.map (·.p))).2]) ∧ Below w.heap.size w w' := by
  obtain ⟨hc1, hc2⟩ : ds.length ≤ c ∧ c ≤ 9223372036854775807 := by
    obtain ⟨A', c', hv, q1, q2⟩ := hrow.form
    injection hv with _ _ e3
    exact ⟨by omega, by omega⟩
  have hck := rcheck_any A c ds w hrow
  by_cases h0 : checkP (ds.map (·.p)) = 0
  · obtain ⟨hs1, hs2⟩ := check_small h0
    rw [List.length_map] at hs1
    have hput : putS (ds.map (·.p)) = (encS (ds.map (·.p)), 0) := if_pos h0
    rw [hput]
    clear hput
    rw [h0] at hck
    obtain ⟨F, hF⟩ : ∃ F : Nat → List Int, F = fun k => encI ds.length ++ catP ((ds.map (·.p)).take k) := ⟨_, rfl⟩
    have hF0 : F 0 = encI ds.length := by rw [hF]; simp [catP]
    have hFn : F ds.length = encS (ds.map (·.p)) := by rw [hF]; simp only [encS, List.length_map]; rw [List.take_of_length_le (by rw [List.length_map]; exact Nat.le_refl _)]
    have hFs : ∀ k d, ds[k]? = some d → F (k + 1) = F k ++ encT d.p.name ++ encI d.p.args.length ++ d.p.args := by
      intro k d hd
      rw [hF]
      simp only
      rw [catP_take_succ _ (at_pr hd), encP]
      simp
    have hFl : ∀ k, (F k).length ≤ 3000 := by
      intro k
      rw [hF]
      simp only [List.length_append]
      have h1 := catP_le ((ds.map (·.p)).take k) (fun p hp => hs2 p (List.mem_of_mem_take hp))
      rw [List.length_take, List.length_map] at h1
      rw [encI_one (by omega)]
      omega
    rw [← hFn]
    have HPN := Lib.hid (fun W => rput ds.length (by omega) W)
    rw [← hF0] at HPN
    clear hF hF0 hFn h0
    have HS := Lib.hid (fun (k : Nat) (d : Pd) (hd : ds[k]? = some d) => hs2 d.p (List.mem_map.2 ⟨d, List.mem_of_getElem? hd, rfl⟩))
    have HFS := Lib.hid hFs
    have HFL := Lib.hid hFl
    have HCK := Lib.hid hck
    have HROW := Lib.hid hrow
    have HADD := Lib.hid (fun (W : World) (k l : List Int) (h : k.length + l.length ≤ 9223372036854775807) => add_strs (P := Try.prog) W k l h)
    clear hck hrow hs2 hFs hFl
    go_enter Try.func9, Try.ntmps9
    go_wp2_with fail
    refine HCK.out.mono ?_
    rintro e w1 ⟨rfl, rfl⟩
    go_wp2_with fail
    refine (HPN.out w).mono ?_
    rintro e w2 ⟨rfl, hb2⟩
    have HB2 := Lib.hid hb2
    clear hb2
    go_wp2_with fail
    go_loopg [5, 6] ds.length (fun gk s i wr => ∃ k : Nat, k ≤ ds.length ∧ i = .int .i64 k ∧ s = .string (strOfNums (F k)) ∧ Hid (ds.length - k = gk) ∧ Hid (Below w.heap.size w wr))
    case atStart => exact ⟨0, Nat.zero_le _, rfl, rfl, Lib.hid rfl, HB2⟩
    case round =>
      obtain ⟨k, hk, rfl, rfl, HGK, HBW⟩ := hrel
      by_cases hlt : k < ds.length
      · obtain ⟨d, hd⟩ : ∃ d, ds[k]? = some d := ⟨_, List.getElem?_eq_getElem hlt⟩
        obtain ⟨b, o, rfl, hb, x0, x1, hir, hfit, ha1, ha2⟩ := HROW.out.at hd
        obtain ⟨hn1, hn2, hnb, hab⟩ := HS.out k d hd
        have hnx := HFS.out k d hd
        obtain ⟨⟨nm, ar⟩, dA, dc⟩ := d
        simp only at x0 x1 hir ha1 ha2 hn1 hn2 hab hnx
        have he1 : (encT nm).length ≤ 33 := by rw [encT_length, encI_one (by omega)]; omega
        have he2 : (encI ar.length).length = 1 := encI_one (by omega)
        have hfl := HFL.out k
        have HNX := Lib.hid hnx
        have HRB := Lib.hid (fun W => rbput nm (by omega) W)
        have HRP := Lib.hid (fun W => rput ar.length (by omega) W)
        have HIR := Lib.hid hir
        have HAB := Lib.hid hab
        have HALL := Lib.hid (fun (W : World) (h : Below w.heap.size w W) => (show W.cell? ⟨b, o + k * 2, none⟩ = some (.string (strOfNums nm)) ∧ W.cell? ⟨b, o + k * 2 + 1, none⟩ = some (.slice dA ar.length dc) from ⟨(h.cell (p := ⟨b, o + k * 2, none⟩) hb).trans x0, (h.cell (p := ⟨b, o + k * 2 + 1, none⟩) hb).trans x1⟩))
        generalize F k = X at *
        generalize encT nm = E at HRB HNX he1
        generalize encI ar.length = N at HRP HNX he2
        have hX : ∀ W, (Op.stringOp .add (strOfNums X) (strOfNums E)).run Try.prog W = .ok (.string (strOfNums (X ++ E))) W := fun W => HADD.out W _ _ (by omega)
        have hY : ∀ W, (Op.stringOp .add (strOfNums (X ++ E)) (strOfNums N)).run Try.prog W = .ok (.string (strOfNums (X ++ E ++ N))) W := fun W => HADD.out W _ _ (by rw [List.length_append]; omega)
        have hgl : (X ++ E ++ N).length ≤ 4000 := by simp only [List.length_append]; omega
        have hu64 : IntKind.u64.wrap (ar.length : Int) = (ar.length : Int) := by rw [IntKind.wrap_u64]; omega
        clear hir hfit hd hnb hab hnx x0 x1
        have y := HALL.out _ HBW.out
        obtain ⟨y0, y1⟩ := y
        go_wp2_with fail
        go_region_held3 (fun W => Below w.heap.size w W ∧ W.cell? ⟨b, o + k * 2, none⟩ = some (.string (strOfNums nm)) ∧ W.cell? ⟨b, o + k * 2 + 1, none⟩ = some (.slice dA ar.length dc))
          (first | exact ⟨HBW.out, HALL.out _ HBW.out⟩ | exact ⟨HBW.out.drew, HALL.out _ HBW.out.drew⟩ | exact ⟨b4, HALL.out _ b4⟩ | exact ⟨b5, HALL.out _ b5⟩)
          (first
            | (go_at_call 21; (with_reducible refine (HRB.out _).mono ?_); rintro e wA ⟨rfl, hbA⟩; first | (have b5 : Below w.heap.size w wA := b4.trans (hbA.mono b4.size)) | (have b4 : Below w.heap.size w wA := HBW.out.drew.trans (hbA.mono HBW.out.size)))
            | (go_at_call 20; (with_reducible refine (HRP.out _).mono ?_); rintro e wA ⟨rfl, hbA⟩; first | (have b5 : Below w.heap.size w wA := b4.trans (hbA.mono b4.size)) | (have b4 : Below w.heap.size w wA := HBW.out.drew.trans (hbA.mono HBW.out.size))))
        all_goals
          have HB5 := Lib.hid b5
          clear b4 b5 hX hY y0 y1
          generalize hG : X ++ E ++ N = G at *
          have HG := Lib.hid (show X ++ (E ++ N) = G by rw [← hG, List.append_assoc])
          clear hG
        go_wp2_with fail
        clear HRB HRP
        obtain ⟨wx, hwx⟩ : ∃ wx, wx = wr := ⟨_, rfl⟩
        subst hwx
        go_loopg [5, 7] ar.length (fun gk2 s i wr2 => ∃ m : Nat, m ≤ ar.length ∧ i = .int .i64 m ∧ s = .string (strOfNums (G ++ ar.take m)) ∧ Hid (ar.length - m = gk2) ∧ Hid (Below w.heap.size w wr2))
        case atStart => exact ⟨0, Nat.zero_le _, rfl, by rw [List.take_zero, List.append_nil, HG.out], Lib.hid rfl, HB5⟩
        case round =>
          obtain ⟨m, hm, rfl, rfl, HGK2, HB6⟩ := hrel
          have y := HALL.out _ HB6.out
          obtain ⟨y0, y1⟩ := y
          by_cases hlt2 : m < ar.length
          · obtain ⟨b2, o2, rfl, hb2, ht⟩ := (HIR.out.below HB6.out).at hlt2
            have hbt : 0 ≤ ar.getD m 0 ∧ ar.getD m 0 < 256 := HAB.out _ (by rw [List.getD, List.getElem?_eq_getElem hlt2]; exact List.getElem_mem hlt2)
            have hnx : ar.take (m + 1) = ar.take m ++ [ar.getD m 0] := by rw [List.take_add_one, List.getD, List.getElem?_eq_getElem hlt2]; rfl
            generalize ar.getD m 0 = t at ht hbt hnx
            obtain ⟨t0, t1⟩ := hbt
            have HNX2 := Lib.hid (show G ++ ar.take m ++ [t] = G ++ ar.take (m + 1) by rw [hnx, List.append_assoc])
            have hsl : (G ++ ar.take m).length ≤ 5000 := by simp only [List.length_append, List.length_take]; omega
            clear hnx
            generalize G ++ ar.take m = Y at hsl HNX2 ⊢
            have hcv := fun W b => conv_one W b t
            have hadd : ∀ W, (Op.stringOp .add (strOfNums Y) (strOfNums [t])).run Try.prog W = .ok (.string (strOfNums (Y ++ [t]))) W := fun W => HADD.out W _ _ (by simp; omega)
            go_wp2_with fail
            go_roundg (ar.length - (m + 1))
            case measure => have := HGK2.out; omega
            case rel => exact ⟨m + 1, by omega, by go_num, by rw [HNX2.out], Lib.hid rfl, Lib.hid (HB6.out.alloc HB6.out.size _)⟩
          · obtain rfl : m = ar.length := by omega
            rw [List.take_length]
            go_wp2_with fail
            go_roundg (ds.length - (k + 1))
            case measure => have := HGK.out; omega
            case rel => exact ⟨k + 1, by omega, by go_num, by rw [HNX.out], Lib.hid rfl, HB6⟩
      · obtain rfl : k = ds.length := by omega
        have HB := Lib.hid HBW.out
        go_wp2_with fail
        go_ret2
        exact ⟨rfl, HB.out⟩
  · have hne : (checkP (ds.map (·.p)) != 0) = true := bne_iff_ne.2 h0
    have hput : putS (ds.map (·.p)) = ([], checkP (ds.map (·.p))) := if_neg h0
    rw [hput]
    clear hput
    generalize checkP (ds.map (·.p)) = C at hck hne ⊢
    have HCK := Lib.hid hck
    clear hck h0
    go_enter Try.func9, Try.ntmps9
    go_wp2_with fail
    refine HCK.out.mono ?_
    rintro e w1 ⟨rfl, rfl⟩
    go_wp2_with fail
    go_ret2
    exact ⟨rfl, Below.refl _ _⟩
#print axioms rsbput_any
end Go.Proofs.Ytnjhkjlekepjoaa
