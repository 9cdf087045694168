/-
  What sigbin.Put answers: a predicate's bytes behind others, a signature's payload.
-/
import Derived.Test.YtnjhkjlekepjoaaBlobPut
import Derived.Test.YtnjhkjlekepjoaaSigCode
import Derived.Test.YtnjhkjlekepjoaaCurNew
import Derived.Test.YtnjhkjlekepjoaaPredRows
import Derived.Test.YtnjhkjlekepjoaaPlainSigs
import Derived.Deep.LoopGhost
namespace Go.Proofs.Ytnjhkjlekepjoaa
open Go.RowKit

set_option maxRecDepth 100000 in
set_option maxHeartbeats 2000000 in
theorem bpp_any (A : Option Addr) (c : Nat) (xs : List Int) (p : Pr) (hp : Small p) (A2 : Option Addr) (c2 : Nat) (hsm : xs.length ≤ 1000000) (w : World) (hrow : Row w w.heap.size (.slice A xs.length c) xs) (hir : IRow w w.heap.size (.slice A2 p.args.length c2) p.args) :
    Calls Try.prog 18 #[.slice A xs.length c, .agg #[.string (strOfNums p.name), .slice A2 p.args.length c2]] w fun e W' => ∃ A' c', e = .returned (.slice A' (xs ++ encP p).length c') ∧ W'.ownsRow w.heap.size 5 1 (.slice A' (xs ++ encP p).length c') (xs ++ encP p).length ((xs ++ encP p).map (.int .u8)) ∧ Below w.heap.size w W' := by
  obtain ⟨i0, hi, hz0, hz1, hz2⟩ := info_parts Try.infoU8
  obtain ⟨hn1, hn2, hnb, hab⟩ := hp
  obtain ⟨hc1, hc2⟩ : p.args.length ≤ c2 ∧ c2 ≤ 9223372036854775807 := by
    obtain ⟨A', c', hv, q1, q2, _⟩ := hir
    injection hv with _ _ e3
    rw [List.length_map] at q1
    unfold maxLen at q2
    exact ⟨by omega, by omega⟩
  have he1 : (encT p.name).length ≤ 33 := by rw [encT_length, encI_one (by omega)]; omega
  have he2 : (encI p.args.length).length = 1 := encI_one (by omega)
  unfold encP
  obtain ⟨nm, ar⟩ := p
  simp only at hn1 hn2 hnb hab hc1 he1 he2 hir ⊢
  have ba : Below w.heap.size w (w.alloc (.cells #[.string (strOfNums nm), .slice A2 ar.length c2] 45)) := (Below.refl _ _).alloc (Nat.le_refl _) _
  have HBX := Lib.hid (show Held (w.alloc (.cells #[.string (strOfNums nm), .slice A2 ar.length c2] 45)) w.heap.size 45 #[.string (strOfNums nm), .slice A2 ar.length c2] from heap_alloc_new w _)
  have HIR := Lib.hid (hir.below ba)
  have HPN := Lib.hid (bput_any A c xs nm hnb (by omega) (by omega) (w.alloc (.cells #[.string (strOfNums nm), .slice A2 ar.length c2] 45)) ((hrow.below ba).more ba.size))
  have HB := Lib.hid ba
  have HAB := Lib.hid hab
  generalize hE : encT nm = E at HPN he1 ⊢
  clear hE
  obtain ⟨Z, hZ⟩ : ∃ Z, xs ++ (E ++ (encI ar.length ++ ar)) = Z := ⟨_, rfl⟩
  rw [hZ]
  have HZ := Lib.hid (show xs ++ E ++ encI ar.length ++ ar = Z by rw [← hZ]; simp)
  clear hZ
  obtain ⟨w1, hw1⟩ : ∃ w1, w.alloc (.cells #[.string (strOfNums nm), .slice A2 ar.length c2] 45) = w1 := ⟨_, rfl⟩
  have hz1w : w1.heap.size = w.heap.size + 1 := by rw [← hw1]; simp
  rw [hw1] at HBX HIR HPN HB
  have hx0 := HBX.out.cell 0
  simp at hx0
  clear hrow hir ba hnb hab
  go_enter Try.func18, Try.ntmps18
  go_wp2_with fail
  refine HPN.out.mono ?_
  rintro e w2 ⟨v2, rfl, hown2, hb2⟩
  rw [← List.length_append] at hown2
  obtain ⟨A3, c3, rfl⟩ := own_form hown2
  have hxl : (xs ++ E).length ≤ 1000100 := by rw [List.length_append]; omega
  generalize xs ++ E = X at hown2 hxl HZ
  have hn2 := hb2.size
  have hbx2 := HBX.out.below hb2 (by omega)
  have hx1 := hbx2.cell 1
  simp at hx1
  have HPU := Lib.hid (put_any A3 c3 X ar.length (by omega) (by omega) w2 (Row.of_own hown2))
  have HIR2 := Lib.hid (HIR.out.below (hb2.mono (by omega)))
  have HB2 := Lib.hid (HB.out.trans (hb2.mono (by omega)))
  have HBX2 := Lib.hid hbx2
  clear hown2 hb2 hx0 hbx2
  go_wp2_with fail
  refine HPU.out.mono ?_
  rintro e w3 ⟨v3, rfl, hown3, hb3⟩
  rw [← List.length_append] at hown3
  have hyl : (X ++ encI ar.length).length ≤ 1000101 := by rw [List.length_append]; omega
  generalize X ++ encI ar.length = Y at hown3 hyl HZ
  obtain ⟨A4, c4, rfl⟩ := own_form hown3
  have hbx3 := HBX2.out.below hb3 (by omega)
  have hx1 := hbx3.cell 1
  simp at hx1
  have HO3 := Lib.hid (own_base hown3 (show w.heap.size ≤ w2.heap.size by omega))
  have HIR3 := Lib.hid (HIR2.out.below (hb3.mono (show w.heap.size ≤ w2.heap.size by omega)))
  have HB3 := Lib.hid (HB2.out.trans (hb3.mono (show w.heap.size ≤ w2.heap.size by omega)))
  clear hown3 hb3 hbx3
  go_wp2_with fail
  go_loopg [0, 20] ar.length (fun gk v i wr => ∃ (k : Nat) (A : Option Addr) (c : Nat), k ≤ ar.length ∧ i = .int .i64 k ∧ v = .slice A (Y.length + k) c ∧ Hid (ar.length - k = gk) ∧ Hid (wr.ownsRow w.heap.size 5 1 (.slice A (Y.length + k) c) (Y.length + k) ((Y ++ ar.take k).map (.int .u8))) ∧ Hid (IRow wr w.heap.size (.slice A2 ar.length c2) ar) ∧ Hid (Below w.heap.size w wr))
  case atStart => exact ⟨0, A4, c4, Nat.zero_le _, rfl, rfl, Lib.hid rfl, by simpa using HO3, HIR3, HB3⟩
  case round =>
    obtain ⟨k, A, c, hk, rfl, rfl, HGK, HO, HI, HBW⟩ := hrel
    by_cases hlt : k < ar.length
    · obtain ⟨b, o, rfl, hb, ht⟩ := HI.out.at hlt
      have hbt : 0 ≤ ar.getD k 0 ∧ ar.getD k 0 < 256 := HAB.out _ (by rw [List.getD, List.getElem?_eq_getElem hlt]; exact List.getElem_mem hlt)
      have hnx : ar.take (k + 1) = ar.take k ++ [ar.getD k 0] := by rw [List.take_add_one, List.getD, List.getElem?_eq_getElem hlt]; rfl
      generalize ar.getD k 0 = t at ht hbt hnx
      obtain ⟨t0, t1⟩ := hbt
      have HNX := Lib.hid hnx
      have hzw := HBW.out.size
      clear hnx
      go_wp2_with (at_builtin; refine wpList_append_own _ rfl _ _ 25 rfl w.heap.size 5 i0 (.int .u8 0) 1 1 Try.underlying25 hi hz0 hz1 hz2 rfl (by decide) _ _ _ rfl (HO.out.alloc _) ⟨wr.heap.size, 0, none⟩ 1 1 [.int .u8 t] rfl rfl (cell_one_new _ _ _) (by simp [Value.oneCell']) (by simp only [maxLen]; omega) (by omega) (by simp; omega) ?_; intro v5 w5 hown5 hg5 hn5)
      have hlow : ∀ i, (Value.slice A (Y.length + k) c).ownBlock = some i → w.heap.size ≤ i := fun i e => (World.ownsRow.lt HO.out i e).1
      have hb5 : Below w.heap.size w w5 := (HBW.out.alloc hzw _).grown hg5 (by simp; omega) hlow
      have HI5 := Lib.hid ((HI.out.below ((Below.refl _ _).alloc hzw _)).below (((Below.refl _ _).grown hg5 (by simp; omega) hlow)))
      have HB5 := Lib.hid hb5
      have hmap : (Y ++ ar.take k).map (Value.int .u8) ++ [.int .u8 t] = (Y ++ ar.take (k + 1)).map (.int .u8) := by rw [HNX.out]; simp
      rw [hmap, Nat.add_assoc] at hown5
      obtain ⟨A5, c5, rfl⟩ := own_form hown5
      have HO5 := Lib.hid hown5
      clear hown5 hg5 hn5 hlow hmap hb5
      go_roundg (ar.length - (k + 1))
      case measure => have := HGK.out; omega
      case rel => exact ⟨k + 1, A5, c5, by omega, by go_num, rfl, Lib.hid rfl, HO5, HI5, HB5⟩
    · obtain rfl : k = ar.length := by omega
      have hz := HZ.out
      have ho := HO.out
      rw [List.take_length, ← List.length_append, hz] at ho
      have HO' := Lib.hid ho
      have HZl := Lib.hid (show Y.length + ar.length = Z.length by rw [← hz, List.length_append])
      clear hz ho
      go_wp2_with fail
      go_ret
      exact ⟨A, c, by rw [HZl.out]; rfl, HO'.out, HBW.out⟩
#print axioms bpp_any

/-- What Put answers, and where. -/
def PutGot (w : World) (r : List Int × Int) (e : Ending) (W' : World) : Prop :=
  ∃ A c, e = .returned (.tuple #[.slice A r.1.length c, .int .i64 r.2]) ∧ W'.ownsRow w.heap.size 5 1 (.slice A r.1.length c) r.1.length (r.1.map (.int .u8)) ∧ Below w.heap.size w W'

set_option maxRecDepth 100000 in
set_option maxHeartbeats 2000000 in
theorem sbput_any (A : Option Addr) (c : Nat) (ds : List Pd) (w : World) (hrow : PredRow w w.heap.size (.slice A ds.length c) ds) :
    Calls Try.prog 8 #[.slice A ds.length c] w (PutGot w (putS (ds.map (·.p)))) := by
  obtain ⟨hc1, hc2⟩ : ds.length ≤ c ∧ c ≤ 9223372036854775807 := by
    obtain ⟨A', c', hv, q1, q2⟩ := hrow.form
    injection hv with _ _ e3
    exact ⟨by omega, by omega⟩
  have hck := scheck_any A c ds w hrow
  by_cases h0 : checkP (ds.map (·.p)) = 0
  · obtain ⟨hs1, hs2⟩ := check_small h0
    rw [List.length_map] at hs1
    have hput : putS (ds.map (·.p)) = (encS (ds.map (·.p)), 0) := if_pos h0
    rw [hput]
    clear hput
    rw [h0] at hck
    obtain ⟨F, hF⟩ : ∃ F : Nat → List Int, F = fun k => encI ds.length ++ catP ((ds.map (·.p)).take k) := ⟨_, rfl⟩
    have hF0 : F 0 = encI ds.length := by rw [hF]; simp [catP]
    have hFn : F ds.length = encS (ds.map (·.p)) := by rw [hF]; simp only [encS, List.length_map]; rw [List.take_of_length_le (by rw [List.length_map]; exact Nat.le_refl _)]
    have hFs : ∀ k d, ds[k]? = some d → F (k + 1) = F k ++ encP d.p := by
      intro k d hd
      rw [hF]
      simp only
      rw [catP_take_succ _ (at_pr hd), List.append_assoc]
    have hFl : ∀ k, (F k).length ≤ 3000 := by
      intro k
      rw [hF]
      simp only [List.length_append]
      have h1 := catP_le ((ds.map (·.p)).take k) (fun p hp => hs2 p (List.mem_of_mem_take hp))
      rw [List.length_take, List.length_map] at h1
      rw [encI_one (by omega)]
      omega
    rw [← hFn]
    have HPN := Lib.hid (fun W => put_nil ds.length (by omega) W)
    rw [← hF0] at HPN
    clear hF hF0 hFn h0
    have HS := Lib.hid (fun (k : Nat) (d : Pd) (hd : ds[k]? = some d) => hs2 d.p (List.mem_map.2 ⟨d, List.mem_of_getElem? hd, rfl⟩))
    have HFS := Lib.hid hFs
    have HFL := Lib.hid hFl
    have HCK := Lib.hid hck
    have HROW := Lib.hid hrow
    clear hck hrow hs2 hFs hFl
    go_enter Try.func8, Try.ntmps8
    go_wp2_with fail
    refine HCK.out.mono ?_
    rintro e w1 ⟨rfl, hb1⟩
    go_wp2_with fail
    refine (HPN.out w1).mono ?_
    rintro e w2 ⟨v2, rfl, hown2, hb2⟩
    have hz1 := hb1.size
    obtain ⟨A2, c2, rfl⟩ := own_form hown2
    have HO2 := Lib.hid (own_base hown2 hz1)
    have HB2 := Lib.hid (hb1.trans (hb2.mono hz1))
    clear hown2 hb2 hb1
    go_wp2_with fail
    go_loopg [5, 19] ds.length (fun gk v i wr => ∃ (k : Nat) (A : Option Addr) (c : Nat), k ≤ ds.length ∧ i = .int .i64 k ∧ v = .slice A (F k).length c ∧ Hid (ds.length - k = gk) ∧ Hid (wr.ownsRow w.heap.size 5 1 (.slice A (F k).length c) (F k).length ((F k).map (.int .u8))) ∧ Hid (Below w.heap.size w wr))
    case atStart => exact ⟨0, A2, c2, Nat.zero_le _, rfl, rfl, Lib.hid rfl, HO2, HB2⟩
    case round =>
      obtain ⟨k, A3, c3, hk, rfl, rfl, HGK, HO, HBW⟩ := hrel
      by_cases hlt : k < ds.length
      · obtain ⟨d, hd⟩ : ∃ d, ds[k]? = some d := ⟨_, List.getElem?_eq_getElem hlt⟩
        obtain ⟨b, o, rfl, hb, x0, x1, hir, hfit, ha1, ha2⟩ := (HROW.out.below HBW.out).at hd
        have hzw := HBW.out.size
        have ba : Below wr.heap.size wr (wr.alloc (.cells #[.string (strOfNums d.p.name), .slice d.A d.p.args.length d.c] 45)) := (Below.refl _ _).alloc (Nat.le_refl _) _
        have HCALL := Lib.hid (bpp_any A3 c3 (F k) d.p (HS.out k d hd) d.A d.c (by have := HFL.out k; omega) _ (((Row.of_own HO.out).below ba).more ba.size) ((hir.below (ba.mono hzw)).more (by have := ba.size; omega)))
        rw [← HFS.out k d hd] at HCALL
        have HBA := Lib.hid (HBW.out.trans (ba.mono hzw))
        clear hir hfit hd ba
        go_wp2_with fail
        refine HCALL.out.mono ?_
        rintro e w4 ⟨A5, c5, rfl, hown5, hb5⟩
        have hza : w.heap.size ≤ (wr.alloc (.cells #[.string (strOfNums d.p.name), .slice d.A d.p.args.length d.c] 45)).heap.size := HBA.out.size
        have HO5 := Lib.hid (own_base hown5 hza)
        have HB5 := Lib.hid (HBA.out.trans (hb5.mono hza))
        clear hown5 hb5 hza
        go_wp2_with fail
        go_roundg (ds.length - (k + 1))
        case measure => have := HGK.out; omega
        case rel => exact ⟨k + 1, A5, c5, by omega, by go_num, rfl, Lib.hid rfl, HO5, HB5⟩
      · obtain rfl : k = ds.length := by omega
        go_wp2_with fail
        go_ret2
        exact ⟨A3, c3, rfl, HO.out, HBW.out⟩
  · have hne : (checkP (ds.map (·.p)) != 0) = true := bne_iff_ne.2 h0
    have hput : putS (ds.map (·.p)) = ([], checkP (ds.map (·.p))) := if_neg h0
    rw [hput]
    clear hput
    generalize checkP (ds.map (·.p)) = C at hck hne ⊢
    have HCK := Lib.hid hck
    clear hck h0
    go_enter Try.func8, Try.ntmps8
    go_wp2_with fail
    refine HCK.out.mono ?_
    rintro e w1 ⟨rfl, hb1⟩
    go_wp2_with fail
    go_ret2
    exact ⟨none, 0, rfl, World.ownsRow_nil _ _ _ _, hb1⟩
#print axioms sbput_any
end Go.Proofs.Ytnjhkjlekepjoaa
