/-
  What the theorem of TopAny rests on, part 15 of 16.
-/
import Derived.Deep.LoopGhost
import Derived.RangeFuncCalls
import Derived.Shelf.Abstract
import Derived.OwnWalkIn
import Derived.TacticsInMore
import Derived.LoopNIn
import Derived.LoopIn
import Derived.Lib.Hide
import Derived.Outline
import Derived.RegionIn
import Derived.Lib.MinMax
import Derived.WalkKit
import Derived.LoopTactic
import Derived.Deep.RegionHeld3
import Derived.Test.YtnlfcmbpocdpjaaGreatRows
import Derived.Maps.OwnSet
import Derived.Test.YtnlfcmbpocdpjaaGreatTopAnyZ14
set_option maxRecDepth 100000
set_option maxHeartbeats 16000000
namespace Go.Proofs.YtnlfcmbpocdpjaaGreat
open Lib (hid)
open Go.RowKit
theorem bpp_any (A : Option Addr) (c : Nat) (xs : List Int) (p : Pr) (hp : Small p) (A2 : Option Addr) (c2 : Nat) (hsm : xs.length ≤ 1000000) (w : World) (hrow : Row w w.heap.size (.slice A xs.length c) xs) (hir : IRow w w.heap.size (.slice A2 p.args.length c2) p.args) :
  Calls Tryz.prog 212 #[.slice A xs.length c, .agg #[.string (strOfNums p.name), .slice A2 p.args.length c2]] w fun e W' => ∃ A' c', e = .returned (.slice A' (xs ++ encP p).length c') ∧ W'.ownsRow w.heap.size 5 1 (.slice A' (xs ++ encP p).length c') (xs ++ encP p).length ((xs ++ encP p).map (.int .u8)) ∧ Below w.heap.size w W' := by
 obtain ⟨i0, hi, hz0, hz1, hz2⟩ := info_parts Tryz.infoU8
 obtain ⟨hn1, hn2, hnb, hab⟩ := hp
 obtain ⟨hc1, hc2⟩ : p.args.length ≤ c2 ∧ c2 ≤ 9223372036854775807 := by
  obtain ⟨A', c', hv, q1, q2, _⟩ := hir
  injection hv with _ _ e3
  rw [List.length_map] at q1
  unfold maxLen at q2
  exact ⟨by omega, by omega⟩
 have he1 : (encT p.name).length ≤ 33 := by rw [encT_length, encI_one (by omega)]; omega
 have he2 : (encI p.args.length).length = 1 := encI_one (by omega)
 unfold encP
 obtain ⟨nm, ar⟩ := p
 simp only at hn1 hn2 hnb hab hc1 he1 he2 hir ⊢
 have ba : Below w.heap.size w (w.alloc (.cells #[.string (strOfNums nm), .slice A2 ar.length c2] 58)) := (Below.refl _ _).alloc (Nat.le_refl _) _
 have HBX := hid (show Held (w.alloc (.cells #[.string (strOfNums nm), .slice A2 ar.length c2] 58)) w.heap.size 58 #[.string (strOfNums nm), .slice A2 ar.length c2] from heap_alloc_new w _)
 have HIR := hid (hir.below ba)
 have HPN := hid (bput_any A c xs nm hnb (by omega) (by omega) (w.alloc (.cells #[.string (strOfNums nm), .slice A2 ar.length c2] 58)) ((hrow.below ba).more ba.size))
 have HB := hid ba
 have HAB := hid hab
 generalize hE : encT nm = E at HPN he1 ⊢
 clear hE
 obtain ⟨Z, hZ⟩ : ∃ Z, xs ++ (E ++ (encI ar.length ++ ar)) = Z := ⟨_, rfl⟩
 rw [hZ]
 have HZ := hid (show xs ++ E ++ encI ar.length ++ ar = Z by rw [← hZ]; simp)
 clear hZ
 obtain ⟨w1, hw1⟩ : ∃ w1, w.alloc (.cells #[.string (strOfNums nm), .slice A2 ar.length c2] 58) = w1 := ⟨_, rfl⟩
 have hz1w : w1.heap.size = w.heap.size + 1 := by rw [← hw1]; simp
 rw [hw1] at HBX HIR HPN HB
 have hx0 := HBX.out.cell 0
 simp at hx0
 clear hrow hir ba hnb hab
 go_enter Tryz.func212, Tryz.ntmps212
 go_wp2_with fail
 refine HPN.out.mono ?_
 rintro e w2 ⟨v2, rfl, hown2, hb2⟩
 rw [← List.length_append] at hown2
 obtain ⟨A3, c3, rfl⟩ := own_form hown2
 have hxl : (xs ++ E).length ≤ 1000100 := by rw [List.length_append]; omega
 generalize xs ++ E = X at hown2 hxl HZ
 have hn2 := hb2.size
 have hbx2 := HBX.out.below hb2 (by omega)
 have hx1 := hbx2.cell 1
 simp at hx1
 have HPU := hid (put_any A3 c3 X ar.length (by omega) (by omega) w2 (Row.of_own hown2))
 have HIR2 := hid (HIR.out.below (hb2.mono (by omega)))
 have HB2 := hid (HB.out.trans (hb2.mono (by omega)))
 have HBX2 := hid hbx2
 clear hown2 hb2 hx0 hbx2
 go_wp2_with fail
 refine HPU.out.mono ?_
 rintro e w3 ⟨v3, rfl, hown3, hb3⟩
 rw [← List.length_append] at hown3
 have hyl : (X ++ encI ar.length).length ≤ 1000101 := by rw [List.length_append]; omega
 generalize X ++ encI ar.length = Y at hown3 hyl HZ
 obtain ⟨A4, c4, rfl⟩ := own_form hown3
 have hbx3 := HBX2.out.below hb3 (by omega)
 have hx1 := hbx3.cell 1
 simp at hx1
 have HO3 := hid (own_base hown3 (show w.heap.size ≤ w2.heap.size by omega))
 have HIR3 := hid (HIR2.out.below (hb3.mono (show w.heap.size ≤ w2.heap.size by omega)))
 have HB3 := hid (HB2.out.trans (hb3.mono (show w.heap.size ≤ w2.heap.size by omega)))
 clear hown3 hb3 hbx3
 go_wp2_with fail
 go_loopg [0, 20] ar.length (fun gk v i wr => ∃ (k : Nat) (A : Option Addr) (c : Nat), k ≤ ar.length ∧ i = .int .i64 k ∧ v = .slice A (Y.length + k) c ∧ Hid (ar.length - k = gk) ∧ Hid (wr.ownsRow w.heap.size 5 1 (.slice A (Y.length + k) c) (Y.length + k) ((Y ++ ar.take k).map (.int .u8))) ∧ Hid (IRow wr w.heap.size (.slice A2 ar.length c2) ar) ∧ Hid (Below w.heap.size w wr))
 case atStart => exact ⟨0, A4, c4, Nat.zero_le _, rfl, rfl, hid rfl, by simpa using HO3, HIR3, HB3⟩
 case round =>
  obtain ⟨k, A, c, hk, rfl, rfl, HGK, HO, HI, HBW⟩ := hrel
  by_cases hlt : k < ar.length
  ·obtain ⟨b, o, rfl, hb, ht⟩ := HI.out.at hlt
   have hbt : 0 ≤ ar.getD k 0 ∧ ar.getD k 0 < 256 := HAB.out _ (by rw [List.getD, List.getElem?_eq_getElem hlt]; exact List.getElem_mem hlt)
   have hnx : ar.take (k + 1) = ar.take k ++ [ar.getD k 0] := by rw [List.take_add_one, List.getD, List.getElem?_eq_getElem hlt]; rfl
   generalize ar.getD k 0 = t at ht hbt hnx
   obtain ⟨t0, t1⟩ := hbt
   have HNX := hid hnx
   have hzw := HBW.out.size
   clear hnx
   go_wp2_with (at_builtin; refine wpList_append_own _ rfl _ _ 22 rfl w.heap.size 5 i0 (.int .u8 0) 1 1 Tryz.underlying22 hi hz0 hz1 hz2 rfl (by decide) _ _ _ rfl (HO.out.alloc _) ⟨wr.heap.size, 0, none⟩ 1 1 [.int .u8 t] rfl rfl (cell_one_new _ _ _) (by simp [Value.oneCell']) (by simp only [maxLen]; omega) (by omega) (by simp; omega) ?_; intro v5 w5 hown5 hg5 hn5)
   have hlow : ∀ i, (Value.slice A (Y.length + k) c).ownBlock = some i → w.heap.size ≤ i := fun i e => (World.ownsRow.lt HO.out i e).1
   have hb5 : Below w.heap.size w w5 := (HBW.out.alloc hzw _).grown hg5 (by simp; omega) hlow
   have HI5 := hid ((HI.out.below ((Below.refl _ _).alloc hzw _)).below (((Below.refl _ _).grown hg5 (by simp; omega) hlow)))
   have HB5 := hid hb5
   have hmap : (Y ++ ar.take k).map (Value.int .u8) ++ [.int .u8 t] = (Y ++ ar.take (k + 1)).map (.int .u8) := by rw [HNX.out]; simp
   rw [hmap, Nat.add_assoc] at hown5
   obtain ⟨A5, c5, rfl⟩ := own_form hown5
   have HO5 := hid hown5
   clear hown5 hg5 hn5 hlow hmap hb5
   go_roundg (ar.length - (k + 1))
   case measure => have := HGK.out; omega
   case rel => exact ⟨k + 1, A5, c5, by omega, by go_num, rfl, hid rfl, HO5, HI5, HB5⟩
  ·obtain rfl : k = ar.length := by omega
   have hz := HZ.out
   have ho := HO.out
   rw [List.take_length, ← List.length_append, hz] at ho
   have HO' := hid ho
   have HZl := hid (show Y.length + ar.length = Z.length by rw [← hz, List.length_append])
   clear hz ho
   go_wp2_with fail
   go_ret
   exact ⟨A, c, by rw [HZl.out]; rfl, HO'.out, HBW.out⟩
def PutGot (w : World) (r : List Int × Int) (e : Ending) (W' : World) : Prop :=
 ∃ A c, e = .returned (.tuple #[.slice A r.1.length c, .int .i64 r.2]) ∧ W'.ownsRow w.heap.size 5 1 (.slice A r.1.length c) r.1.length (r.1.map (.int .u8)) ∧ Below w.heap.size w W'
theorem sbput_any (A : Option Addr) (c : Nat) (ds : List Pd) (w : World) (hrow : PredRow w w.heap.size (.slice A ds.length c) ds) :
  Calls Tryz.prog 207 #[.slice A ds.length c] w (PutGot w (putS (ds.map (·.p)))) := by
 obtain ⟨hc1, hc2⟩ : ds.length ≤ c ∧ c ≤ 9223372036854775807 := by
  obtain ⟨A', c', hv, q1, q2⟩ := hrow.form
  injection hv with _ _ e3
  exact ⟨by omega, by omega⟩
 have hck := scheck_any A c ds w hrow
 by_cases h0 : checkP (ds.map (·.p)) = 0
 ·obtain ⟨hs1, hs2⟩ := check_small h0
  rw [List.length_map] at hs1
  have hput : putS (ds.map (·.p)) = (encS (ds.map (·.p)), 0) := if_pos h0
  rw [hput]
  clear hput
  rw [h0] at hck
  obtain ⟨F, hF⟩ : ∃ F : Nat → List Int, F = fun k => encI ds.length ++ catP ((ds.map (·.p)).take k) := ⟨_, rfl⟩
  have hF0 : F 0 = encI ds.length := by rw [hF]; simp [catP]
  have hFn : F ds.length = encS (ds.map (·.p)) := by rw [hF]; simp only [encS, List.length_map]; rw [List.take_of_length_le (by rw [List.length_map]; exact Nat.le_refl _)]
  have hFs : ∀ k d, ds[k]? = some d → F (k + 1) = F k ++ encP d.p := by
   intro k d hd
   rw [hF]
   simp only
   rw [catP_take_succ _ (at_pr hd), List.append_assoc]
  have hFl : ∀ k, (F k).length ≤ 3000 := by
   intro k
   rw [hF]
   simp only [List.length_append]
   have h1 := catP_le ((ds.map (·.p)).take k) (fun p hp => hs2 p (List.mem_of_mem_take hp))
   rw [List.length_take, List.length_map] at h1
   rw [encI_one (by omega)]
   omega
  rw [← hFn]
  have HPN := hid (fun W => put_nil ds.length (by omega) W)
  rw [← hF0] at HPN
  clear hF hF0 hFn h0
  have HS := hid (fun (k : Nat) (d : Pd) (hd : ds[k]? = some d) => hs2 d.p (List.mem_map.2 ⟨d, List.mem_of_getElem? hd, rfl⟩))
  have HFS := hid hFs
  have HFL := hid hFl
  have HCK := hid hck
  have HROW := hid hrow
  clear hck hrow hs2 hFs hFl
  go_enter Tryz.func207, Tryz.ntmps207
  go_wp2_with fail
  refine HCK.out.mono ?_
  rintro e w1 ⟨rfl, hb1⟩
  go_wp2_with fail
  refine (HPN.out w1).mono ?_
  rintro e w2 ⟨v2, rfl, hown2, hb2⟩
  have hz1 := hb1.size
  obtain ⟨A2, c2, rfl⟩ := own_form hown2
  have HO2 := hid (own_base hown2 hz1)
  have HB2 := hid (hb1.trans (hb2.mono hz1))
  clear hown2 hb2 hb1
  go_wp2_with fail
  go_loopg [5, 19] ds.length (fun gk v i wr => ∃ (k : Nat) (A : Option Addr) (c : Nat), k ≤ ds.length ∧ i = .int .i64 k ∧ v = .slice A (F k).length c ∧ Hid (ds.length - k = gk) ∧ Hid (wr.ownsRow w.heap.size 5 1 (.slice A (F k).length c) (F k).length ((F k).map (.int .u8))) ∧ Hid (Below w.heap.size w wr))
  case atStart => exact ⟨0, A2, c2, Nat.zero_le _, rfl, rfl, hid rfl, HO2, HB2⟩
  case round =>
   obtain ⟨k, A3, c3, hk, rfl, rfl, HGK, HO, HBW⟩ := hrel
   by_cases hlt : k < ds.length
   ·obtain ⟨d, hd⟩ : ∃ d, ds[k]? = some d := ⟨_, List.getElem?_eq_getElem hlt⟩
    obtain ⟨b, o, rfl, hb, x0, x1, hir, hfit, ha1, ha2⟩ := (HROW.out.below HBW.out).at hd
    have hzw := HBW.out.size
    have ba : Below wr.heap.size wr (wr.alloc (.cells #[.string (strOfNums d.p.name), .slice d.A d.p.args.length d.c] 58)) := (Below.refl _ _).alloc (Nat.le_refl _) _
    have HCALL := hid (bpp_any A3 c3 (F k) d.p (HS.out k d hd) d.A d.c (by have := HFL.out k; omega) _ (((Row.of_own HO.out).below ba).more ba.size) ((hir.below (ba.mono hzw)).more (by have := ba.size; omega)))
    rw [← HFS.out k d hd] at HCALL
    have HBA := hid (HBW.out.trans (ba.mono hzw))
    clear hir hfit hd ba
    go_wp2_with fail
    refine HCALL.out.mono ?_
    rintro e w4 ⟨A5, c5, rfl, hown5, hb5⟩
    have hza : w.heap.size ≤ (wr.alloc (.cells #[.string (strOfNums d.p.name), .slice d.A d.p.args.length d.c] 58)).heap.size := HBA.out.size
    have HO5 := hid (own_base hown5 hza)
    have HB5 := hid (HBA.out.trans (hb5.mono hza))
    clear hown5 hb5 hza
    go_wp2_with fail
    go_roundg (ds.length - (k + 1))
    case measure => have := HGK.out; omega
    case rel => exact ⟨k + 1, A5, c5, by omega, by go_num, rfl, hid rfl, HO5, HB5⟩
   ·obtain rfl : k = ds.length := by omega
    go_wp2_with fail
    go_ret2
    exact ⟨A3, c3, rfl, HO.out, HBW.out⟩
 ·have hne : (checkP (ds.map (·.p)) != 0) = true := bne_iff_ne.2 h0
  have hput : putS (ds.map (·.p)) = ([], checkP (ds.map (·.p))) := if_neg h0
  rw [hput]
  clear hput
  generalize checkP (ds.map (·.p)) = C at hck hne ⊢
  have HCK := hid hck
  clear hck h0
  go_enter Tryz.func207, Tryz.ntmps207
  go_wp2_with fail
  refine HCK.out.mono ?_
  rintro e w1 ⟨rfl, hb1⟩
  go_wp2_with fail
  go_ret2
  exact ⟨none, 0, rfl, World.ownsRow_nil _ _ _ _, hb1⟩
theorem framed_any (A : Option Addr) (c : Nat) (p : List Int) (hp : p.length ≤ 4096) (hb : ∀ x ∈ p, 0 ≤ x ∧ x < 256) (w : World) (hrow : Row w w.heap.size (.slice A p.length c) p) :
  Calls Tryz.prog 208 #[.slice A p.length c] w (PutGot w (encFr 1 p, 0)) := by
 have HP := hid (fput_any 1 (.inl rfl) A c p hp hb w hrow)
 have hpi : (p.length : Int) ≤ 4096 := by omega
 clear hrow hb
 go_enter Tryz.func208, Tryz.ntmps208
 go_wp2_with fail
 refine HP.out.mono ?_
 rintro e w1 ⟨cap, g, rfl, hown, hb1⟩
 have HO := hid hown
 clear hown
 go_wp2_with fail
 go_ret2
 exact ⟨_, _, rfl, HO.out, hb1⟩
theorem sbframe_any (A : Option Addr) (c : Nat) (ds : List Pd) (w : World) (hrow : PredRow w w.heap.size (.slice A ds.length c) ds) :
  Calls Tryz.prog 182 #[.slice A ds.length c] w (PutGot w (frameS (ds.map (·.p)))) := by
 have hput := sbput_any A c ds w hrow
 clear hrow
 unfold frameS
 unfold putS at hput
 by_cases h0 : checkP (ds.map (·.p)) = 0
 ·rw [if_pos h0] at hput ⊢
  obtain ⟨_, hl⟩ := encS_le h0
  have hby := encS_bytes h0
  generalize encS (ds.map (·.p)) = p at hput hl hby ⊢
  have HP := hid hput
  have HBY := hid hby
  clear hput hby h0
  go_enter Tryz.func182, Tryz.ntmps182
  go_wp2_with fail
  refine HP.out.mono ?_
  rintro e w1 ⟨A1, c1, rfl, hown, hb1⟩
  have HF := hid (framed_any A1 c1 p (by omega) HBY.out w1 (Row.of_own hown))
  have HB1 := hid hb1
  clear hown hb1
  go_wp2_with fail
  refine HF.out.mono ?_
  rintro e w2 ⟨A2, c2, rfl, hown2, hb2⟩
  have HO2 := hid (own_base hown2 HB1.out.size)
  have HB2 := hid (HB1.out.trans (hb2.mono HB1.out.size))
  clear hown2 hb2
  go_wp2_with fail
  go_ret2
  exact ⟨A2, c2, rfl, HO2.out, HB2.out⟩
 ·rw [if_neg h0] at hput ⊢
  have hne : (checkP (ds.map (·.p)) != 0) = true := bne_iff_ne.2 h0
  generalize checkP (ds.map (·.p)) = C at hput hne ⊢
  have HP := hid hput
  clear hput h0
  go_enter Tryz.func182, Tryz.ntmps182
  go_wp2_with fail
  refine HP.out.mono ?_
  rintro e w1 ⟨A1, c1, rfl, hown, hb1⟩
  have HB1 := hid hb1
  clear hown hb1
  go_wp2_with fail
  go_ret2
  exact ⟨none, 0, rfl, World.ownsRow_nil _ _ _ _, HB1.out⟩
section
open Go.RowKit Go.Shelf
set_option linter.unusedVariables false
attribute [local go_sem] Oper.semAt_some
structure By where
 A : Option Addr
 c : Nat
 xs : List Int
abbrev By.val (b : By) : Value := .slice b.A b.xs.length b.c
def ByOk (x : By) (w : World) : Prop := Row w w.heap.size x.val x.xs ∧ x.xs.length ≤ 4200 ∧ ∀ y ∈ x.xs, 0 ≤ y ∧ y < 256
def framesL (sig : List Pr) (bg : Bool) (bs : List Bk) : List (List Int) := (if bg = true then [] else [(frameS sig).1]) ++ bs.map (fun b => frB sig b.ps)
def KeepsF (n₀ B1 B2 m : Nat) (w w' : World) : Prop := Below n₀ w w' ∧ w'.heap[B1]? = w.heap[B1]? ∧ w'.heap[B2]? = w.heap[B2]?
theorem KeepsF.refl (n₀ B1 B2 m : Nat) (w : World) : KeepsF n₀ B1 B2 m w w := ⟨Below.refl _ _, rfl, rfl⟩
theorem KeepsF.trans {n₀ B1 B2 m m' m2 : Nat} {a b c : World} (h : KeepsF n₀ B1 B2 m a b) (k : KeepsF n₀ B1 B2 m' b c) : KeepsF n₀ B1 B2 m2 a c := ⟨h.1.trans k.1, k.2.1.trans h.2.1, k.2.2.trans h.2.2⟩
theorem KeepsF.below {n₀ B1 B2 m : Nat} {a b : World} (h : Below a.heap.size a b) (h0 : n₀ ≤ a.heap.size) (h1 : B1 < a.heap.size) (h2 : B2 < a.heap.size) : KeepsF n₀ B1 B2 m a b := ⟨h.mono h0, h.block _ h1, h.block _ h2⟩
theorem KeepsF.turn {n₀ B1 B2 : Nat} {w : World} (hn : n₀ ≤ w.heap.size) (h1 : B1 < w.heap.size) (h2 : B2 < w.heap.size) (m : Nat) (W : World) (l : Nat) (o o' : Obj) (hl : w.heap.size ≤ l) (hm : l < m) (h : W.heap[l]? = some o) (_ : o.isCells = false) : KeepsF n₀ B1 B2 m W (W.putObj l o') :=
 ⟨(Below.refl n₀ W).grown (grownBy_putObj' W l o') (by have := (Array.getElem?_eq_some_iff.1 h).1; omega) (fun k e => by cases e; omega), World.putObj_heap_other (by omega), World.putObj_heap_other (by omega)⟩
structure WRd (w : World) (n₀ g : Nat) (A : Option Addr) (c : Nat) (ds : List Pd) (bg : Bool) (KA : Option Addr) (kc : Nat) (bs : List Bk) : Prop where
 glt : g < n₀
 c0 : w.cell? ⟨g, 0, none⟩ = some (.slice A ds.length c)
 c2 : w.cell? ⟨g, 2, none⟩ = some (.bool bg)
 c3 : w.cell? ⟨g, 3, none⟩ = some (.slice KA bs.length kc)
 sig : PredRow w n₀ (.slice A ds.length c) ds
 row : ERow w n₀ (.slice KA bs.length kc) bs.length (bkVs bs)
 pts : ∀ b ∈ bs, TrRow w n₀ b.val b.ps
theorem WRd.below {w w' : World} {n₀ g c kc : Nat} {A KA : Option Addr} {ds : List Pd} {bg : Bool} {bs : List Bk} (h : WRd w n₀ g A c ds bg KA kc bs) (hb : Below n₀ w w') : WRd w' n₀ g A c ds bg KA kc bs :=
 ⟨h.glt, (hb.cell (p := ⟨g, 0, none⟩) h.glt).trans h.c0, (hb.cell (p := ⟨g, 2, none⟩) h.glt).trans h.c2, (hb.cell (p := ⟨g, 3, none⟩) h.glt).trans h.c3, h.sig.below hb, h.row.below hb, fun b hb2 => (h.pts b hb2).below hb⟩
theorem WAt.rd {w : World} {n g c kc : Nat} {A KA : Option Addr} {ds : List Pd} {most : Int} {bg cl : Bool} {bs : List Bk} (h : WAt w n g A c ds most bg cl KA kc bs) : WRd w w.heap.size g A c ds bg KA kc bs :=
 ⟨h.held.lt, h.cells.1, h.cells.2.2.1, h.cells.2.2.2.1, h.sig.more h.size, ERow.of_own h.blk.1, fun b hb => (h.blk.2 b hb).row⟩
theorem frames1_in (n : Nat) (hn : 1 ≤ n) (l B1 B2 n₀ g : Nat) (A : Option Addr) (c : Nat) (ds : List Pd) (bg : Bool) (KA : Option Addr) (kc : Nat) (bs : List Bk) (k : Nat) (hk : k ≤ bs.length) (J : List By → World → Prop) (W : World)
  (hY : ∀ pre x W0 W1, J pre W0 → Below W0.heap.size W0 W1 → ByOk x W1 → pre.length < bs.length + 1 → YieldAt Fence.wide (n - 1) Tryz.prog l #[x.val] W1 fun e W' => e = .returned (.bool true) ∧ J (pre ++ [x]) W' ∧ KeepsF n₀ B1 B2 W0.heap.size W1 W')
  (h1 : W.cell? ⟨B1, 0, none⟩ = some (.pointer (some ⟨g, 0, none⟩))) (h2 : W.cell? ⟨B2, 0, none⟩ = some (.int .i64 k)) (hl1 : B1 < W.heap.size) (hl2 : B2 < W.heap.size) (hn0 : n₀ ≤ W.heap.size) (hw : WRd W n₀ g A c ds bg KA kc bs) (h0 : J [] W) :
  CallsIn Fence.wide n Tryz.prog 181 #[.func (.yield l) #[] #[], .pointer (some ⟨B1, 0, none⟩), .pointer (some ⟨B2, 0, none⟩)] W fun e W' => (∃ v, e = .returned v) ∧ ∃ (ys : List By) (W0 : World), ys.map (·.xs) = framesL (ds.map (·.p)) bg (bs.take k) ∧ J ys W0 ∧ Below W0.heap.size W0 W' := by
 refine callsIn_of_wp Tryz.func181 rfl trivial ?_ rfl
 simp only [Tryz.ntmps181, List.size_toArray, List.length_cons, List.length_nil, Nat.reduceAdd, Nat.reduceSub, Array.replicate_succ, Array.replicate_zero, List.push_toArray, List.append_toArray, List.nil_append, List.cons_append]
 have HY := hid hY
 have HW := hid hw
 have H1 := hid h1
 have H2 := hid h2
 have c0 := hw.c0
 have c2 := hw.c2
 have c3 := hw.c3
 have hglt := hw.glt
 obtain ⟨-, kl1, kl2⟩ := hw.row.len
 have SF := hid (fun V (hb : Below n₀ W V) => sbframe_any A c ds V ((hw.sig.below hb).more (Nat.le_trans hn0 hb.size)))
 have BF := hid (fun V (hb : Below n₀ W V) (b : Bk) (hm : b ∈ bs) => bframe_any A c ds b.A b.c b.ps V ((hw.sig.below hb).more (Nat.le_trans hn0 hb.size)) (((hw.pts b hm).below hb).more (Nat.le_trans hn0 hb.size)))
 clear hY hw
 cases bg with
 | true =>
  have HKP := hid (KeepsF.refl n₀ B1 B2 0 W)
  obtain ⟨P0, hP0⟩ : ∃ P0 : List By, P0 = [] := ⟨_, rfl⟩
  have HPRE : Hid (P0.map (·.xs) = framesL (ds.map (·.p)) true (bs.take 0)) := hid (by rw [hP0]; rfl)
  have hpl : P0.length ≤ 1 := by rw [hP0]; exact Nat.zero_le _
  rw [← hP0] at h0
  have hJV := h0
  gi_wp2_with fail
  obtain ⟨V, hV⟩ : ∃ V, W = V := ⟨_, rfl⟩
  have hv1 : B1 < V.heap.size := by rw [← hV]; exact hl1
  have hv2 : B2 < V.heap.size := by rw [← hV]; exact hl2
  replace HKP : Hid (KeepsF n₀ B1 B2 0 W V) := by rw [← hV]; exact HKP
  rw [hV] at hJV
  conv => arg 7; rw [hV]
  clear c0 c2 c3 hP0
  have hrn : n₀ ≤ V.heap.size := Nat.le_trans hn0 HKP.out.1.size
  have v1 : V.cell? ⟨B1, 0, none⟩ = some (.pointer (some ⟨g, 0, none⟩)) := (World.cell?_of_block HKP.out.2.1).trans H1.out
  have v2 : V.cell? ⟨B2, 0, none⟩ = some (.int .i64 k) := (World.cell?_of_block HKP.out.2.2).trans H2.out
  have v3 := (HW.out.below HKP.out.1).c3
  have hkc : k ≤ kc := Nat.le_trans hk kl1
  have e1 : ¬ ((k : Int) < 0) := by omega
  have e2 : (0 : Int) ≤ k := by omega
  gi_wp2
  gi_region
  all_goals (
  gi_wp2
  gi_loopw [34] (fun iv wr => ∃ (j : Nat) (pre : List By) (W0 : World), iv = .int .i64 j ∧ j ≤ k ∧ pre.length ≤ j + 1 ∧ Hid (pre.map (·.xs) = framesL (ds.map (·.p)) true (bs.take j)) ∧ J pre W0 ∧ Below W0.heap.size W0 wr ∧ Hid (KeepsF n₀ B1 B2 0 W wr)) (fun iv _ => k - (intOf iv).toNat)
  case atStart => exact ⟨0, P0, V, rfl, Nat.zero_le _, by omega, HPRE, hJV, (Below.refl _ _).drew, hid (HKP.out.trans (KeepsF.below (m := 0) (Below.refl _ _).drew hrn hv1 hv2))⟩
  case round =>
   obtain ⟨j, pre, W0, rfl, hj, hpl2, HPR, hJs, hk0, HK⟩ := hrel
   have hr1 : wr.cell? ⟨B1, 0, none⟩ = some (.pointer (some ⟨g, 0, none⟩)) := (World.cell?_of_block HK.out.2.1).trans H1.out
   have HWR := hid (HW.out.below HK.out.1)
   have r0 := HWR.out.c0
   have hnr : n₀ ≤ wr.heap.size := Nat.le_trans hn0 HK.out.1.size
   by_cases hlt : j < k
   ·obtain ⟨b, hb⟩ : ∃ b, bs[j]? = some b := ⟨_, List.getElem?_eq_getElem (by omega)⟩
    have hmem := List.mem_of_getElem? hb
    have hkz : 0 < bs.length := by omega
    obtain ⟨q, o, rfl, hq, hcell⟩ := HWR.out.row.block hkz
    have x0 := hcell j _ (bkVs_at hb)
    have HBF := hid (BF.out wr HK.out.1 b hmem)
    have HBY : Hid (∀ y ∈ (frameB (ds.map (·.p)) b.ps).1, 0 ≤ y ∧ y < 256) := hid (show ∀ y ∈ frB (ds.map (fun x : Pd => x.p)) b.ps, 0 ≤ y ∧ y < 256 from frB_bytes _ (HWR.out.pts b hmem).fits)
    have HTK := hid (show bs.take (j + 1) = bs.take j ++ [b] by rw [List.take_add_one, hb]; rfl)
    have hpre : pre.length < bs.length + 1 := by omega
    clear hb hmem hcell
    gi_wp2_with (refine ⟨trivial, ?_⟩; gi_at_call 183; refine (callsIn_wide.2 HBF.out).mono ?_; rintro e w4 ⟨A4, c4, rfl, hown4, hb4⟩; obtain ⟨fn, tmps, assign, body, hy, hR⟩ := HY.out pre ⟨A4, c4, (frameB (ds.map (·.p)) b.ps).1⟩ W0 w4 hJs (hk0.trans (hb4.mono hk0.size)) ⟨Row.of_own hown4, frB_length _ _, HBY.out⟩ hpre; dsimp only [By.val] at hy)
    refine hR.mono ?_
    rintro e W6 ⟨rfl, hJ6, hk6⟩
    have HK6 := hid ((HK.out.trans (m2 := 0) (KeepsF.below (m := 0) hb4 hnr (Nat.lt_of_lt_of_le hl1 HK.out.1.size) (Nat.lt_of_lt_of_le hl2 HK.out.1.size))).trans (m2 := 0) hk6)
    have HJ6 := hid hJ6
    clear hy hR hown4 hb4 hk6 hJ6
    gi_wp2
    go_roundw
    case rel =>
     refine ⟨j + 1, pre ++ [⟨A4, c4, (frameB (ds.map (·.p)) b.ps).1⟩], W6, by go_num, by omega, by simp; omega, hid ?_, HJ6.out, Below.refl _ _, HK6⟩
     rw [List.map_append, HPR.out, HTK.out]
     unfold framesL
     rw [List.map_append, List.append_assoc]
     rfl
    case measure => simp [intOf]; omega
   ·obtain rfl : j = k := by omega
    gi_wp2
    go_end0
    exact ⟨⟨_, rfl⟩, pre, W0, HPR.out, hJs, hk0⟩)
 | false =>
  gi_wp2_with (refine ⟨trivial, ?_⟩; gi_at_call 182; refine (callsIn_wide.2 (SF.out W (Below.refl _ _))).mono ?_; rintro e w1 ⟨A1, c1, rfl, hown, hb1⟩; obtain ⟨fn, tmps, assign, body, hy, hR⟩ := HY.out [] ⟨A1, c1, (frameS (ds.map (·.p))).1⟩ W w1 h0 hb1 ⟨Row.of_own hown, frameS_length _, frameS_bytes _⟩ (Nat.succ_pos _); dsimp only [By.val] at hy)
  refine hR.mono ?_
  rintro e V ⟨rfl, hJV, hk3⟩
  have HKP := hid ((KeepsF.below (m := 0) hb1 hn0 hl1 hl2).trans (m2 := 0) hk3)
  obtain ⟨P0, hP0⟩ : ∃ P0 : List By, P0 = [] ++ [⟨A1, c1, (frameS (ds.map (·.p))).1⟩] := ⟨_, rfl⟩
  rw [← hP0] at hJV
  have HPRE : Hid (P0.map (·.xs) = framesL (ds.map (·.p)) false (bs.take 0)) := hid (by rw [hP0]; rfl)
  have hpl : P0.length ≤ 1 := by rw [hP0]; simp
  have hv1 : B1 < V.heap.size := Nat.lt_of_lt_of_le hl1 HKP.out.1.size
  have hv2 : B2 < V.heap.size := Nat.lt_of_lt_of_le hl2 HKP.out.1.size
  clear hy hR hown hb1 hk3 c0 c2 c3 h0 hP0
  have hrn : n₀ ≤ V.heap.size := Nat.le_trans hn0 HKP.out.1.size
  have v1 : V.cell? ⟨B1, 0, none⟩ = some (.pointer (some ⟨g, 0, none⟩)) := (World.cell?_of_block HKP.out.2.1).trans H1.out
  have v2 : V.cell? ⟨B2, 0, none⟩ = some (.int .i64 k) := (World.cell?_of_block HKP.out.2.2).trans H2.out
  have v3 := (HW.out.below HKP.out.1).c3
  have hkc : k ≤ kc := Nat.le_trans hk kl1
  have e1 : ¬ ((k : Int) < 0) := by omega
  have e2 : (0 : Int) ≤ k := by omega
  gi_wp2
  gi_region
  all_goals (
  gi_wp2
  gi_loopw [34] (fun iv wr => ∃ (j : Nat) (pre : List By) (W0 : World), iv = .int .i64 j ∧ j ≤ k ∧ pre.length ≤ j + 1 ∧ Hid (pre.map (·.xs) = framesL (ds.map (·.p)) false (bs.take j)) ∧ J pre W0 ∧ Below W0.heap.size W0 wr ∧ Hid (KeepsF n₀ B1 B2 0 W wr)) (fun iv _ => k - (intOf iv).toNat)
  case atStart => exact ⟨0, P0, V, rfl, Nat.zero_le _, by omega, HPRE, hJV, (Below.refl _ _).drew, hid (HKP.out.trans (KeepsF.below (m := 0) (Below.refl _ _).drew hrn hv1 hv2))⟩
  case round =>
   obtain ⟨j, pre, W0, rfl, hj, hpl2, HPR, hJs, hk0, HK⟩ := hrel
   have hr1 : wr.cell? ⟨B1, 0, none⟩ = some (.pointer (some ⟨g, 0, none⟩)) := (World.cell?_of_block HK.out.2.1).trans H1.out
   have HWR := hid (HW.out.below HK.out.1)
   have r0 := HWR.out.c0
   have hnr : n₀ ≤ wr.heap.size := Nat.le_trans hn0 HK.out.1.size
   by_cases hlt : j < k
   ·obtain ⟨b, hb⟩ : ∃ b, bs[j]? = some b := ⟨_, List.getElem?_eq_getElem (by omega)⟩
    have hmem := List.mem_of_getElem? hb
    have hkz : 0 < bs.length := by omega
    obtain ⟨q, o, rfl, hq, hcell⟩ := HWR.out.row.block hkz
    have x0 := hcell j _ (bkVs_at hb)
    have HBF := hid (BF.out wr HK.out.1 b hmem)
    have HBY : Hid (∀ y ∈ (frameB (ds.map (·.p)) b.ps).1, 0 ≤ y ∧ y < 256) := hid (show ∀ y ∈ frB (ds.map (fun x : Pd => x.p)) b.ps, 0 ≤ y ∧ y < 256 from frB_bytes _ (HWR.out.pts b hmem).fits)
    have HTK := hid (show bs.take (j + 1) = bs.take j ++ [b] by rw [List.take_add_one, hb]; rfl)
    have hpre : pre.length < bs.length + 1 := by omega
    clear hb hmem hcell
    gi_wp2_with (refine ⟨trivial, ?_⟩; gi_at_call 183; refine (callsIn_wide.2 HBF.out).mono ?_; rintro e w4 ⟨A4, c4, rfl, hown4, hb4⟩; obtain ⟨fn, tmps, assign, body, hy, hR⟩ := HY.out pre ⟨A4, c4, (frameB (ds.map (·.p)) b.ps).1⟩ W0 w4 hJs (hk0.trans (hb4.mono hk0.size)) ⟨Row.of_own hown4, frB_length _ _, HBY.out⟩ hpre; dsimp only [By.val] at hy)
    refine hR.mono ?_
    rintro e W6 ⟨rfl, hJ6, hk6⟩
    have HK6 := hid ((HK.out.trans (m2 := 0) (KeepsF.below (m := 0) hb4 hnr (Nat.lt_of_lt_of_le hl1 HK.out.1.size) (Nat.lt_of_lt_of_le hl2 HK.out.1.size))).trans (m2 := 0) hk6)
    have HJ6 := hid hJ6
    clear hy hR hown4 hb4 hk6 hJ6
    gi_wp2
    go_roundw
    case rel =>
     refine ⟨j + 1, pre ++ [⟨A4, c4, (frameB (ds.map (·.p)) b.ps).1⟩], W6, by go_num, by omega, by simp; omega, hid ?_, HJ6.out, Below.refl _ _, HK6⟩
     rw [List.map_append, HPR.out, HTK.out]
     unfold framesL
     rw [List.map_append, List.append_assoc]
     rfl
    case measure => simp [intOf]; omega
   ·obtain rfl : j = k := by omega
    gi_wp2
    go_end0
    exact ⟨⟨_, rfl⟩, pre, W0, HPR.out, hJs, hk0⟩)
end
section
open Go.RowKit Go.Shelf
set_option linter.unusedVariables false
attribute [local go_sem] Oper.semAt_some
theorem frames_hands (n : Nat) (hn : 1 ≤ n) (B1 B2 n₀ g : Nat) (A : Option Addr) (c : Nat) (ds : List Pd) (bg : Bool) (KA : Option Addr) (kc : Nat) (bs : List Bk) (k : Nat) (hk : k ≤ bs.length) (w : World)
  (h1 : w.cell? ⟨B1, 0, none⟩ = some (.pointer (some ⟨g, 0, none⟩))) (h2 : w.cell? ⟨B2, 0, none⟩ = some (.int .i64 k)) (hl1 : B1 < w.heap.size) (hl2 : B2 < w.heap.size) (hn0 : n₀ ≤ w.heap.size) (hw : WRd w n₀ g A c ds bg KA kc bs) :
  Hands Fence.wide n Tryz.prog 181 #[.pointer (some ⟨B1, 0, none⟩), .pointer (some ⟨B2, 0, none⟩)] (fun x : By => #[x.val]) ByOk (KeepsF n₀ B1 B2) (fun ys => ys.map (·.xs) = framesL (ds.map (·.p)) bg (bs.take k)) (bs.length + 1) w := fun l J W hW hY h0 =>
 frames1_in n hn l B1 B2 n₀ g A c ds bg KA kc bs k hk J W hY ((hW.cell (p := ⟨B1, 0, none⟩) hl1).trans h1) ((hW.cell (p := ⟨B2, 0, none⟩) hl2).trans h2) (Nat.lt_of_lt_of_le hl1 hW.size) (Nat.lt_of_lt_of_le hl2 hW.size) (Nat.le_trans hn0 hW.size) (hw.below (hW.mono hn0)) h0
def TkI (w : World) (N0 : Nat) (p q : Value) (pre : List By) (W : World) : Prop :=
 (∃ v, Boxed W N0 22 v ∧ W.ownsRow N0 5 1 v (pre.map (·.xs)).flatten.length ((pre.map (·.xs)).flatten.map (.int .u8)) ∧ (pre.map (·.xs)).flatten.length ≤ 4200 * pre.length) ∧ Below N0 w W ∧ Boxed W (N0 + 1) 141 p ∧ Boxed W (N0 + 2) 3 q
def TkA (w : World) (N0 : Nat) (p q : Value) (fr : By → Act) (m : Nat) (pre : List By) (x : By) (a : Act) (W : World) : Prop := a = fr x ∧ TkI w N0 p q pre W ∧ ByOk x W
section
variable {w w' : World} {N0 b m : Nat} {p q : Value} {fr : By → Act} {pre : List By} {x : By}
theorem row_turned {row : Option Nat} {v : Value} {xs : List Int} (h : Row w w.heap.size v xs) (hg : w.grownBy w' row) (hr : ∀ r, row = some r → ∃ o : Obj, w.heap[r]? = some o ∧ o.isCells = false) : Row w' w'.heap.size v xs := by
 obtain ⟨A, c, rfl, h1, h2, h3, h4⟩ := h
 refine ⟨A, c, rfl, h1, h2, h3, fun h0 => ?_⟩
 obtain ⟨b, o, e, hb, hc⟩ := h4 h0
 refine ⟨b, o, e, Nat.lt_of_lt_of_le hb hg.size, fun i hi => hg.cell (hc i hi) fun e2 => ?_⟩
 obtain ⟨ob, h5, h6⟩ := hr b e2.symm
 have h7 := hc i hi
 simp only [World.cell?, h5] at h7
 cases ob <;> simp_all [Obj.isCells]
theorem tkI_own (hn : N0 ≤ w.heap.size) (hb : N0 ≤ b) : OwnFrom b (TkI w N0 p q) :=
 ((holdsRow_own N0 N0 22 5 1 (fun pre : List By => (pre.map (·.xs)).flatten.length) (fun pre => (pre.map (·.xs)).flatten.map (.int .u8)) (fun pre _ => (pre.map (·.xs)).flatten.length ≤ 4200 * pre.length)).from b).and
  ((ownFrom_below hn hb).and (((boxed_own (N0 + 1) 141 (fun _ => p)).from b).and ((boxed_own (N0 + 2) 3 (fun _ => q)).from b)))
theorem tkA_own {a : Act} (hn : N0 ≤ w.heap.size) (hb : N0 ≤ b) : OwnFrom b (fun (_ : Unit) W => TkA w N0 p q fr m pre x a W) := by
 rintro _ X Y row ⟨e, h1, h2, h3⟩ hg hr
 exact ⟨e, tkI_own hn hb pre X Y row h1 hg hr, row_turned h2 hg (fun r e => (hr r e).2), h3⟩
theorem tk_round {W w1 : World} {v v' : Value} (hn : N0 ≤ w.heap.size) (hv : Boxed W N0 22 v) (ho : W.ownsRow N0 5 1 v (pre.map (·.xs)).flatten.length ((pre.map (·.xs)).flatten.map (.int .u8))) (hl : (pre.map (·.xs)).flatten.length ≤ 4200 * pre.length) (hb : Below N0 w W) (h1 : Boxed W (N0 + 1) 141 p) (h2 : Boxed W (N0 + 2) 3 q) (hx : x.xs.length ≤ 4200)
  (ho' : w1.ownsRow N0 5 1 v' ((pre.map (·.xs)).flatten.length + x.xs.length) ((pre.map (·.xs)).flatten.map (.int .u8) ++ x.xs.map (.int .u8))) (hg : W.grownBy w1 v.ownBlock) :
  Boxed w1 N0 22 v ∧ KeepsFrom b W (w1.setCell ⟨N0, 0, none⟩ v') ∧ KeepsF N0 (N0 + 1) (N0 + 2) m W (w1.setCell ⟨N0, 0, none⟩ v') ∧ TkI w N0 p q (pre ++ [x]) (w1.setCell ⟨N0, 0, none⟩ v') := by
 have hnW : N0 ≤ W.heap.size := Nat.le_trans hn hb.size
 have e1 : 22 ≠ 5 := by decide
 have e2 : 141 ≠ 5 := by decide
 have e3 : 3 ≠ 5 := by decide
 obtain ⟨g1, g2, g3, g4⟩ := boxed_grown hv e1 ho hnW (Nat.le_refl _) ho' hg
 have k1 : Boxed w1 (N0 + 1) 141 p := h1.kept hg (h1.not_row e2 ho)
 have k2 : Boxed w1 (N0 + 2) 3 q := h2.kept hg (h2.not_row e3 ho)
 have k3 : Boxed (w1.setCell ⟨N0, 0, none⟩ v') (N0 + 1) 141 p := k1.other (by omega) v'
 have k4 : Boxed (w1.setCell ⟨N0, 0, none⟩ v') (N0 + 2) 3 q := k2.other (by omega) v'
 have hfl : ((pre ++ [x]).map (·.xs)).flatten = (pre.map (·.xs)).flatten ++ x.xs := by simp
 refine ⟨g1, ?_, ⟨g4, k3.trans (show W.heap[N0 + 1]? = _ from h1).symm, k4.trans (show W.heap[N0 + 2]? = _ from h2).symm⟩, ⟨v', g2, ?_, ?_⟩, hb.trans g4, k3, k4⟩
 ·refine ((KeepsOthers.of_grownBy hg fun j o ej hj => ?_).trans (KeepsOthers.setCell _ _ _)).from _
  rcases ho.2 with ⟨rfl, _⟩ | ⟨gg, cap, cur, rfl, _, hgb, _⟩
  ·simp [Value.ownBlock] at ej
  ·obtain rfl : gg = j := by simpa [Value.ownBlock] using ej
   rw [hgb] at hj
   cases hj
   rfl
 ·rw [hfl, List.length_append, List.map_append]; exact g3
 ·rw [hfl, List.length_append, List.length_append, List.length_singleton]; omega
end
section
variable {w w' : World} {n g c kc : Nat} {A KA : Option Addr} {ds : List Pd} {most : Int} {bg cl : Bool} {bs : List Bk}
theorem PartN.cut {S : Nat → Prop} (h : PartN (fun j => S j ∨ w.heap.size ≤ j) w w') : PartN S w w' := ⟨h.os, h.tape, h.output, h.size, fun i hi hn => h.block i hi (fun e => e.elim hn (fun e => by omega))⟩
theorem bkVs_drop (k : Nat) : bkVs (bs.drop k) = (bkVs bs).drop k := by unfold bkVs; rw [List.map_drop]
theorem WAt.begun (h : WAt w n g A c ds most bg cl KA kc bs) : WAt (w.setCell ⟨g, 2, none⟩ (.bool true)) n g A c ds most true cl KA kc bs := by
 have hg := grown_put w g 2 (.bool true)
 refine ⟨h.held.put 2 _, h.low, h.sig.below ((Below.refl n w).grown hg h.size (fun j e => by injection e with e; have := h.low; omega)), h.blk.nott (NotT.of_held h.held tne7) (NotT.of_held h.held tne8) (NotT.of_held h.held tne10) (fun b hb => (NotT.of_held h.held tne9).ne (h.blk.2 b hb).1) hg, h.dif⟩
theorem WAt.left {k n' kc' : Nat} {KA' : Option Addr} (h : WAt w n g A c ds most bg cl KA kc bs) (ho : w.ownsRow n' 25 1 (.slice KA' (bs.drop k).length kc') (bs.drop k).length (bkVs (bs.drop k))) (hn : n ≤ n') :
  WAt (w.setCell ⟨g, 3, none⟩ (.slice KA' (bs.drop k).length kc')) n g A c ds most bg cl KA' kc' (bs.drop k) := by
 have hg := grown_put w g 3 (.slice KA' (bs.drop k).length kc')
 have m4 := NotT.of_held h.held tne10
 refine ⟨h.held.put 3 _, h.low, h.sig.below ((Below.refl n w).grown hg h.size (fun j e => by injection e with e; have := h.low; omega)), ⟨own_nott (own_base ho hn) m4 hg, fun b hb => ?_⟩, fun i j x y q hi hj hij => ?_⟩
 ·have hb2 := h.blk.2 b (List.mem_of_mem_drop hb)
  exact hb2.nott (NotT.of_held h.held tne7) (NotT.of_held h.held tne8) ((NotT.of_held h.held tne9).ne hb2.1) hg
 ·rw [List.getElem?_drop] at hi hj
  exact h.dif (k + i) (k + j) x y q hi hj (by omega)
theorem WAt.turned {D : Nat} {o o' : Obj} (h : WAt w n g A c ds most bg cl KA kc bs) (hD : w.heap[D]? = some o) (ho : o.isCells = false) (hn : n ≤ D) : WAt (w.putObj D o') n g A c ds most bg cl KA kc bs := by
 have hg := grownBy_putObj' w D o'
 have hne : ∀ e, NotT w (some D) e := by
  rintro e j c f hj hh
  injection hj with hj
  subst hj
  rw [hD] at hh
  injection hh with hh
  rw [hh] at ho
  cases ho
 have hgd : some g ≠ some D := by
  intro e
  injection e with e
  subst e
  have := h.held
  unfold Held at this
  rw [hD] at this
  injection this with this
  rw [this] at ho
  cases ho
 exact ⟨h.held.grown hg hgd, h.low, h.sig.below ((Below.refl n w).grown hg h.size (fun j e => by injection e with e; omega)), h.blk.nott (hne _) (hne _) (hne _) (fun b hb => (hne _).ne (h.blk.2 b hb).1) hg, h.dif⟩
theorem drop_row {B k : Nat} (h : ERow w B (.slice KA bs.length kc) bs.length (bkVs bs)) (hk : k ≤ bs.length) :
  (kc = k → ERow w B (.slice KA 0 0) (bs.drop k).length (bkVs (bs.drop k)) ∧ (bs.drop k).length = 0) ∧ (kc ≠ k → ERow w B (.slice (KA.map (fun x => x.add k)) (bs.length - k) (kc - k)) (bs.length - k) (bkVs (bs.drop k))) := by
 obtain ⟨A1, c1, hv, h1, h2, h3, h4⟩ := h
 injection hv with e1 e2 e3
 subst e1 e3
 refine ⟨fun e => ?_, fun e => ⟨_, _, rfl, by omega, by omega, fun e2 => ?_, fun h0 => ?_⟩⟩
 ·have h0 : (bs.drop k).length = 0 := by rw [List.length_drop]; omega
  rw [h0]
  exact ⟨⟨KA, 0, rfl, Nat.le_refl _, Nat.zero_le _, fun _ => rfl, fun h => absurd h (by omega)⟩, rfl⟩
 ·cases KA with
  | none => have := h3 rfl; omega
  | some a => cases e2
 ·obtain ⟨b, o, rfl, hb, hc⟩ := h4 (by omega)
  refine ⟨b, o + k, by rw [Option.map_some, Go.WideShapes.add_plain], hb, fun i u hi => ?_⟩
  rw [bkVs_drop, List.getElem?_drop] at hi
  have := hc _ u hi
  rwa [← Nat.add_assoc] at this
end
def takeX (sig : List Pr) (bg : Bool) (bs : List Bk) : List Int := (framesL sig bg bs).flatten
def TakeGot (w : World) (n g : Nat) (A : Option Addr) (c : Nat) (ds : List Pd) (most : Int) (bg cl : Bool) (bs : List Bk) (k : Nat) (e : Ending) (w' : World) : Prop :=
 (∃ TA tc, e = .returned (.slice TA (takeX (ds.map (·.p)) bg (bs.take k)).length tc) ∧ w'.ownsRow w.heap.size 5 1 (.slice TA (takeX (ds.map (·.p)) bg (bs.take k)).length tc) (takeX (ds.map (·.p)) bg (bs.take k)).length ((takeX (ds.map (·.p)) bg (bs.take k)).map (.int .u8))) ∧
  (∃ KA' kc', WAt w' n g A c ds most true cl KA' kc' (bs.drop k) ∧ ∀ j, ob KA' = some j → w.heap.size ≤ j) ∧ PartN (fun j => j = g) w w'
theorem wtake_any {w : World} {n g c kc : Nat} {A KA : Option Addr} {ds : List Pd} {most : Int} {bg cl : Bool} {bs : List Bk} (h : WAt w n g A c ds most bg cl KA kc bs) (k : Nat) (hk : k ≤ bs.length) (hM : bs.length ≤ 1000000000) :
  Calls Tryz.prog 119 #[.pointer (some ⟨g, 0, none⟩), .int .i64 k] w (TakeGot w n g A c ds most bg cl bs k) := by
 obtain ⟨i8, hi8, hb0, hb1, hb2⟩ := info_parts Tryz.infoU8
 obtain ⟨N0, hN0⟩ : ∃ N0, w.heap.size = N0 := ⟨_, rfl⟩
 obtain ⟨w2, hw2⟩ : ∃ w2, ((w.alloc (.cells #[.slice none 0 0] 22)).alloc (.cells #[.pointer (some ⟨g, 0, none⟩)] 141)).alloc (.cells #[.int .i64 k] 3) = w2 := ⟨_, rfl⟩
 have s2 : w2.heap.size = N0 + 3 := by rw [← hw2]; simp [hN0]
 have b2 : Below N0 w w2 := by rw [← hw2, ← hN0]; exact (((Below.refl _ _).alloc (Nat.le_refl _) _).alloc (by simp) _).alloc (by simp; omega) _
 have v0 : Boxed w2 N0 22 (.slice none 0 0) := by rw [← hw2, ← hN0]; exact ((Boxed.new w 22 (.slice none 0 0)).alloc _).alloc _
 have v1 : Boxed w2 (N0 + 1) 141 (.pointer (some ⟨g, 0, none⟩)) := by
  have := (Boxed.new (w.alloc (.cells #[.slice none 0 0] 22)) 141 (.pointer (some ⟨g, 0, none⟩))).alloc (.cells #[.int .i64 k] 3)
  rw [World.size_alloc, hN0] at this
  rw [← hw2]
  exact this
 have v2 : Boxed w2 (N0 + 2) 3 (.int .i64 k) := by
  have := Boxed.new ((w.alloc (.cells #[.slice none 0 0] 22)).alloc (.cells #[.pointer (some ⟨g, 0, none⟩)] 141)) 3 (.int .i64 k)
  rw [World.size_alloc, World.size_alloc, hN0] at this
  rw [← hw2]
  exact this
 have hrd : WRd w2 N0 g A c ds bg KA kc bs := by rw [← hN0]; exact h.rd.below (by rw [hN0]; exact b2)
 have hglt : g < N0 := by rw [← hN0]; exact h.held.lt
 have HW := hid h
 have HM := hid hM
 refine (callsIn_wide (n := 5)).1 ?_
 refine callsIn_of_wp_marks Tryz.func119 rfl trivial ?_ rfl
 simp only [Tryz.ntmps119, List.size_toArray, List.length_cons, List.length_nil, Nat.reduceAdd, Nat.reduceSub, Array.replicate_succ, Array.replicate_zero, List.push_toArray, List.append_toArray, List.nil_append, List.cons_append]
 clear h hM
 gi_wp2_with (refine ⟨trivial, ?_⟩; gi_at_call 152; refine (callsIn_wide.2 (wframes_any _ _ _)).mono ?_; rintro e w3 ⟨rfl, rfl⟩)
 have hii : TkI w N0 (.pointer (some ⟨g, 0, none⟩)) (.int .i64 k) [] w2 := ⟨⟨_, v0, World.ownsRow_nil _ _ _ _, Nat.le_refl _⟩, b2, v1, v2⟩
 refine range_told rfl (by omega) (gf := 181) (lb := #[.pointer (some ⟨N0 + 1, 0, none⟩), .pointer (some ⟨N0 + 2, 0, none⟩)]) rfl trivial (enters_of Tryz.func181 (by kernel_rfl) rfl)
  (frames_hands (5 - 1) (by omega) (N0 + 1) (N0 + 2) N0 g A c ds bg KA kc bs k hk w2 v1.cell v2.cell (by omega) (by omega) (by omega) hrd) (fun _ => rfl) (fun h k => h.trans k) (fun m W l o o' hl hm h hc => KeepsF.turn (w := w2) (by omega) (by omega) (by omega) m W l o o' hl hm h hc)
  (TkI w N0 (.pointer (some ⟨g, 0, none⟩)) (.int .i64 k)) (tkI_own (by omega) (by omega)) hii
  (TkA w N0 (.pointer (some ⟨g, 0, none⟩)) (.int .i64 k) (fun x => { tmps := #[.pointer (some ⟨g, 0, none⟩), .int .i64 k, undef, undef, .slice none 0 0, .pointer (some ⟨N0, 0, none⟩), x.val, .pointer (some ⟨g, 0, none⟩), .int .i64 k, .func (.func 181) #[] #[.pointer (some ⟨N0 + 1, 0, none⟩), .pointer (some ⟨N0 + 2, 0, none⟩)], x.val, undef, undef, undef, undef, undef, undef, undef, undef, undef, undef, undef, undef, undef, undef, undef, undef, undef], defers := [] }))
  (fun m pre x a' => tkA_own (by omega) (by omega)) ?take ?body ?done
 case take =>
  rintro l pre x W0 W K hI hb hR _ hK
  have hI2 : TkI w N0 (.pointer (some ⟨g, 0, none⟩)) (.int .i64 k) pre W := ownFrom_below' (tkI_own (b := w2.heap.size) (by omega) (by omega)) hI hb
  have HK := hid (hK { tmps := #[.pointer (some ⟨g, 0, none⟩), .int .i64 k, undef, undef, .slice none 0 0, .pointer (some ⟨N0, 0, none⟩), x.val, .pointer (some ⟨g, 0, none⟩), .int .i64 k, .func (.func 181) #[] #[.pointer (some ⟨N0 + 1, 0, none⟩), .pointer (some ⟨N0 + 2, 0, none⟩)], x.val, undef, undef, undef, undef, undef, undef, undef, undef, undef, undef, undef, undef, undef, undef, undef, undef, undef], defers := [] } W ((KeepsOthers.refl _).from _) (KeepsF.refl _ _ _ _ _) ⟨rfl, hI2, hR⟩)
  clear hK hI hb hR hI2 hrd
  gi_wp2
  exact HK.out
 case body =>
  rintro l m pre x a' W ⟨rfl, ⟨⟨v, hv, ho, hl⟩, hb, h1, h2⟩, hx, hxl, -⟩ hlen
  have hR := fun v' w1 ho' hg => tk_round (b := N0 + 3) (m := m) (v' := v') (w1 := w1) (x := x) (by omega) hv ho hl hb h1 h2 hxl ho' hg
  obtain ⟨XL, hXL⟩ : ∃ XL, (pre.map (·.xs)).flatten.length = XL := ⟨_, rfl⟩
  rw [hXL] at hR ho hl
  clear hXL
  have HR := hid hR
  have HO := hid ho
  have HX := hid hx
  have HL := hid hl
  have HXL := hid hxl
  have hnW : N0 ≤ W.heap.size := Nat.le_trans (by omega) hb.size
  have hcB := hv.cell
  have HLEN := hid hlen
  clear hR ho hx hl hxl hb h1 h2 hv hrd hii hlen
  gi_wp2_with (gi_at_builtin; refine wpListIn_append_row _ rfl _ _ 22 rfl N0 5 i8 _ Tryz.underlying22 hi8 hb0 hb1 hb2 rfl v _ _ rfl HO.out _ _ x.xs rfl HX.out (by have := HL.out; have := HXL.out; have := HLEN.out; have := HM.out; omega) hnW ?_
               intro v' w1 ho1 hg1 _; obtain ⟨q1, q2, q3, q4⟩ := HR.out v' w1 ho1 hg1
               obtain ⟨A1, c1, ev⟩ := own_form ho1
               subst ev
               have hc1' := q1.cell; have hf1' := q1.frozen; have HKF := hid q2; have HKP := hid q3; have HBT := hid q4; clear ho1 hg1 q1 q2 q3 q4)
  exact ⟨by rw [s2]; exact HKF.out, HKP.out, HBT.out⟩
 case done =>
  rintro D ys W hD hS ⟨⟨v, hv, ho, hl⟩, hbe, h1, h2⟩ hK
  obtain ⟨X, hX⟩ : ∃ X, (ys.map (·.xs)).flatten = X := ⟨_, rfl⟩
  have HXE := hid (show X = takeX (ds.map (·.p)) bg (bs.take k) by rw [← hX, hS]; rfl)
  rw [hX] at ho
  have HWW := hid (HW.out.below (by rw [hN0]; exact hbe))
  have HBE := hid hbe
  obtain ⟨TA, tc, rfl⟩ := own_form ho
  have HO := hid ho
  have hgW : g < W.heap.size := HWW.out.held.lt
  have hfg := HWW.out.held.frozen 2
  have hg2 := HWW.out.cells.2.2.1
  obtain ⟨W5, hW5⟩ : ∃ W5, W.setCell ⟨g, 2, none⟩ (.bool true) = W5 := ⟨_, rfl⟩
  have HW5 : Hid (WAt W5 n g A c ds most true cl KA kc bs) := hid (by rw [← hW5]; exact HWW.out.begun)
  have gr5 : W.grownBy W5 (some g) := by rw [← hW5]; exact grown_put W g 2 _
  have HGR5 := hid gr5
  have y3 := HW5.out.cells.2.2.2.1
  have hg5 := HW5.out.held.lt
  have HNB := hid (show NotT W (some g) 5 from NotT.of_held HWW.out.held (by decide))
  have hv5 : Boxed W5 N0 22 (.slice TA X.length tc) := hv.kept gr5 (fun e => by injection e with e; omega)
  have hK5 : W5.heap[D]? = some (.deferred (some [])) := (gr5.block D (Array.getElem?_eq_some_iff.1 hK).1 (fun e => by injection e with e; omega)).trans hK
  have HO5 := hid (own_nott ho (NotT.of_held HWW.out.held (by decide)) gr5)
  have HV5 := hid hv5
  have HK5 := hid hK5
  obtain ⟨-, kl1, kl2⟩ := (ERow.of_own HW5.out.blk.1).len
  have HDR := hid (drop_row (ERow.of_own HW5.out.blk.1) hk)
  obtain ⟨r, hr⟩ : ∃ r, (bs.drop k).length = r := ⟨_, rfl⟩
  have HRL := hid (show r = bs.length - k by rw [← hr, List.length_drop])
  rw [hr] at HDR
  have HBC : Hid (∀ C cc r', ERow W5 W5.heap.size (.slice C r' cc) r (bkVs (bs.drop k)) → r' = r → Calls Tryz.prog 153 #[.slice C r' cc] W5 fun e w' => ∃ C2 c2, e = .returned (.slice C2 r c2) ∧ w'.ownsRow W5.heap.size 25 1 (.slice C2 r c2) r (bkVs (bs.drop k)) ∧ Below W5.heap.size W5 w') := hid fun C cc r' h1 h => by
   subst h
   have hb := bclone_any W5 C cc (bs.drop k) (by rw [hr]; exact h1) (by have := HM.out; rw [List.length_drop]; omega)
   rw [hr] at hb
   exact hb
  have HRR := hid hr
  have HLF := hid (fun (w6 : World) C2 c2 (h : WAt w6 n g A c ds most true cl KA kc bs) (ho : w6.ownsRow W5.heap.size 25 1 (.slice C2 r c2) r (bkVs (bs.drop k))) => show WAt (w6.setCell ⟨g, 3, none⟩ (.slice C2 r c2)) n g A c ds most true cl C2 c2 (bs.drop k) by
   have := h.left (k := k) (n' := W5.heap.size) (KA' := C2) (kc' := c2) (by rw [HRR.out]; exact ho) HW5.out.size
   rw [HRR.out] at this
   exact this)
  clear hr
  have HM2 := hid HM.out
  clear ho hv hbe h1 h2 hS hX hl gr5 hv5 hK5 hrd hii hK
  rcases (show kc = k ∨ ¬ kc = k by omega) with rfl | hkk
  ·have HD1 := hid (HDR.out.1 rfl)
   gi_wp2_with fail
   refine ⟨trivial, ?_⟩
   refine (callsIn_wide.2 (HBC.out _ _ _ HD1.out.1 HD1.out.2.symm)).mono ?_
   rintro e w6 ⟨C2, c2, rfl, hown6, hb6⟩
   have h6 := HW5.out.below hb6
   have y6 := h6.held.frozen 3
   have z6 := h6.cells.2.2.2.1
   have hg6 := h6.held.lt
   have v6 := (show Boxed w6 N0 22 (.slice TA X.length tc) from (hb6.block N0 HV5.out.lt).trans HV5.out).cell
   have HOWN6 := hid hown6
   have HB6 := hid hb6
   have HW6 := hid h6
   clear hown6 hb6 h6
   gi_wp2
   have HW7 := hid (HLF.out w6 C2 c2 HW6.out HOWN6.out)
   have gr7 := grown_put w6 g 3 (.slice C2 r c2)
   have hK7 : (w6.setCell ⟨g, 3, none⟩ (.slice C2 r c2)).heap[D]? = some (.deferred (some [])) := (gr7.block D (Nat.lt_of_lt_of_le (Array.getElem?_eq_some_iff.1 HK5.out).1 HB6.out.size) (fun e => by injection e with e; omega)).trans ((HB6.out.block D (Array.getElem?_eq_some_iff.1 HK5.out).1).trans HK5.out)
   refine ⟨by simp, .inl ⟨_, _, rfl, run_takeDeferred hK7, ?_⟩⟩
   refine ⟨_, results_tmp rfl _ _ _, ?_⟩
   refine ⟨⟨TA, tc, by rw [← HXE.out]; rfl, ?_⟩, ⟨C2, c2, HW7.out.turned hK7 rfl (Nat.le_trans (Nat.le_trans HW5.out.low (Nat.le_of_lt hglt)) (by omega)), fun j hj => ?_⟩, PartN.cut ?_⟩
   ·rw [← HXE.out]
    rw [hN0]
    exact ownsRow_putObj (own_nott (own_below HO5.out HB6.out) (NotT.of_held HW6.out.held (by decide)) gr7) _ hK7 rfl
   ·have h1 := (World.ownsRow.lt HOWN6.out j (by rw [ob_own]; exact hj)).1
    have h2 := HGR5.out.size
    have h3 := HBE.out.size
    omega
   ·refine (((((PartN.of_below (by rw [hN0]; exact HBE.out)).trans (PartN.of_grown HGR5.out (S := fun j => j = g ∨ w.heap.size ≤ j) (fun j e => by injection e with e; exact .inl e.symm))).trans (PartN.of_below HB6.out)).trans (PartN.put (.inl rfl) 3 _)).trans (PartN.of_grown (grownBy_putObj' _ D _) (fun j e => by injection e with e; exact .inr (by omega))))
  ·have HD1 : Hid (ERow W5 W5.heap.size (.slice (KA.map (fun x => x.add k)) (bs.length - k) (kc - k)) r (bkVs (bs.drop k))) := hid (by rw [HRL.out]; have := HDR.out.2 hkk; exact this)
   gi_wp2_with fail
   refine ⟨trivial, ?_⟩
   refine (callsIn_wide.2 (HBC.out _ _ _ HD1.out HRL.out.symm)).mono ?_
   rintro e w6 ⟨C2, c2, rfl, hown6, hb6⟩
   have h6 := HW5.out.below hb6
   have y6 := h6.held.frozen 3
   have z6 := h6.cells.2.2.2.1
   have hg6 := h6.held.lt
   have v6 := (show Boxed w6 N0 22 (.slice TA X.length tc) from (hb6.block N0 HV5.out.lt).trans HV5.out).cell
   have HOWN6 := hid hown6
   have HB6 := hid hb6
   have HW6 := hid h6
   clear hown6 hb6 h6
   gi_wp2
   have HW7 := hid (HLF.out w6 C2 c2 HW6.out HOWN6.out)
   have gr7 := grown_put w6 g 3 (.slice C2 r c2)
   have hK7 : (w6.setCell ⟨g, 3, none⟩ (.slice C2 r c2)).heap[D]? = some (.deferred (some [])) := (gr7.block D (Nat.lt_of_lt_of_le (Array.getElem?_eq_some_iff.1 HK5.out).1 HB6.out.size) (fun e => by injection e with e; omega)).trans ((HB6.out.block D (Array.getElem?_eq_some_iff.1 HK5.out).1).trans HK5.out)
   refine ⟨by simp, .inl ⟨_, _, rfl, run_takeDeferred hK7, ?_⟩⟩
   refine ⟨_, results_tmp rfl _ _ _, ?_⟩
   refine ⟨⟨TA, tc, by rw [← HXE.out]; rfl, ?_⟩, ⟨C2, c2, HW7.out.turned hK7 rfl (Nat.le_trans (Nat.le_trans HW5.out.low (Nat.le_of_lt hglt)) (by omega)), fun j hj => ?_⟩, PartN.cut ?_⟩
   ·rw [← HXE.out]
    rw [hN0]
    exact ownsRow_putObj (own_nott (own_below HO5.out HB6.out) (NotT.of_held HW6.out.held (by decide)) gr7) _ hK7 rfl
   ·have h1 := (World.ownsRow.lt HOWN6.out j (by rw [ob_own]; exact hj)).1
    have h2 := HGR5.out.size
    have h3 := HBE.out.size
    omega
   ·refine (((((PartN.of_below (by rw [hN0]; exact HBE.out)).trans (PartN.of_grown HGR5.out (S := fun j => j = g ∨ w.heap.size ≤ j) (fun j e => by injection e with e; exact .inl e.symm))).trans (PartN.of_below HB6.out)).trans (PartN.put (.inl rfl) 3 _)).trans (PartN.of_grown (grownBy_putObj' _ D _) (fun j e => by injection e with e; exact .inr (by omega))))
end
open Go.RowKit Go.ChangeShapes Go.WideShapes
set_option linter.unusedVariables false
theorem pred_nil (w : World) (n : Nat) : PredRow w n (.slice none 0 0) [] := ⟨none, 0, rfl, Nat.le_refl _, Nat.zero_le _, fun _ => rfl, fun h => absurd h (by simp), by simp⟩
section
variable {w : World} {n g c kc : Nat} {A KA : Option Addr} {ds : List Pd} {most : Int} {bg cl : Bool} {bs : List Bk}
theorem wClose_any (h : WAt w n g A c ds most bg cl KA kc bs) (hM : bs.length ≤ 1000000000) :
  Calls Tryz.prog 71 #[.pointer (some ⟨g, 0, none⟩)] w fun e w' =>
   (∃ TA tc, e = .returned (.slice TA (takeX (ds.map (·.p)) bg bs).length tc) ∧ w'.ownsRow w.heap.size 5 1 (.slice TA (takeX (ds.map (·.p)) bg bs).length tc) (takeX (ds.map (·.p)) bg bs).length ((takeX (ds.map (·.p)) bg bs).map (.int .u8))) ∧
   WAt w' n g none 0 [] 0 true true none 0 [] ∧ PartN (fun j => j = g) w w' := by
 obtain ⟨-, -, -, h3, -⟩ := h.cells
 have hlt := h.held.lt
 have ht := wtake_any h bs.length (Nat.le_refl _) hM
 unfold TakeGot at ht
 rw [List.take_length] at ht
 have HT := hid ht
 have hlow := h.low
 clear h ht
 generalize takeX (ds.map (·.p)) bg bs = X at HT ⊢
 go_enter Tryz.func71, Tryz.ntmps71
 go_wp2_with fail
 refine HT.out.mono ?_
 rintro e w1 ⟨⟨TA, tc, rfl, hown⟩, ⟨KA', kc', hw, hob⟩, hp⟩
 have hh := hw.held
 have HO := hid hown
 have HW := hid hw
 have HP := hid hp
 have c0 := hw.cells.1
 have c1 := hw.cells.2.1
 have c2 := hw.cells.2.2.1
 have c3 := hw.cells.2.2.2.1
 have c4 := hw.cells.2.2.2.2
 obtain ⟨f0, f1, f2, f3, f4⟩ := cF5 hh
 have hgl := hh.lt
 clear hown hw hob hp hh
 go_wp2_with fail
 go_ret
 have hh := HW.out.held
 have gr : w1.grownBy (((((w1.setCell ⟨g, 0, none⟩ (.slice none 0 0)).setCell ⟨g, 1, none⟩ (.int .i64 0)).setCell ⟨g, 2, none⟩ (.bool true)).setCell ⟨g, 3, none⟩ (.slice none 0 0)).setCell ⟨g, 4, none⟩ (.bool true)) (some g) :=
  grown_trans (grown_trans (grown_trans (grown_trans (grown_put _ _ _ _) (grown_put _ _ _ _)) (grown_put _ _ _ _)) (grown_put _ _ _ _)) (grown_put _ _ _ _)
 exact ⟨⟨TA, tc, rfl, own_nott HO.out (NotT.of_held hh (by decide)) gr⟩, ⟨((((hh.put 0 _).put 1 _).put 2 _).put 3 _).put 4 _, hlow, pred_nil _ _, OwnK.nil _ _, fun i j x y k hi => by simp at hi⟩, HP.out.trans (PartN.of_grown gr (fun j e => by injection e with e; exact e.symm))⟩
end
def ApK (bs : List Bk) : Prop := ∀ (i j : Nat) (x y : Bk) (k : Nat), bs[i]? = some x → bs[j]? = some y → i ≠ j → ob x.A = some k → ob y.A ≠ some k
theorem ApK.nil : ApK [] := fun i j x y k h => by simp at h
theorem ApK.snoc {bs : List Bk} {b : Bk} (h : ApK bs) (hn : ∀ q, ob b.A = some q → ∀ x ∈ bs, ob x.A ≠ some q) : ApK (bs ++ [b]) := by
 intro i j x y k hi hj hij hx hy
 have two : ∀ (i : Nat) (x : Bk), (bs ++ [b])[i]? = some x → bs[i]? = some x ∨ i = bs.length ∧ x = b := fun i x hi => by
  by_cases hl : i < bs.length
  ·rw [List.getElem?_append_left hl] at hi
   exact .inl hi
  ·have h1 := (List.getElem?_eq_some_iff.1 hi).1
   rw [List.length_append, List.length_singleton] at h1
   have h2 : i = bs.length := by omega
   subst h2
   rw [List.getElem?_append_right (Nat.le_refl _), Nat.sub_self] at hi
   injection hi with hi
   exact .inr ⟨rfl, hi.symm⟩
 rcases two i x hi with h1 | ⟨h1, h2⟩
 ·rcases two j y hj with h3 | ⟨h3, h4⟩
  ·exact h i j x y k h1 h3 hij hx hy
  ·rw [h4] at hy
   exact hn k hy x (List.mem_of_getElem? h1) hx
 ·rw [h2] at hx
  rcases two j y hj with h3 | ⟨h3, h4⟩
  ·exact hn k hx y (List.mem_of_getElem? h3) hy
  ·omega
def BkGotA (w : World) (r : List (List Pm) × Int) (e : Ending) (W' : World) : Prop :=
 ∃ A c bs, e = .returned (.tuple #[.slice A bs.length c, .int .i64 r.2]) ∧ OwnK W' w.heap.size (.slice A bs.length c) bs ∧ bs.map (fun b => b.ps.map (·.p)) = r.1.map (List.map (·.p)) ∧ Below w.heap.size w W' ∧ ApK bs
def BkRelA (w : World) (N n m : Nat) (sig : List Pr) (most : Int) (As : Option Addr) (cs : Nat) (ks : List Nat) (R : List (List Pn)) (gk : Nat) (tv bv iv : Value) (wr : World) : Prop :=
 ∃ (qs : List Pm) (cr : Nat) (A2 : Option Addr) (bs : List Bk) (cc : Nat) (A1 : Option Addr) (k : Nat) (ms : List Nat), tv = .slice A2 qs.length cr ∧ bv = .slice A1 bs.length cc ∧ iv = .int .i64 k ∧ qs.length ≤ cr ∧ cr ≤ 9223372036854775807 ∧ k ≤ m ∧ Hid (m - k ≤ gk) ∧
  Hid (bs.length + qs.length ≤ n) ∧ Hid (ks.drop k = ms) ∧ Hid (CutC sig most qs ms) ∧ Hid (TrRow w N (.slice A2 qs.length cr) qs) ∧ Hid (TrFit qs) ∧ Hid (wr.ownsRow N 3 1 (.slice As m cs) m (szVs ks)) ∧ Hid (OwnK wr N (.slice A1 bs.length cc) bs) ∧
  Hid (bs.map (fun b => b.ps.map (·.p)) ++ (cutsOf ms qs).map (List.map (·.p)) = R) ∧ Hid (Below N w wr) ∧ Hid (ApK bs)
theorem BkRelA.next {w w4 w5 : World} {N n m cr cs c5 k z cc r4 c4 : Nat} {sig : List Pr} {most : Int} {As A1 A2 A4 A5 : Option Addr} {ks ms : List Nat} {R : List (List Pn)} {qs : List Pm} {bs : List Bk} {b : Bk}
  (hq : qs.length ≤ cr) (hcr : cr ≤ 9223372036854775807) (hk : k < m) (hbn : bs.length + qs.length ≤ n) (hms : ks.drop k = z :: ms) (hz1 : 1 ≤ z) (hzl : z ≤ qs.length) (hct : CutC sig most (qs.drop z) ms)
  (htq : TrRow w N (.slice A2 qs.length cr) qs) (hft : TrFit qs) (hks : w4.ownsRow N 3 1 (.slice As m cs) m (szVs ks)) (hok : OwnK w4 N (.slice A1 bs.length cc) bs) (hob : OwnT w4 N b.val b.ps) (hbp : b.ps.map (·.p) = (qs.take z).map (·.p))
  (ho : w5.ownsRow N 25 1 (.slice A5 (bs.length + 1) c5) (bs.length + 1) (bkVs (bs ++ [b]))) (hg : w4.grownBy w5 (Value.slice A1 bs.length cc).ownBlock)
  (hr : bs.map (fun b => b.ps.map (·.p)) ++ (cutsOf (z :: ms) qs).map (List.map (·.p)) = R) (hb : Below N w w4) (hN : N ≤ w4.heap.size) (h1 : r4 = qs.length - z) (h2 : c4 = cr - z) (hA : cr = z ∨ A4 = A2.map (fun x => x.add (z * 2))) (hap : ApK bs) (hnw : ∀ q, ob b.A = some q → ∀ x ∈ bs, ob x.A ≠ some q) :
  BkRelA w N n m sig most As cs ks R (m - (k + 1)) (.slice A4 r4 c4) (.slice A5 (bs.length + 1) c5) (.int .i64 ((k : Int) + 1)) w5 := by
 have hdl : (qs.drop z).length = r4 := by rw [List.length_drop]; omega
 have htd := htq.drop (k := z) (A' := A4) hzl hA
 have e1 : 3 ≠ 25 := by decide
 have hms2 : ks.drop (k + 1) = ms := by
  have : (ks.drop k).drop 1 = ms := by rw [hms]; rfl
  rwa [List.drop_drop] at this
 have hOK := hok.more hob ho hg
 subst h1 h2
 refine ⟨qs.drop z, cr - z, A4, bs ++ [b], c5, A5, k + 1, ms, by rw [hdl], by rw [List.length_append]; rfl, by go_num, by omega, by omega, by omega, hid (Nat.le_refl _), hid (by rw [List.length_append, hdl]; simp; omega), hid hms2, hid hct, hid (by rw [hdl]; exact htd), hid (hft.drop z),
  hid (World.ownsRow.kept hks hg (own_unlike hks hok.1 e1)), hid hOK, hid ?_, hid (hb.grown hg hN (fun j e => (World.ownsRow.lt hok.1 j e).1)), hid (hap.snoc hnw)⟩
 rw [← hr, cutsOf, List.map_cons, List.map_append, List.append_assoc, List.map_cons, List.map_nil, hbp]
 rfl
section
variable (A : Option Addr) (c : Nat) (ds : List Pd) (T : Option Addr) (ct : Nat) (ps : List Pm) (most : Int) (w : World)
theorem cblocks_apart (hrow : PredRow w w.heap.size (.slice A ds.length c) ds) (ht : TrRow w w.heap.size (.slice T ps.length ct) ps) (hft : TrFit ps) :
  Calls Tryz.prog 118 #[.slice A ds.length c, .slice T ps.length ct, .int .i64 most] w (BkGotA w (blocksR (ds.map (·.p)) ps most)) := by
 obtain ⟨-, hc1, hc2⟩ := ht.1.len
 have HSZ := csizes_any A c ds T ct ps most w hrow ht hft.1
 unfold sizesR at HSZ
 unfold BkGotA blocksR
 by_cases hw : whyC (ds.map (·.p)) ps most = 0
 ·rw [if_pos hw] at HSZ ⊢
  have hcut := COk.cut _ (cok_of hw ht.fits) rfl
  have hmn := COk.length (cok_of hw ht.fits) _ rfl
  obtain ⟨N, hN⟩ : ∃ N, w.heap.size = N := ⟨_, rfl⟩
  obtain ⟨ks, hks⟩ : ∃ ks, sizesC (ds.map (·.p)) ps most = ks := ⟨_, rfl⟩
  rw [hks] at HSZ hcut hmn ⊢
  obtain ⟨m, hm⟩ : ∃ m, ks.length = m := ⟨_, rfl⟩
  have HSZ2 : Calls Tryz.prog 151 #[.slice A ds.length c, .slice T ps.length ct, .int .i64 most] w fun e W' => ∃ As cs, e = .returned (.tuple #[.slice As m cs, .int .i64 0]) ∧ W'.ownsRow N 3 1 (.slice As m cs) m (szVs ks) ∧ Below N w W' := by rw [← hm, ← hN]; exact HSZ
  have HSZ := hid HSZ2
  obtain ⟨R, hR⟩ : ∃ R, (cutsOf ks ps).map (List.map (·.p)) = R := ⟨_, rfl⟩
  have hRR : ((cutsOf ks ps, (0 : Int)).1).map (List.map (·.p)) = R := hR
  rw [hN] at ht ⊢
  rw [hRR]
  obtain ⟨i1, hi1, hy0, hy1, hy2⟩ := info_parts Tryz.infoPoints
  have HTR := hid ht
  have HCUT := hid hcut
  have HFT := hid hft
  have HR := hid hR
  have HM := hid hm
  have hpl := hft.1
  have hwN : N ≤ w.heap.size := by omega
  obtain ⟨n, hn⟩ : ∃ n, ps.length = n := ⟨_, rfl⟩
  rw [hn] at HSZ HTR hc1 hpl ⊢
  rw [hm, hn] at hmn
  have HN := hid hn
  clear hrow ht hft hcut hw hks HSZ2 hR hRR hm hn hN
  go_enter Tryz.func118, Tryz.ntmps118
  go_wp2_with fail
  refine HSZ.out.mono ?_
  rintro e w1 ⟨As, cs, rfl, hown, hb1⟩
  have HOWN := hid hown
  have HB1 := hid hb1
  clear hown hb1
  go_wp2_with fail
  have BNEXT := @BkRelA.next w
  go_loopg [1, 10, 25] m (fun gk tv bv iv wr => BkRelA w N n m (ds.map (·.p)) most As cs ks R gk tv bv iv wr)
  case atStart => exact ⟨ps, ct, T, [], 0, none, 0, ks, by rw [HN.out], rfl, rfl, by rw [HN.out]; exact hc1, hc2, Nat.zero_le _, hid (Nat.le_refl _), hid (by rw [HN.out]; simp), hid rfl, HCUT, hid (by rw [HN.out]; exact HTR.out), HFT, HOWN, hid (OwnK.nil _ _), hid (by rw [List.map_nil, List.nil_append]; exact HR.out), HB1, hid ApK.nil⟩
  case round =>
   obtain ⟨qs, cr, A2, bs, cc, A1, k, ms, rfl, rfl, rfl, hq, hcr, hkm, HGK, HBN, HMS, HCT, HTQ, HFQ, HKS, HOK, HRR, HB, HAP⟩ := hrel
   by_cases hlt : k < m
   ·obtain ⟨z, hz⟩ : ∃ z, ks[k]? = some z := ⟨_, List.getElem?_eq_getElem (by rw [HM.out]; exact hlt)⟩
    obtain ⟨ms2, hms2⟩ : ∃ ms2, ms = z :: ms2 := ⟨ks.drop (k + 1), by
     rw [← HMS.out, List.drop_eq_getElem_cons (by rw [HM.out]; exact hlt)]
     rw [List.getElem?_eq_getElem (by rw [HM.out]; exact hlt)] at hz
     injection hz with hz
     rw [hz]⟩
    subst hms2
    obtain ⟨hcq, hl0, hfz, hct2⟩ := HCT.out.inv
    have hf := hcq.first hl0
    rw [hfz] at hf
    have hz1 := hf.1
    have hzl := hf.2.1
    have hzc : z ≤ cr := Nat.le_trans hzl hq
    have HCT2 := hid hct2
    obtain ⟨b, o, rfl, hb, hcell⟩ := (ERow.of_own HKS.out).block (by omega)
    have x0 := hcell k _ (szVs_at hz)
    have htl : (qs.take z).length = z := by rw [List.length_take]; omega
    have hnw : N ≤ wr.heap.size := Nat.le_trans hwN HB.out.size
    have hcl := tclone_any A2 cr (qs.take z) wr (((HTQ.out.take hzl).below HB.out).more hnw) (HFQ.out.take z)
    rw [htl] at hcl
    have HCL := hid hcl
    clear hcq hl0 hfz hct2 hf hcell hz htl hcl
    rcases (show z = cr ∨ ¬ cr = z by omega) with rfl | hcz
    all_goals (
    go_wp2_with fail
    refine HCL.out.mono ?_
    rintro e w2 ⟨A5, c5, es, rfl, hOT, hep, hb2⟩
    have zz := hb2.size
    have ba := (Below.refl w2.heap.size w2).alloc (Nat.le_refl _) (.cells #[.slice A5 es.length c5] 25)
    have HO := hid ((HOK.out.below hb2).below ba)
    have HKS2 := hid (own_below (own_below HKS.out hb2) ba)
    have HOT := hid ((hOT.base hnw).below ba)
    have HB2 := hid ((HB.out.trans (hb2.mono hnw)).trans (ba.mono (by omega)))
    have HEP := hid hep
    have HNW := hid (show ∀ q, ob A5 = some q → ∀ x ∈ bs, ob x.A ≠ some q from fun q hq x hx e => by
     have h1 := (World.ownsRow.lt hOT.1 q (by rw [ob_own]; exact hq)).1
     have h2 := (World.ownsRow.lt (HOK.out.2 x hx).1 q (by rw [ob_own]; exact e)).2
     omega)
    have HER := hid (ERow.new w2 25 [.slice A5 es.length c5] (n := 1) (by unfold maxLen; omega))
    clear hOT hep hb2 ba x0
    go_wp2_with (at_builtin; refine wpList_append_erow _ rfl _ _ 198 25 rfl N i1 (.slice none 0 0) 1 24 Tryz.underlying198 hi1 hy0 hy1 hy2 rfl (by decide) (.slice A1 bs.length cc) bs.length (bkVs bs) (by rfl) HO.out.1 (w2.heap.size + 1) (.slice (some ⟨w2.heap.size, 0, none⟩) 1 1) 1 [.slice A5 es.length c5] (by rfl) (by simpa using HER.out) rfl (by simp [Value.oneCell']) (by have := HBN.out; unfold maxLen; omega) (by have := HBN.out; omega) (by rw [World.size_alloc]; omega) (bs.length + 1) rfl (bkVs (bs ++ [⟨A5, c5, es⟩])) (bkVs_snoc bs ⟨A5, c5, es⟩) ?_; intro A6 c6 w6 hown6 hg6 hat6; have HO6 := hid hown6; have HG6 := hid hg6; clear hown6 hg6 hat6))
    ·go_roundg (m - (k + 1))
     case measure => have := HGK.out; omega
     case rel => exact BNEXT (b := ⟨A5, c5, es⟩) hq hcr hlt HBN.out HMS.out hz1 hzl HCT2.out HTQ.out HFQ.out HKS2.out HO.out HOT.out HEP.out HO6.out HG6.out HRR.out HB2.out (by rw [World.size_alloc]; omega) (by omega) (by omega) (Or.inl rfl) HAP.out HNW.out
    ·go_roundg (m - (k + 1))
     case measure => have := HGK.out; omega
     case rel => exact BNEXT (b := ⟨A5, c5, es⟩) hq hcr hlt HBN.out HMS.out hz1 hzl HCT2.out HTQ.out HFQ.out HKS2.out HO.out HOT.out HEP.out HO6.out HG6.out HRR.out HB2.out (by rw [World.size_alloc]; omega) rfl rfl (Or.inr rfl) HAP.out HNW.out
   ·have hkm2 : m = k := by omega
    subst hkm2
    have h0 : ms = [] := by rw [← HMS.out, List.drop_of_length_le (by rw [HM.out]; exact Nat.le_refl _)]
    have hrr : bs.map (fun b => b.ps.map (·.p)) = R := by
     have := HRR.out
     rw [h0, cutsOf, List.map_nil, List.append_nil] at this
     exact this
    have HRF := hid hrr
    clear hrr h0
    go_wp2_with fail
    go_ret2
    exact ⟨A1, cc, bs, rfl, HOK.out, HRF.out, HB.out, HAP.out⟩
 ·rw [if_neg hw] at HSZ ⊢
  have hne : (whyC (ds.map (·.p)) ps most != 0) = true := bne_iff_ne.2 hw
  generalize whyC (ds.map (·.p)) ps most = C at HSZ hne ⊢
  have HSZ2 : Calls Tryz.prog 151 #[.slice A ds.length c, .slice T ps.length ct, .int .i64 most] w fun e W' => ∃ As cs, e = .returned (.tuple #[.slice As 0 cs, .int .i64 C]) ∧ W'.ownsRow w.heap.size 3 1 (.slice As 0 cs) 0 [] ∧ Below w.heap.size w W' := HSZ
  have HSZ := hid HSZ2
  clear hrow ht hw HSZ2
  go_enter Tryz.func118, Tryz.ntmps118
  go_wp2_with fail
  refine HSZ.out.mono ?_
  rintro e w1 ⟨As, cs, rfl, hown, hb1⟩
  clear hown
  go_wp2_with fail
  go_ret2
  exact ⟨none, 0, [], rfl, OwnK.nil _ _, rfl, hb1, ApK.nil⟩
end
section
variable (w : World) (A : Option Addr) (c : Nat) (ds : List Pd) (T : Option Addr) (ct : Nat) (ps : List Pm) (most : Int)
theorem wwhole_ok (hrow : PredRow w w.heap.size (.slice A ds.length c) ds) (ht : TrRow w w.heap.size (.slice T ps.length ct) ps) (hft : TrFit ps) (hy : whyC (ds.map (·.p)) ps most = 0) :
  Calls Tryz.prog 70 #[.slice A ds.length c, .slice T ps.length ct, .int .i64 most] w fun e w' => ∃ g KA kc bs, e = .returned (.tuple #[.pointer (some ⟨g, 0, none⟩), .int .i64 0]) ∧ WAt w' w.heap.size g A c ds 0 false false KA kc bs ∧ bs.map (fun b => b.ps.map (·.p)) = (cutsC (ds.map (·.p)) ps most).map (List.map (·.p)) ∧ Below w.heap.size w w' := by
 have hb := cblocks_apart A c ds T ct ps most w hrow ht hft
 unfold blocksR BkGotA at hb
 rw [if_pos hy] at hb
 have HB := hid hb
 have HR := hid hrow
 clear hb hrow ht hft hy
 go_enter Tryz.func70, Tryz.ntmps70
 go_wp2_with fail
 refine HB.out.mono ?_
 rintro e w1 ⟨A1, c1, bs, rfl, hk, hm, hb1, hap⟩
 have HK := hid hk
 have HMP := hid hm
 have HB1 := hid hb1
 have HAP := hid hap
 clear hk hm hb1 hap
 obtain ⟨u, hu⟩ : ∃ u, w1.alloc (.cells #[.slice A ds.length c, .int .i64 0, .bool false, .slice A1 bs.length c1, .bool false] 202) = u := ⟨_, rfl⟩
 have bu : Below w1.heap.size w1 u := by rw [← hu]; exact (Below.refl _ _).alloc (Nat.le_refl _) _
 have HU : Hid (WAt u w.heap.size w1.heap.size A c ds 0 false false A1 c1 bs) := hid ⟨by rw [← hu]; exact heap_alloc_new w1 _, HB1.out.size, (HR.out.below HB1.out).below (bu.mono HB1.out.size), HK.out.below bu, HAP.out⟩
 have HBU := hid (HB1.out.trans (bu.mono HB1.out.size))
 clear bu
 go_wp2_with fail
 go_ret2
 exact ⟨_, A1, c1, bs, rfl, HU.out, HMP.out, HBU.out⟩
def blkX (sig : List Pr) (L : List (List Pm)) : List Int := ((frameS sig).1 :: L.map (frB sig)).flatten
theorem takeX_blk (sig : List Pr) (bs : List Bk) : takeX sig false bs = blkX sig (bs.map (·.ps)) := by
 unfold takeX framesL blkX
 rw [if_neg (by decide), List.map_map]
 rfl
def BlkOf (sig : List Pr) (ps : List Pm) (most : Int) (L : List (List Pm)) : Prop := L.map (List.map (·.p)) = (cutsC sig ps most).map (List.map (·.p)) ∧ ∀ b ∈ L, ∀ p ∈ b, p.Fits ∧ ∀ e ∈ p.evs, ∀ a ∈ e.args, a.Fits
theorem WAt.blk_of {w' : World} {n g : Nat} {KA : Option Addr} {kc : Nat} {bs : List Bk} {m2 : Int} {b1 b2 : Bool} (h : WAt w' n g A c ds m2 b1 b2 KA kc bs) (hm : bs.map (fun b => b.ps.map (·.p)) = (cutsC (ds.map (·.p)) ps most).map (List.map (·.p))) : BlkOf (ds.map (·.p)) ps most (bs.map (·.ps)) := by
 refine ⟨by rw [List.map_map]; exact hm, fun b hb => ?_⟩
 obtain ⟨x, hx, rfl⟩ := List.mem_map.1 hb
 exact (h.blk.2 x hx).row.fits
theorem wbytes_ok (hrow : PredRow w w.heap.size (.slice A ds.length c) ds) (ht : TrRow w w.heap.size (.slice T ps.length ct) ps) (hft : TrFit ps) (hl : ps.length ≤ 1000000) (hy : whyC (ds.map (·.p)) ps most = 0) :
  Calls Tryz.prog 43 #[.slice A ds.length c, .slice T ps.length ct, .int .i64 most] w fun e w' => ∃ TA tc L, e = .returned (.tuple #[.slice TA (blkX (ds.map (·.p)) L).length tc, .int .i64 0]) ∧ Row w' w'.heap.size (.slice TA (blkX (ds.map (·.p)) L).length tc) (blkX (ds.map (·.p)) L) ∧ BlkOf (ds.map (·.p)) ps most L ∧ Below w.heap.size w w' := by
 have hck := COk.length (cok_of hy ht.fits) _ rfl
 have HLN := hid (show ∀ (bs : List Bk), bs.map (fun b => b.ps.map (·.p)) = (cutsC (ds.map (·.p)) ps most).map (List.map (·.p)) → bs.length ≤ 1000000000 from fun bs h => by
  have h1 := congrArg List.length h
  rw [List.length_map, List.length_map] at h1
  unfold cutsC at h1
  rw [cutsOf_length] at h1
  omega)
 have HW := hid (wwhole_ok w A c ds T ct ps most hrow ht hft hy)
 clear hrow ht hft hy hck
 go_enter Tryz.func43, Tryz.ntmps43
 go_wp2_with fail
 refine HW.out.mono ?_
 rintro e w1 ⟨g, KA, kc, bs, rfl, hw, hm, hb1⟩
 have HC1 := hid (wClose_any hw (HLN.out bs hm))
 rw [takeX_blk] at HC1
 have HLO := hid hw.low
 have HBK := hid (hw.blk_of A c ds ps most hm)
 have HB1 := hid hb1
 generalize bs.map (·.ps) = L at HC1 HBK
 clear hw hb1 hm
 obtain ⟨X, hX⟩ : ∃ X, blkX (ds.map (·.p)) L = X := ⟨_, rfl⟩
 rw [hX] at HC1
 have HX := hid hX
 clear hX
 go_wp2_with fail
 refine HC1.out.mono ?_
 rintro e w2 ⟨⟨TA, tc, rfl, hown⟩, hw2, hp⟩
 have HO := hid (Row.of_own hown)
 have HB2 := hid (HB1.out.trans (hp.low HB1.out.size (fun i hi e => by have := HLO.out; omega)))
 clear hown hw2 hp
 go_wp2_with fail
 go_ret2
 exact ⟨TA, tc, L, by rw [HX.out]; rfl, by rw [HX.out]; exact HO.out, HBK.out, HB2.out⟩
end
theorem cutsC_flat {sig : List Pr} {most : Int} : ∀ n {l : List Pm}, l.length = n → COk sig l most → (cutsC sig l most).flatten = l ∧ ∀ b ∈ cutsC sig l most, 0 < b.length := by
 intro n
 induction n using Nat.strongRecOn with
 | _ n ih =>
  intro l hn h
  rcases Nat.eq_zero_or_pos l.length with h0 | h0
  ·rw [List.eq_nil_of_length_eq_zero h0, cutsC_nil]
   simp
  ·have hf := h.first h0
   obtain ⟨e1, e2⟩ := ih (l.length - firstC sig l most) (by omega) (l := l.drop (firstC sig l most)) (by rw [List.length_drop]) (h.drop _)
   rw [h.cons h0, List.flatten_cons, e1, List.take_append_drop]
   refine ⟨rfl, fun b hb => ?_⟩
   rcases List.mem_cons.1 hb with rfl | hb
   ·rw [List.length_take]; omega
   ·exact e2 b hb
section
variable {sig : List Pr} {ps : List Pm} {most : Int} {L : List (List Pm)}
theorem blk_right (hc : COk sig ps most) (h : BlkOf sig ps most L) : (∀ b ∈ L, BOk b ∧ 0 < b.length ∧ (putB sig b).2 = 0) ∧ L.flatten.map (·.p) = ps.map (·.p) ∧ L.length ≤ ps.length := by
 obtain ⟨h1, h2⟩ := h
 have hg : GoodC sig most L := GoodC.same h1.symm (COk.cut _ hc rfl).good
 have hf := (cutsC_flat _ rfl hc).1
 refine ⟨fun b hb => ?_, ?_, ?_⟩
 ·obtain ⟨i, hi⟩ := List.mem_iff_getElem?.1 hb
  obtain ⟨b1, b2, b3, b4⟩ := (hg i b hi).1
  obtain ⟨c1, c2, c3⟩ := checkB_zero (putB_ok b4).1
  exact ⟨bok_of c2 c3 (h2 b hb), b1, b4⟩
 ·rw [List.map_flatten, h1, ← List.map_flatten, hf]
 ·have h3 := congrArg List.length h1
  rw [List.length_map, List.length_map] at h3
  have h4 := COk.length hc _ rfl
  unfold cutsC at h3
  rw [cutsOf_length] at h3
  omega
theorem blkX_bytes (h : BlkOf sig ps most L) : ∀ x ∈ blkX sig L, 0 ≤ x ∧ x < 256 := by
 intro x hx
 unfold blkX at hx
 obtain ⟨y, hy, hxy⟩ := List.mem_flatten.1 hx
 rcases List.mem_cons.1 hy with rfl | hy
 ·exact frameS_bytes sig x hxy
 ·obtain ⟨b, hb, rfl⟩ := List.mem_map.1 hy
  exact frB_bytes sig (h.2 b hb) x hxy
theorem flat_le : ∀ (M : List (List Int)), (∀ y ∈ M, y.length ≤ 4200) → M.flatten.length ≤ 4200 * M.length
 | [], _ => by simp
 | y :: M, h => by
  have h1 := flat_le M (fun z hz => h z (List.mem_cons_of_mem _ hz))
  have h2 := h y (List.mem_cons_self ..)
  rw [List.flatten_cons, List.length_append, List.length_cons]
  omega
theorem blkX_length (sig : List Pr) (L : List (List Pm)) : (blkX sig L).length ≤ 4200 * (1 + L.length) := by
 have h := flat_le ((frameS sig).1 :: L.map (frB sig)) (fun y hy => by
  rcases List.mem_cons.1 hy with rfl | hy
  ·exact frameS_length sig
  ·obtain ⟨b, _, rfl⟩ := List.mem_map.1 hy
   exact frB_length sig b)
 rw [List.length_cons, List.length_map] at h
 unfold blkX
 omega
theorem blkX_parts (hc : COk sig ps most) (h : BlkOf sig ps most L) {l : List Sg} (hl : PartsS (blkX sig L) 0 l) : l.length = 1 + L.length := by
 have hb := (blk_right hc h).1
 have hs := (checkT_zero.1 hc.ok.chk).1
 have hfit : ∀ f ∈ catW sig L, Fit f := by
  intro f hf
  rcases List.mem_cons.1 hf with rfl | hf
  ·exact ⟨.inl rfl, Nat.le_trans (encS_le hs).2 (by omega)⟩
  ·obtain ⟨b, hb2, rfl⟩ := List.mem_map.1 hf
   exact ⟨.inr rfl, (putB_ok (hb b hb2).2.2).2.1⟩
 obtain ⟨l2, h1, h2⟩ := parts_frames (catW sig L) [] hfit
 rw [List.nil_append, catW_bytes hs (fun b h => (hb b h).2.2)] at h1
 have e := hl.same h1
 subst e
 have h3 := congrArg List.length h2
 rw [List.length_map, List.length_map] at h3
 unfold catW at h3
 rw [List.length_cons, List.length_map] at h3
 omega
theorem blkX_read (hc : COk sig ps most) (h : BlkOf sig ps most L) {g : Gp} (hg : ofG (blkX sig L) g) : g = ⟨sig, true, ps.map (·.p), 0, 1 + L.length, []⟩ := by
 obtain ⟨l, hl, hg⟩ := hg
 obtain ⟨h1, h2, _⟩ := blk_right hc h
 have hs := (checkT_zero.1 hc.ok.chk).1
 rw [← h2]
 exact back_plain hs h1 (by rw [h2]; exact hc.ok.chk) hl hg
end
def sigQ : List Pr := [⟨[113], []⟩]
def pntQ : Pm := ⟨5, [], none, 0⟩
theorem chkQ : (checkT sigQ ([pntQ].map (·.p))).1 = 0 := by rfl
theorem payQ : payB [pntQ] = [5, 1, 0, 0] := by rfl
theorem putQ19 : (putB sigQ [pntQ]).2 = 0 := by
 have hc : checkB sigQ [pntQ] = 0 := by rfl
 unfold putB
 rw [if_pos hc, payQ, if_neg (by decide)]
theorem cokQ {most : Int} (h : 1 ≤ most) : COk sigQ [pntQ] most :=
 ⟨⟨chkQ, fun p hp => by
  rw [List.mem_singleton.1 hp]
  exact ⟨⟨by decide, by decide⟩, fun e he => by cases he⟩⟩, h, fun p hp => by
  rw [List.mem_singleton.1 hp]
  exact fitB_yes.2 putQ19⟩
theorem whyQ : whyC sigQ [pntQ] 1 = 0 := by
 have h := cokQ (most := 1) (Int.le_refl _)
 unfold whyC
 rw [if_neg (by omega), if_neg (by rw [h.ok.chk]; simp), if_pos (by unfold aloneC; exact List.all_eq_true.2 fun p hp => h.alone p hp)]
theorem blkQ {L : List (List Pm)} (h : BlkOf sigQ [pntQ] 1 L) : ∃ q : Pm, L = [[q]] ∧ q.p = ⟨5, []⟩ := by
 have h1 := h.1
 rw [(cokQ (Int.le_refl _)).single] at h1
 rcases L with _ | ⟨b, L⟩
 ·simp at h1
 ·rcases L with _ | ⟨b2, L⟩
  ·rcases b with _ | ⟨q, b⟩
   ·simp at h1
   ·rcases b with _ | ⟨q2, b⟩
    ·exact ⟨q, rfl, by simpa [pntQ] using h1⟩
    ·simp at h1
  ·simp at h1
theorem oneQ {L : List (List Pm)} (h : BlkOf sigQ [pntQ] 1 L) : ∃ S0 S1, PartsS (blkX sigQ L) 0 [S0, S1] ∧ (∀ s ∈ [S0, S1], s.isf = true) ∧ (gT [S0]).pts = [] ∧ gT [S0, S1] = ⟨sigQ, true, [⟨5, []⟩], 0, 2, []⟩ := by
 obtain ⟨l, hl⟩ := PartsS.exist (blkX_bytes h) _ 0 (Nat.le_refl _)
 have h2 := blkX_parts (cokQ (Int.le_refl _)) h hl
 have h3 := blkX_read (cokQ (Int.le_refl _)) h ⟨l, hl, rfl⟩
 obtain ⟨q, rfl, hq⟩ := blkQ h
 have hb := (blk_right (cokQ (Int.le_refl _)) h).1
 have hfit : ∀ f ∈ catW sigQ [[q]], Fit f := by
  intro f hf
  rcases List.mem_cons.1 hf with rfl | hf
  ·exact ⟨.inl rfl, Nat.le_trans (encS_le (l := sigQ) rfl).2 (by omega)⟩
  ·obtain ⟨b, hb2, rfl⟩ := List.mem_map.1 hf
   exact ⟨.inr rfl, (putB_ok (hb b hb2).2.2).2.1⟩
 obtain ⟨l2, k1, k2⟩ := parts_frames (catW sigQ [[q]]) [] hfit
 rw [List.nil_append, catW_bytes (sig := sigQ) rfl (fun b h => (hb b h).2.2)] at k1
 have e := hl.same k1
 subst e
 rcases l with _ | ⟨s0, l⟩
 ·simp at h2
 ·rcases l with _ | ⟨s1, l⟩
  ·simp at h2
  ·rcases l with _ | ⟨s2, l⟩
   ·unfold catW at k2
    simp only [List.map_cons, List.map_nil, List.cons.injEq, Prod.mk.injEq, and_true] at k2
    obtain ⟨⟨e1, e2, e3⟩, e4, e5, e6⟩ := k2
    refine ⟨s0, s1, hl, fun s hs => ?_, ?_, ?_⟩
    ·rcases List.mem_cons.1 hs with rfl | hs
     ·exact e1
     ·rw [List.mem_singleton.1 hs]; exact e4
    ·have h4 : takeS noG (sgJ s0) = ⟨sigQ, true, [], 0, 1, []⟩ := takeS_ok (g := noG) (s := sgJ s0) (g' := ⟨sigQ, true, [], 0, 0, []⟩) e1 (by
      have h5 := frameG_first (g := noG) (l := sigQ) rfl rfl
      show frameG noG s0.kind s0.pay = _
      rw [e2, e3, h5]
      rfl)
     show (takeS noG (sgJ s0)).pts = []
     rw [h4]
    ·have h4 : gT [s0, s1] = _ := h3
     rw [h4]
     rfl
   ·simp at h2
theorem StrAt.fd {w : World} {n s f t : Nat} {xs : List Int} {T : List Sg} {PA RA : Option Addr} (h : StrAt w n s f t xs T PA RA) : ∃ a o, Fd xs T a o := by
 obtain ⟨vh, a, o, SA, Sc, es, Pc, ps, Rc, -, hf, hk⟩ := h
 exact ⟨a, o, hf.2.2⟩
theorem argsQ {w u0 u1 : World} (hu0 : w.alloc (.cells #[.string { data := #[113] }, .slice none 0 0] 58) = u0) (hu1 : u0.alloc (.cells #[.int .u64 5, .slice none 0 0] 55) = u1) :
  PredRow u1 u1.heap.size (.slice (some ⟨w.heap.size, 0, none⟩) 1 1) [⟨⟨[113], []⟩, none, 0⟩] ∧ TrRow u1 u1.heap.size (.slice (some ⟨u0.heap.size, 0, none⟩) 1 1) [pntQ] ∧ TrFit [pntQ] ∧ Below w.heap.size w u1 := by
 have s0 : u0.heap.size = w.heap.size + 1 := by rw [← hu0, World.size_alloc]
 have b0 : Below w.heap.size w u0 := by rw [← hu0]; exact (Below.refl _ _).alloc (Nat.le_refl _) _
 have b1 : Below u0.heap.size u0 u1 := by rw [← hu1]; exact (Below.refl _ _).alloc (Nat.le_refl _) _
 have h0 : Held u0 w.heap.size 58 #[.string { data := #[113] }, .slice none 0 0] := by rw [← hu0]; exact heap_alloc_new w _
 have hpr : PredRow u0 u0.heap.size (.slice (some ⟨w.heap.size, 0, none⟩) 1 1) [⟨⟨[113], []⟩, none, 0⟩] := by
  exact row_one (d := ⟨⟨[113], []⟩, none, 0⟩) h0 ⟨none, 0, rfl, Nat.le_refl _, Nat.zero_le _, fun _ => rfl, fun h => absurd h (by simp)⟩ ⟨by unfold maxLen; simp, by simp, by simp⟩
 refine ⟨(hpr.below b1).more b1.size, ⟨?_, fun d hd => ?_⟩, ⟨by simp, fun d hd => ?_⟩, b0.trans (b1.mono (by omega))⟩
 ·have h := ERow.new u0 55 [.int .u64 5, .slice none 0 0] (n := 1) (by unfold maxLen; omega)
  rw [hu1] at h
  exact h
 ·rw [List.mem_singleton.1 hd]
  exact ⟨⟨ERow.nil _ _, fun e he => by cases he⟩, by decide, by decide⟩
 ·rw [List.mem_singleton.1 hd]
  exact ⟨by simp [pntQ], fun e he => by cases he⟩
section
variable {w w' : World} {Q : Nat → Prop} {N n s f t k : Nat} {xs : List Int} {T : List Sg} {PA RA : Option Addr} {v : Value} {us : List Value}
theorem StrQ.grown (h : StrQ Q w n s f t xs T PA RA) (ho : w.ownsRow N 55 2 v k us) (hna : ∀ j, v.ownBlock = some j → ¬ TS t PA RA j) (hg : w.grownBy w' v.ownBlock) : StrQ Q w' n s f t xs T PA RA := by
 obtain ⟨vh, a, o, SA, Sc, es, Pc, ps, Rc, hnf, hf, hk, hq⟩ := h
 have nt : ∀ e, 55 ≠ e → NotT w v.ownBlock e := fun e he => NotT.of_own ho he
 exact ⟨vh, a, o, SA, Sc, es, Pc, ps, Rc, hnf, ⟨hf.1.nott (nt _ (by decide)) hg, own_nott hf.2.1 (nt _ (by decide)) hg, hf.2.2⟩, hk.grown ho hna hg, hq⟩
theorem own_mid {m j : Nat} {e : TypeId} {sz : Nat} (h : w.ownsRow m e sz v j us) (hp : PartN Q w w') (hq : ∀ i, m ≤ i → i < w.heap.size → ¬ Q i) : w'.ownsRow m e sz v j us := by
 refine ⟨h.1, ?_⟩
 rcases h.2 with h2 | ⟨g, cap, cur, q1, q2, q3, r⟩
 ·exact .inl h2
 ·have hlt := (Array.getElem?_eq_some_iff.1 q3).1
  exact .inr ⟨g, cap, cur, q1, q2, (hp.block g hlt (hq g q2 hlt)).trans q3, r⟩
theorem OwnC.mid {m : Nat} {cs : List Cu} (h : OwnC w m v cs) (hp : PartN Q w w') (hq : ∀ i, m ≤ i → i < w.heap.size → ¬ Q i) : OwnC w' m v cs := ⟨own_mid h.1 hp hq, fun x hx => own_mid (h.2 x hx) hp hq⟩
end
section
variable {w : World} {R : Nat} {a b c d e v x : Value} {T : Array Value}
theorem res_thr (h4 : T[4]?.getD undef = v) (h5 : T[5]?.getD undef = .pointer (some ⟨R, 0, none⟩)) (h6 : T[6]?.getD undef = x) (hz : Held w R 28 #[a, b, c, d, e]) :
  (results Tryz.f26 T).run Tryz.prog w = .ok (.tuple #[v, .agg #[a, b, c, d, e], x]) w := by
 obtain ⟨z0, z1, z2, z3, z4⟩ := cC5 hz
 simp at z0 z1 z2 z3 z4
 simp [results, Tryz.results26, go_sem, h4, h5, h6, z0, z1, z2, z3, z4]
end
theorem one_irow {w u : World} (m : Int) (hu : w.alloc (.cells #[.int .i64 m] 3) = u) : IRow u u.heap.size (.slice (some ⟨w.heap.size, 0, none⟩) ([m] : List Int).length 1) [m] := by
 refine ⟨_, _, rfl, Nat.le_refl _, by unfold maxLen; simp, fun h => (by cases h), fun _ => ⟨_, 0, rfl, by rw [← hu, World.size_alloc]; omega, fun i z hz => ?_⟩⟩
 have hh : Held u w.heap.size 3 #[.int .i64 m] := by rw [← hu]; exact heap_alloc_new w _
 have hi : i = 0 := by have := (List.getElem?_eq_some_iff.1 hz).1; simpa using this
 subst hi
 have : z = .int .i64 m := by simpa using hz.symm
 rw [this]
 exact hh.cell 0
def Through (w : World) (xs : List Int) (e : Ending) (w' : World) : Prop :=
 ∃ Ao co qs G SA Sc es PA Pc ps RA Rc, e = .returned (.tuple #[.slice Ao (qs : List Pm).length co, GW G SA Sc es PA Pc ps RA Rc, .bool true]) ∧ ofG xs G ∧ qs.map (·.p) = G.pts ∧ OwnT w' w.heap.size (.slice Ao qs.length co) qs ∧ GOwn w' w.heap.size G SA Sc es PA Pc ps RA Rc ∧ Below w.heap.size w w'
theorem flat_cut {L : List (List Int)} {xs : List Int} (h : L.flatten = xs) (k : Nat) : (L.take k).flatten ++ (L.drop k).flatten = xs := by rw [← List.flatten_append, List.take_append_drop]; exact h
theorem through_any (w : World) (A : Option Addr) (c : Nat) (xs : List Int) (hbx : ∀ x ∈ xs, 0 ≤ x ∧ x < 256) (hl : xs.length ≤ 1000000000) (hpl : ∀ l, PartsS xs 0 l → l.length ≤ 90000) (hrow : Row w w.heap.size (.slice A xs.length c) xs) (z : Int) :
  Calls Tryz.prog 26 #[.slice A xs.length c, .int .i64 z] w (Through w xs) := by
 obtain ⟨iP, hiP, hpz, hps, hpb⟩ := info_parts Tryz.infoPoint
 obtain ⟨u0, hu0⟩ : ∃ u, w.alloc (.cells #[.slice none 0 0, .slice none 0 0, .int .i64 0, .int .i64 0, .slice none 0 0] 28) = u := ⟨_, rfl⟩
 have b0 : Below w.heap.size w u0 := by rw [← hu0]; exact (Below.refl _ _).alloc (Nat.le_refl _) _
 have s0 : u0.heap.size = w.heap.size + 1 := by rw [← hu0, World.size_alloc]
 have hR0 : Held u0 w.heap.size 28 #[.slice none 0 0, .slice none 0 0, .int .i64 0, .int .i64 0, .slice none 0 0] := by rw [← hu0]; exact heap_alloc_new w _
 obtain ⟨R, hRR⟩ : ∃ R, w.heap.size = R := ⟨_, rfl⟩
 have HROW := hid hrow
 have HBX := hid hbx
 have HPL := hid hpl
 have HB0 := hid b0
 have HR0 := hid hR0
 rw [hRR] at HR0 HB0 HROW s0
 have HWR := hid hRR
 clear hrow hbx hpl b0 hR0
 go_enter Tryz.func26, Tryz.ntmps26
 go_wp2_with fail
 refine (snew_any u0).mono ?_
 rintro e w1 ⟨s, f, t, rfl, hnf, hk1, hf1, hb1⟩
 obtain ⟨N, hN⟩ : ∃ N, u0.heap.size = N := ⟨_, rfl⟩
 obtain ⟨u1, hu1⟩ : ∃ u, w1.alloc (.cells #[.int .i64 z] 3) = u := ⟨_, rfl⟩
 have hI := one_irow z hu1
 have b1 : Below w1.heap.size w1 u1 := by rw [← hu1]; exact (Below.refl _ _).alloc (Nat.le_refl _) _
 have s1 : u1.heap.size = w1.heap.size + 1 := by rw [← hu1, World.size_alloc]
 have hb01 : Below u0.heap.size u0 u1 := hb1.trans (b1.mono hb1.size)
 have hbu : Below R w u1 := HB0.out.trans (hb01.mono (by omega))
 have hru := (HROW.out.below hbu).more (show R ≤ u1.heap.size by have := hb01.size; omega)
 have HSC := hid (schunks_any u1 A c xs hl hru (some ⟨w1.heap.size, 0, none⟩) 1 [z] hI)
 rw [hN] at hnf hk1 hf1 s0
 have hkl := hk1.box.lt
 have hfl := hf1.1.lt
 have htl := hk1.tak.held.lt
 have HK1 := hid (hk1.below b1)
 have HF1 := hid (show Fed u1 N f (.slice none 0 0) [] [] 0 0 from ⟨hf1.1.below b1 hfl, World.ownsRow_nil _ _ _ _, Fd.start⟩)
 have HBU := hid hbu
 have HR1 := hid (HR0.out.below hb01 (by omega))
 have hN1 : N ≤ u1.heap.size := by rw [← hN]; exact hb01.size
 clear hI b1 hb1 hb01 hbu hru hk1 hf1 hN
 go_wp2_with fail
 refine HSC.out.mono ?_
 rintro e w2 ⟨K, kc, cs, rfl, hch, hoc, hb2⟩
 have hz2 := hb2.size
 obtain ⟨a, ha⟩ : ∃ a, u1.heap.size = a := ⟨_, rfl⟩
 obtain ⟨b, hb⟩ : ∃ b, w2.heap.size = b := ⟨_, rfl⟩
 have hq0 : StrQ (fun j => j < a ∨ b ≤ j) w2 N s f t ((cs.map (·.b)).take 0).flatten [] none none := ⟨_, 0, 0, none, 0, [], 0, [], 0, hnf, ⟨HF1.out.1.below hb2 HF1.out.1.lt, World.ownsRow_nil _ _ _ _, Fd.start⟩, HK1.out.below hb2, fun j hj => by
  left
  rcases hj with rfl | rfl | hj | hj
  ·omega
  ·omega
  ·cases hj
  ·rcases hj with rfl | hj | hj
   ·omega
   ·cases hj
   ·cases hj⟩
 have HCR := hid (fun (W : World) (h : PartN (fun j => j < a ∨ b ≤ j) w2 W) => (hoc.mid h (fun i h1 h2 h3 => by omega)).row)
 have hml := hch.len
 rw [List.length_map] at hml
 obtain ⟨m, hm⟩ : ∃ m, cs.length = m := ⟨_, rfl⟩
 rw [hm] at HCR hml ⊢
 have HM := hid hm
 have HMM := hid hch.mem
 have HFL := hid hch.flat
 have HB2 := hid (HBU.out.trans (hb2.mono (by omega)))
 have HR2 := hid (HR1.out.below hb2 (by omega))
 have HQ0 := hid hq0
 rw [ha] at hN1 hz2
 rw [hb] at hz2
 have hNb : N ≤ b := by omega
 clear hq0 hoc hch hb2 hm HSC
 go_wp2_with fail
 go_loopg [8, 24] m (fun gk oo ii wr => ∃ (k : Nat) (T : List Sg) (PA RA : Option Addr) (Ao : Option Addr) (co : Nat) (qs : List Pm), oo = .slice Ao qs.length co ∧ ii = .int .i64 k ∧ k ≤ m ∧ Hid (m - k = gk) ∧ Hid (StrQ (fun j => j < a ∨ b ≤ j) wr N s f t ((cs.map (·.b)).take k).flatten T PA RA) ∧ Hid (OwnT wr b (.slice Ao qs.length co) qs) ∧ Hid (qs.map (·.p) = (gT T).pts) ∧ Hid (∀ j, (Value.slice Ao qs.length co).ownBlock = some j → ¬ TS t PA RA j) ∧ Hid (Below N w2 wr) ∧ Hid (PartN (fun j => j < a ∨ b ≤ j) w2 wr))
 case atStart => exact ⟨0, [], none, none, none, 0, [], rfl, rfl, Nat.zero_le _, hid rfl, HQ0, hid (OwnT.nil _ _), hid rfl, hid (fun j e => by cases e), hid (Below.refl _ _), hid (PartN.refl _ _)⟩
 case round =>
  obtain ⟨k, T, PA, RA, Ao, co, qs, rfl, rfl, hk, HGK, HSA, HOO, HPT, HNA, HBW, HPW⟩ := hrel
  obtain ⟨-, hoc1, hoc2⟩ := HOO.out.row.1.len
  have hbw : b ≤ wr.heap.size := by rw [← hb]; exact HBW.out.size
  have hkb : ∀ j, ∀ y ∈ ((cs.map (·.b)).take j).flatten, 0 ≤ y ∧ y < 256 := fun j y hy => by
   obtain ⟨c, hc, hxc⟩ := List.mem_flatten.1 hy
   exact HBX.out y (HMM.out c (List.mem_of_mem_take hc) y hxc)
  have htd : ∀ j T' a' o', Fd ((cs.map (·.b)).take j).flatten T' a' o' → TdOk T' := fun j T' a' o' h => by
   have e := flat_cut HFL.out j
   exact TdOk.most (more := ((cs.map (·.b)).drop j).flatten) (by rw [e]; exact HBX.out) (by rw [e]; exact hl) (by rw [e]; exact HPL.out) h
  have hpl1 : qs.length ≤ 92160000 := by
   have h1 := congrArg List.length HPT.out
   rw [List.length_map] at h1
   obtain ⟨a', o', hfd⟩ := HSA.out.at.fd
   have h2 := (htd k _ _ _ hfd).cnts.1
   omega
  by_cases hlt : k < m
  ·obtain ⟨x, hx⟩ : ∃ x, cs[k]? = some x := ⟨_, List.getElem?_eq_getElem (by rw [HM.out]; exact hlt)⟩
   have hxb : (cs.map (·.b))[k]? = some x.b := by rw [List.getElem?_map, hx]; rfl
   have hcr := HCR.out wr HPW.out
   have hxr := hcr.2 x (List.mem_of_getElem? hx)
   obtain ⟨b1, o1, hK, hbl1, v1⟩ := hcr.at hx
   have hxx : ∀ y ∈ x.b, 0 ≤ y ∧ y < 256 := fun y hy => HBX.out y (HMM.out x.b (List.mem_map_of_mem (List.mem_of_getElem? hx)) y hy)
   have hfl2 : ((cs.map (·.b)).take k).flatten ++ x.b = ((cs.map (·.b)).take (k + 1)).flatten := by rw [List.take_add_one, hxb, List.flatten_append]; simp
   have hfk : (((cs.map (·.b)).take (k + 1)).flatten).length ≤ 1000000000 := by
    have h3 := congrArg List.length (flat_cut HFL.out (k + 1))
    rw [List.length_append] at h3
    omega
   have hgv := sgive_q HSA.out (hkb k) x.A x.c x.b hxx hxr (by rw [hfl2]; exact hfk) (by rw [hfl2]; exact htd (k + 1)) (fun j hj => .inr (Nat.le_trans hbw hj))
   rw [hfl2] at hgv
   have HGV := hid hgv
   have HTD := hid (htd (k + 1))
   obtain ⟨y, hy⟩ : ∃ y, x.b.length = y := ⟨_, rfl⟩
   subst hK
   unfold Cu.val at v1
   rw [hy] at v1 HGV
   have k1 : (k : Int) < (m : Int) := by omega
   clear hx hxb hcr hxr hxx hfl2 hkb hy hgv htd
   go_wp2_with fail
   refine HGV.out.mono ?_
   rintro e w5 ⟨A3, c3, qx, mm, D, PA3, RA3, rfl, hm3, ho3, hp3, hs3, hkp3, hpq⟩
   obtain ⟨a3, o3, hfd3⟩ := hs3.at.fd
   have hc3 := (HTD.out _ _ _ hfd3).cnts.1
   have hql : qs.length + qx.length ≤ 92160000 := by
    have h1 := congrArg List.length hp3
    have h2 := congrArg List.length HPT.out
    rw [List.length_append, List.length_map] at h1
    rw [List.length_map] at h2
    omega
   have ho6 := hkp3.own b _ qs HOO.out HNA.out
   have hna5 : ∀ j, (Value.slice Ao qs.length co).ownBlock = some j → ¬ TS t PA3 RA3 j := fun j e h => by
    rcases hkp3.turn j h with h | h
    ·exact HNA.out j e h
    ·have := (World.ownsRow.lt HOO.out.1 j e).2; omega
   have hz5 : b ≤ w5.heap.size := Nat.le_trans hbw hkp3.low.size
   obtain ⟨M6, hM6⟩ : ∃ M6, qs.length + qx.length = M6 := ⟨_, rfl⟩
   have hM6l : M6 ≤ 92160000 := by omega
   have HX5 := hid (ERow.of_own ho3.1)
   have HOX := hid ho3
   have HO6 := hid ho6
   have HS3 := hid hs3
   have HNA5 := hid hna5
   have HM6 := hid hM6
   have HMM3 := hid (show b ≤ mm by omega)
   have HPT5 := hid (show (qs ++ qx).map (·.p) = (gT (T ++ D)).pts by rw [List.map_append, HPT.out, hp3])
   have HB5 := hid (HBW.out.trans hkp3.low)
   have HP5 := hid (HPW.out.trans hpq)
   clear hp3 hs3 hkp3 hfd3 ho3 ho6 hna5 hc3 hql hpq
   go_wp2_with (at_builtin; refine wpList_append_erow _ rfl _ _ 25 55 rfl b iP _ 2 32 Tryz.underlying25 hiP hpz hps hpb rfl (by decide) (.slice Ao qs.length co) qs.length (flatN qs) (by rfl) HO6.out.1 _ _ qx.length (flatN qx) (by rfl) HX5.out (flatN_length _) (oneN _) (by rw [hM6]; unfold maxLen; omega) (by rw [hM6]; omega) hz5 M6 hM6 (flatN (qs ++ qx)) (flatN_append _ _).symm ?_; intro A6 c6 w6 hown6 hg6 hat6; have HW6 := hid hown6; have HG6 := hid hg6; have HAT := hid hat6; clear hown6 hg6 hat6)
   go_roundg (m - (k + 1))
   case measure => have := HGK.out; omega
   case rel =>
    have hll : (qs ++ qx).length = M6 := by rw [List.length_append, HM6.out]
    refine ⟨k + 1, T ++ D, PA3, RA3, A6, c6, qs ++ qx, by rw [hll], by go_num, hlt, hid rfl, hid (HS3.out.grown HO6.out.1 HNA5.out HG6.out), hid ?_, HPT5, hid (fun j e h => ?_), hid (HB5.out.trans ((Below.refl _ _).grown HG6.out (Nat.le_trans hNb hz5) (fun j e => Nat.le_trans hNb (World.ownsRow.lt HO6.out.1 j e).1))), hid (HP5.out.trans (PartN.of_grown HG6.out (fun j e => .inr (World.ownsRow.lt HO6.out.1 j e).1)))⟩
    ·rw [hll]
     exact HO6.out.joined HOX.out HMM3.out (by rw [hll]; exact HW6.out) HG6.out
    ·rw [hll] at e
     rcases HAT.out with h2 | h2
     ·exact HNA5.out j (h2.symm.trans e) h
     ·rw [h2] at e
      injection e with e
      have := (HS3.out.at.ts_lt h).2
      omega
  ·obtain rfl : k = m := by omega
   have hfl2 : ((cs.map (·.b)).take k).flatten = xs := by rw [List.take_of_length_le (by rw [List.length_map, HM.out]; exact Nat.le_refl _)]; exact HFL.out
   have hsa := HSA.out
   rw [hfl2] at hsa
   have HCL := hid (sclose_q hsa HBX.out hl (fun T' h => TdOk.all HBX.out hl HPL.out h))
   clear hsa hfl2 htd hkb
   go_wp2_with fail
   refine HCL.out.mono ?_
   rintro e w4 ⟨A3, c3, qx, mm, D, SA, Sc, es, PA3, Pc, ps, RA3, Rc, rfl, hm3, ho3, hp3, hk4, hps4, hkp3, hpq⟩
   have htd := TdOk.all HBX.out hl HPL.out hps4
   have hc3 := htd.cnts
   have hql : qs.length + qx.length ≤ 92160000 := by
    have h1 := congrArg List.length hp3
    have h2 := congrArg List.length HPT.out
    rw [List.length_append, List.length_map] at h1
    rw [List.length_map] at h2
    omega
   have HO4 := hid (hkp3.own b _ qs HOO.out HNA.out)
   have HX4 := hid ho3
   have HNA4 := hid (show ∀ j, (Value.slice Ao qs.length co).ownBlock = some j → ¬ TS t PA3 RA3 j from fun j e h => by
    rcases hkp3.turn j h with h | h
    ·exact HNA.out j e h
    ·have := (World.ownsRow.lt HOO.out.1 j e).2; omega)
   have HMM3 := hid (show b ≤ mm by omega)
   have hb4 : b ≤ w4.heap.size := Nat.le_trans hbw hkp3.low.size
   have hlow4 : Below N w2 w4 := HBW.out.trans hkp3.low
   have HR4 := hid (HR2.out.below hlow4 (by omega))
   have HB4 := hid (HB2.out.trans (hlow4.mono (by omega)))
   obtain ⟨G, hG⟩ : ∃ G, gT (T ++ D) = G := ⟨_, rfl⟩
   rw [hG] at hc3
   have HOG := hid (show ofG xs G from by rw [← hG]; exact ⟨_, hps4, rfl⟩)
   have hig := htd.ig
   rw [hG] at hig
   have HIG := hid hig
   have HPT5 := hid (show (qs ++ qx).map (·.p) = G.pts by rw [List.map_append, HPT.out, ← hG, hp3])
   have hpl4 : ps.length ≤ 1000000000 := by
    have h1 := congrArg List.length hk4.tak.ptsp
    rw [List.length_map, hG] at h1
    omega
   have HGT := hid (fun (W : World) (h : KAt W N s f t (T ++ D) SA Sc es PA3 Pc ps RA3 Rc) => show Calls _ _ _ W (GtGot W G) from by
    have h2 := h.tak
    rw [hG] at h2
    exact rgot_any h2 HIG.out.trc hpl4 (by omega))
   have HK4 := hid hk4
   obtain ⟨M6, hM6⟩ : ∃ M6, qs.length + qx.length = M6 := ⟨_, rfl⟩
   have hM6l : M6 ≤ 92160000 := by omega
   have HM6 := hid (show (qs ++ qx).length = M6 by rw [List.length_append, hM6])
   have hRs : s ≠ R := by have := hk4.low; omega
   have hbd : Below w4.heap.size w4 w4.drew := (Below.refl _ _).drew
   have HX1 := hid (fun (W : World) (h : KAt W N s f t (T ++ D) SA Sc es PA3 Pc ps RA3 Rc) => show W.cell? ⟨s, 1, none⟩ = some (.pointer (some ⟨t, 0, none⟩)) from h.box.cell 1)
   have HKD := hid (hk4.below hbd)
   have HOD := hid (HO4.out.below hbd)
   have HXD := hid (HX4.out.below hbd)
   have HRD := hid (HR4.out.below hbd HR4.out.lt)
   clear htd hc3 ho3 hp3 hk4 hps4 hkp3 hm3 hpq hlow4 hig hG
   go_wp2_with fail
   go_region_held3 (fun W => W.cell? ⟨s, 1, none⟩ = some (.pointer (some ⟨t, 0, none⟩)))
    (first | exact HX1.out _ HK4.out | exact HX1.out _ HKD.out | exact HX1.out _ hkz | exact HX1.out _ hk9 | exact (((((hkz.box.other_put hRs _).other_put hRs _).other_put hRs _).other_put hRs _).other_put hRs _).cell 1)
    (first
     | (refine step_append_erow (by rfl) (.tmp 46) (.tmp 47) 25 55 (by rfl) b iP _ 2 32 Tryz.underlying25 hiP hpz hps hpb rfl (by omega) (.slice Ao qs.length co) qs.length (flatN qs) (by rfl) HOD.out.1 _ (.slice A3 qx.length c3) qx.length (flatN qx) (by rfl) (ERow.of_own HXD.out.1) (flatN_length _) (oneN _) (by rw [hM6]; unfold maxLen; omega) (by rw [hM6]; omega) hb4 M6 hM6 (flatN (qs ++ qx)) (flatN_append _ _).symm ?_; intro A9 c9 w9 hO9 hg9; have hk9 := (HKD.out.grown HOD.out.1 HNA4.out hg9); have hr9 := (show Held w9 R 28 #[.slice none 0 0, .slice none 0 0, .int .i64 0, .int .i64 0, .slice none 0 0] from HRD.out.nott (NotT.of_own HOD.out.1 (by decide)) hg9); have h9 := hO9; rw [← HM6.out] at h9; have hj9 := (show OwnT w9 b (.slice A9 (qs ++ qx).length c9) (qs ++ qx) from OwnT.joined HOD.out HXD.out HMM3.out h9 hg9); have hb9 := (show Below b w4.drew w9 from (Below.refl _ _).grown hg9 hb4 (fun j e => (World.ownsRow.lt HOD.out.1 j e).1)); clear h9 hO9 hg9)
     | (go_at_call 17; (with_reducible refine (HGT.out _ hk9).mono ?_); rintro e wz ⟨SA7, Sc7, es7, PA7, Pc7, ps7, RA7, Rc7, rfl, hg7, hb7⟩; have hkz := hk9.below hb7; have hrz := hr9.below hb7 hr9.lt; have hjz := hj9.below hb7; have hgz := (show GOwn wz w4.heap.size G SA7 Sc7 es7 PA7 Pc7 ps7 RA7 Rc7 from hg7.base hb9.size); have hbz := (show Below b w4.drew wz from hb9.trans (hb7.mono (Nat.le_trans hb4 hb9.size))); have y0 := hrz.cell 0; have y1 := hrz.cell 1; have y2 := hrz.cell 2; have y3 := hrz.cell 3; have y4 := hrz.cell 4; simp at y0 y1 y2 y3 y4; have f0 := hrz.frozen 0; have f1 := hrz.frozen 1; have f2 := hrz.frozen 2; have f3 := hrz.frozen 3; have f4 := hrz.frozen 4; have lz := hrz.lt))
   have HHZ := hid (held_put5 hrz (.slice SA7 es7.length Sc7) (.slice PA7 ps7.length Pc7) (.int .i64 G.sk) (.int .i64 G.fr) (.slice RA7 G.rej.length Rc7))
   have gp := grown_put5 wz R (.slice SA7 es7.length Sc7) (.slice PA7 ps7.length Pc7) (.int .i64 G.sk) (.int .i64 G.fr) (.slice RA7 G.rej.length Rc7)
   have HJZ := hid (hjz.nott (NotT.of_held hrz (by decide)) (NotT.of_held hrz (by decide)) ((NotT.of_held hrz (by decide)).ne hjz.1) gp)
   have HGZ := hid (hgz.kept gp (by omega))
   have HBZ := hid (((HB4.out.trans (hbd.mono (show R ≤ w4.heap.size by omega))).trans (hbz.mono (show R ≤ b by omega))).grown gp (by omega) (fun j e => by injection e with e; omega))
   clear hrz gp hjz hgz hbz hkz y0 y1 y2 y3 y4 f0 f1 f2 f3 f4
   go_wp2_with fail
   refine bodyPost_ret (v := .tuple #[.slice A9 M6 c9, GW G SA7 Sc7 es7 PA7 Pc7 ps7 RA7 Rc7, .bool true]) ?_ rfl ?_
   ·exact res_thr (R := R) (by simp only [pV]) (by simp only [pV]) (by simp only [pV]) HHZ.out
   ·unfold Through
    rw [HWR.out]
    exact ⟨A9, c9, qs ++ qx, G, SA7, Sc7, es7, PA7, Pc7, ps7, RA7, Rc7, by rw [HM6.out], HOG.out, HPT5.out, OwnT.base HJZ.out (by omega), GOwn.base HGZ.out (by omega), HBZ.out⟩
open Go.RowKit Go.Maps
def Cnt (w : World) (b : Nat) (l : List Int) : Prop :=
 ∃ (n : Nat) (D : DataW Unit), n ≤ l.length ∧ w.ownsMap Tryz.prog 3 (plainElem Tryz.prog 3) b n D ∧ ∀ k : Int, D.atKey (.int .i64 k) (.lit (.int .i64 0)) = .lit (.int .i64 ((l.count k : Nat) : Int))
theorem i64_wf {a : Int} (h : -9223372036854775808 ≤ a ∧ a ≤ 9223372036854775807) : (Lit.int .i64 a).wf = true := by
 simp only [Lit.wf, IntKind.min, IntKind.max, IntKind.signed, IntKind.bits, Bool.and_eq_true, decide_eq_true_eq, if_true]
 omega
theorem zeroI (w : World) : (zeroValue 3).run Tryz.prog w = .ok (.int .i64 0) w := by kernel_rfl
section
variable {w w' : World} {b : Nat} {l : List Int} {k : Int}
theorem Cnt.lt (h : Cnt w b l) : b < w.heap.size := by
 obtain ⟨n, D, -, h2, -⟩ := h
 exact h2.lt
theorem Cnt.new (w : World) : Cnt (w.alloc (.map #[] 0)) w.heap.size [] := ⟨0, .map [], Nat.le_refl _, World.ownsMap_made _ _ _ _, fun k => rfl⟩
theorem Cnt.below {B : Nat} (h : Cnt w b l) (hb : Below B w w') (hlt : b < B) : Cnt w' b l := by
 obtain ⟨n, D, h1, ⟨es, clock, q1, q2, q3, q4⟩, h3⟩ := h
 exact ⟨n, D, h1, ⟨es, clock, (hb.block b hlt).trans q1, q2, q3, q4⟩, h3⟩
theorem Cnt.look (h : Cnt w b l) (hk : (Lit.int .i64 k).wf = true) : (Instr.lookup 75 (.map (some b)) (.int .i64 k) false).run Tryz.prog w = .ok (.int .i64 ((l.count k : Nat) : Int)) w := by
 obtain ⟨n, D, h1, h2, h3⟩ := h
 obtain ⟨c, q1, q2, q3⟩ := h2.lookup_int (int_keyed Tryz.underlying3) Tryz.underlying75 Tryz.underlying3 (zeroI w) (keyOf_int_mk Tryz.underlying3 hk)
 rw [h3 k] at q2
 injection q2 with q2
 injection q2 with _ q2
 rw [q1, ← q2]
theorem Cnt.add (h : Cnt w b l) (hk : (Lit.int .i64 k).wf = true) (hl : l.length ≤ 1000000000) : ∃ w', (Instr.mapUpdate 75 (.map (some b)) (.int .i64 k) (.int .i64 (((l.count k : Nat) : Int) + 1))).run Tryz.prog w = .ok () w' ∧ Cnt w' b (l ++ [k]) ∧ w.grownBy w' (some b) := by
 obtain ⟨n, D, h1, h2, h3⟩ := h
 have hc : l.count k ≤ l.length := List.count_le_length
 obtain ⟨w', q1, q2, q3⟩ := h2.update (int_keyed Tryz.underlying3) Tryz.underlying75 (by unfold maxLen; omega) (keyOf_int_mk Tryz.underlying3 hk) (plainElem_int (H := Unit) Tryz.underlying3 (a := ((l.count k : Nat) : Int) + 1) (i64_wf (by omega)))
 refine ⟨w', q1, ⟨n + 1, _, by rw [List.length_append]; simp; exact h1, q2, fun j => ?_⟩, q3⟩
 by_cases hj : j = k
 ·subst hj
  rw [atKey_put_same h2.isMap (by simp [WideAt.IsKeyLit])]
  simp
 ·rw [atKey_put_other (fun e => hj (by injection e)), h3 j, List.count_append, List.count_eq_zero.2 (show j ∉ [k] from fun e => hj (List.mem_singleton.1 e)), Nat.add_zero]
end
theorem speaks_any (w : World) : Calls Tryz.prog 25 #[] w fun e w' => e = .returned (.bool true) ∧ Below w.heap.size w w' := by
 obtain ⟨u0, hu0⟩ : ∃ u, w.alloc (.cells #[.string { data := #[113] }, .slice none 0 0] 58) = u := ⟨_, rfl⟩
 obtain ⟨u1, hu1⟩ : ∃ u, u0.alloc (.cells #[.int .u64 5, .slice none 0 0] 55) = u := ⟨_, rfl⟩
 obtain ⟨hpr, htr, hft, hbu⟩ := argsQ hu0 hu1
 have HBY := hid (wbytes_ok u1 _ _ [⟨⟨[113], []⟩, none, 0⟩] _ _ [pntQ] 1 hpr htr hft (by simp) whyQ)
 have HBU := hid hbu
 clear hpr htr hft hbu
 go_enter Tryz.func25, Tryz.ntmps25
 go_wp2_with fail
 refine HBY.out.mono ?_
 rintro e w1 ⟨TA, tc, L, rfl, hrow, hblk, hb1⟩
 have hblk2 : BlkOf sigQ [pntQ] 1 L := hblk
 obtain ⟨S0, S1, hps, his, hp0, hp2⟩ := oneQ hblk2
 have hby := blkX_bytes hblk2
 have hxl : (blkX sigQ L).length ≤ 90000 := by
  have h1 := blkX_length sigQ L
  have h2 := (blk_right (cokQ (Int.le_refl _)) hblk2).2.2
  simp at h2
  omega
 have hrow2 : Row w1 w1.heap.size (.slice TA (blkX sigQ L).length tc) (blkX sigQ L) := hrow
 rw [show (blkX (List.map (fun x : Pd => x.p) [⟨⟨[113], []⟩, none, 0⟩]) L).length = (blkX sigQ L).length from rfl]
 generalize blkX sigQ L = xs at hrow2 hps hby hxl ⊢
 have HRO := hid (readOf_any TA tc xs hby (by omega) w1 hrow2)
 have HOG := hid (show ofG xs ⟨sigQ, true, [⟨5, []⟩], 0, 2, []⟩ from by rw [← hp2]; exact ⟨_, hps, rfl⟩)
 have HB1 := hid (HBU.out.trans (hb1.mono HBU.out.size))
 clear hrow hrow2 hblk hblk2 hps his hp0 hp2 hby hb1
 go_wp2_with fail
 refine HRO.out.mono ?_
 rintro e w2 ⟨g, hof, SA, Sc, es, PA, Pc, ps, RA, Rc, rfl, hg2, hb2⟩
 obtain rfl := ofG_same HOG.out hof
 have hpp := hg2.ptsp
 have hl1 : ps.length = 1 := by have := congrArg List.length hpp; rw [List.length_map] at this; exact this
 obtain ⟨d, hd⟩ : ∃ d, ps[0]? = some d := ⟨_, List.getElem?_eq_getElem (by omega)⟩
 have hd5 : d.tm = 5 := by
  have h := congrArg (fun l => l[0]?) hpp
  simp only [List.getElem?_map, hd, Option.map_some, List.getElem?_cons_zero, Option.some.injEq] at h
  exact congrArg Pn.tm h
 obtain ⟨u, hu⟩ : ∃ u, w2.alloc (.cells #[.slice SA es.length Sc, .slice PA ps.length Pc, .int .i64 0, .int .i64 2, .slice RA 0 Rc] 28) = u := ⟨_, rfl⟩
 have bu : Below w2.heap.size w2 u := by rw [← hu]; exact (Below.refl _ _).alloc (Nat.le_refl _) _
 have ku : Held u w2.heap.size 28 #[.slice SA es.length Sc, .slice PA ps.length Pc, .int .i64 0, .int .i64 2, .slice RA 0 Rc] := by rw [← hu]; exact heap_alloc_new w2 _
 obtain ⟨b, o, rfl, hbl, v0, -, -, -, -⟩ := (hg2.pts.below bu).row.at hd
 rw [hd5] at v0
 have x1 := ku.cell 1
 have x3 := ku.cell 3
 simp at x1 x3
 have HBU2 := hid (HB1.out.trans ((hb2.trans (bu.mono hb2.size)).mono HB1.out.size))
 unfold GW
 rw [hl1] at x1 hu ⊢
 rw [show (([] : List (Int × Int)).length) = 0 from rfl]
 rw [Nat.zero_mul, Nat.add_zero] at v0
 clear hof hg2 hb2 hpp hd hd5 bu ku
 go_wp2_with fail
 go_ret
 exact ⟨rfl, HBU2.out⟩
end Go.Proofs.YtnlfcmbpocdpjaaGreat
