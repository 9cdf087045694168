/-
  What the theorem of ReadOf rests on, part 6 of 18.
-/
import Derived.Deep.LoopGhost
import Derived.Deep.QuietTactic
import Derived.BigQuiet
import Derived.Lib.SmallJoins
import Derived.Deep.RegionHeld3
import Derived.Deep.RegionLaw
import Derived.Deep.SlicePairs
import Derived.SizedLaws
import Derived.Test.YtimihhcidbeonaaGreatReadOfZ5
set_option maxRecDepth 100000
set_option maxHeartbeats 16000000
namespace Go.Proofs.YtimihhcidbeonaaGreat
open Lib (hid)
open Go.RowKit Go.ChangeShapes Go.WideShapes
set_option linter.unusedVariables false
abbrev WrS (g : Nat) : Value := .agg #[.func (.func 110) #[] #[.pointer (some ⟨g, 0, none⟩)], .func (.func 112) #[] #[.pointer (some ⟨g, 0, none⟩)]]
abbrev WrSc (g : Nat) : Array Value := #[.func (.func 110) #[] #[.pointer (some ⟨g, 0, none⟩)], .func (.func 112) #[] #[.pointer (some ⟨g, 0, none⟩)]]
theorem countS {w : World} {base g : Nat} {v : Value} {zs : List Int} (h : SnkS w base g v zs) (n : Nat) (hn : n < 9223372036854775808) (hl : zs.length ≤ 10000000000) (hbs : base ≤ w.heap.size) :
  Calls Tryz.prog 116 #[WrS g, .int .i64 n] w fun e w' => e = .returned (.tuple #[]) ∧ LeftS w base g v (zs ++ encI n) w' := by
 have ba : Below w.heap.size w (w.alloc (.cells (WrSc g) 128)) := (Below.refl _ _).alloc (Nat.le_refl _) _
 have hh : Held (w.alloc (.cells (WrSc g) 128)) w.heap.size 128 (WrSc g) := heap_alloc_new w _
 have h1 := h.below ba
 obtain ⟨w1, hw1⟩ : ∃ w1, w.alloc (.cells (WrSc g) 128) = w1 := ⟨_, rfl⟩
 rw [hw1] at ba hh h1
 have x0 := hh.cell 0
 simp at x0
 have HC := hid (sumn_any h1 n (by omega) hl)
 generalize encI n = E at HC ⊢
 clear h h1
 go_enter Tryz.func116, Tryz.ntmps116
 go_wp2_with fail
 refine HC.out.mono ?_
 rintro e w2 ⟨rfl, hk⟩
 go_wp2_with fail
 go_end0
 exact ⟨rfl, LeftS.ahead ba hk⟩
theorem dictS {w : World} {base g b2 : Nat} {v : Value} {zs : List Int} (h : SnkS w base g v zs) (A : Option Addr) (c : Nat) (L : List (List Int)) (ho : w.ownsRow b2 9 1 (.slice A L.length c) L.length (strVs L)) (hT : Tx200 L) (hl : zs.length + (dictB L).length ≤ 10000000000) (hbs : base ≤ w.heap.size) :
  Calls Tryz.prog 117 #[WrS g, .slice A L.length c] w fun e w' => e = .returned (.tuple #[]) ∧ LeftS w base g v (zs ++ dictB L) w' := by
 obtain ⟨-, hc1, hc2⟩ := (ERow.of_own ho).len
 obtain ⟨F, hF⟩ : ∃ F : Nat → List Int, F = fun k => zs ++ encI L.length ++ catT (L.take k) := ⟨_, rfl⟩
 have hF0 : F 0 = zs ++ encI L.length := by rw [hF]; simp [catT]
 have hFn : F L.length = zs ++ dictB L := by rw [hF]; simp [dictB]
 have hFs : ∀ (k : Nat) (t : List Int), L[k]? = some t → F (k + 1) = F k ++ encT t := fun k t ht => by rw [hF]; simp only; rw [catT_take_succ L ht]; simp only [List.append_assoc]
 have hFl : ∀ k, (F k).length ≤ 10000000000 := fun k => by
  rw [hF]
  simp only [dictB, List.length_append] at hl ⊢
  have := catT_take_le L k
  omega
 rw [← hFn]
 have ba : Below w.heap.size w (w.alloc (.cells (WrSc g) 128)) := (Below.refl _ _).alloc (Nat.le_refl _) _
 have hh : Held (w.alloc (.cells (WrSc g) 128)) w.heap.size 128 (WrSc g) := heap_alloc_new w _
 obtain ⟨w1, hw1⟩ : ∃ w1, w.alloc (.cells (WrSc g) 128) = w1 := ⟨_, rfl⟩
 rw [hw1] at ba hh
 have s1 : w1.heap.size = w.heap.size + 1 := by rw [← hw1, World.size_alloc]
 have h1 := h.below ba
 have hc := countS h1 L.length (by omega) (by omega) (by omega)
 rw [← hF0] at hc
 have HC := hid hc
 have H1 := hid h1
 have HO1 := hid (own_below ho ba)
 have HT := hid hT
 have HFS := hid hFs
 have HFL := hid hFl
 have HBX := hid hh
 have HBA := hid ba
 obtain ⟨x0, x1⟩ := cC2 hh
 simp at x0 x1
 obtain ⟨q, hq⟩ : ∃ q, w.heap.size = q := ⟨_, rfl⟩
 rw [hq] at x0 x1
 obtain ⟨n, hn⟩ : ∃ n, L.length = n := ⟨_, rfl⟩
 rw [hn] at hc1 HO1 ⊢
 rw [hn] at HC
 clear h hc h1 ho hT hF hF0 hFn hFs hFl hh ba hl
 go_enter Tryz.func117, Tryz.ntmps117
 go_wp2_with fail
 refine HC.out.mono ?_
 rintro e w2 ⟨rfl, hk2⟩
 have HL2 := hid hk2
 clear hk2 x0 x1 hw1 HC
 go_wp2_with fail
 go_loopg [12] n (fun gk i wr => ∃ (k : Nat), k ≤ n ∧ i = .int .i64 k ∧ Hid (n - k = gk) ∧ Hid (LeftS w1 base g v (F k) wr))
 case atStart => exact ⟨0, Nat.zero_le _, rfl, hid rfl, HL2⟩
 case round =>
  obtain ⟨k, hk, rfl, HGK, HL⟩ := hrel
  by_cases hlt : k < n
  ·obtain ⟨t, ht⟩ : ∃ t, L[k]? = some t := ⟨_, List.getElem?_eq_getElem (by omega)⟩
   obtain ⟨v2, hs2, hb2, hv2⟩ := HL.out
   obtain ⟨b, o, rfl, _, hcl⟩ := (ERow.of_own (HL.out.keep H1.out HO1.out (by decide) (by decide))).block (by omega)
   have y0 := hcl k _ (strVs_at L ht)
   have y1 := (HL.out.held H1.out HBX.out (by decide) (by decide)).cell 1
   simp at y1
   rw [hq] at y1
   have htx := HT.out t (List.mem_of_getElem? ht)
   have hp := sumt_any hs2 t htx.2 (by omega) (HFL.out k) 
   rw [← HFS.out k t ht] at hp
   have HP := hid hp
   have HB2 := hid hb2
   have HV2 := hid hv2
   clear hp hcl ht hs2 hb2 hv2 htx
   go_wp2_with fail
   refine HP.out.mono ?_
   rintro e w5 ⟨rfl, hk5⟩
   have HL5 := hid (LeftS.trans HB2.out HV2.out hk5)
   clear hk5
   go_wp2_with fail
   go_roundg (n - (k + 1))
   case measure => have := HGK.out; omega
   case rel => exact ⟨k + 1, by omega, by go_num, hid rfl, HL5⟩
  ·obtain rfl : k = n := by omega
   go_wp2_with fail
   go_end0
   exact ⟨rfl, LeftS.ahead HBA.out HL.out⟩
theorem eventsS {w : World} {base g b2 x D r : Nat} {v vd : Value} {zs : List Int} {L : List (List Int)} (h : SnkS w base g v zs) (A : Option Addr) (c : Nat) (l : List Em) (hrow : EvRow w base (.slice A l.length c) l) (hok : ∀ e ∈ l, EOk e) (hlen : l.length ≤ 1024)
  (hx : Held w x 198 #[.pointer (some ⟨D, 0, none⟩)]) (hd : DictAt w b2 D r vd L) (hL : L.length ≤ 1000000000) (hin : ∀ e ∈ l, ∀ a ∈ e.args, a.t = 2 → a.s ∈ L) (hl : zs.length + (evsB L l).length ≤ 10000000000) (hbs : base ≤ w.heap.size) :
  Calls Tryz.prog 119 #[WrS g, .slice A l.length c, TabV x] w fun e w' => e = .returned (.tuple #[]) ∧ LeftS w base g v (zs ++ evsB L l) w' := by
 obtain ⟨-, hc1, hc2⟩ := hrow.1.len
 obtain ⟨F, hF⟩ : ∃ F : Nat → List Int, F = fun k => zs ++ encI l.length ++ evlB L (l.take k) := ⟨_, rfl⟩
 have hF0 : F 0 = zs ++ encI l.length := by rw [hF]; simp [evlB]
 have hFn : F l.length = zs ++ evsB L l := by rw [hF]; simp [evsB]
 have hFs : ∀ (k : Nat) (e : Em), l[k]? = some e → F (k + 1) = F k ++ encI e.p.toNat ++ argsB L e.args := fun k e he => by rw [hF]; simp only; rw [evlB_succ he]; simp only [evB, List.append_assoc]
 have hFl : ∀ k, (F k).length ≤ 10000000000 := fun k => by
  rw [hF]
  simp only [evsB, evlB, List.length_append] at hl ⊢
  have := flatMap_take_le (evB L) l k
  omega
 rw [← hFn]
 obtain ⟨q, hq⟩ : ∃ q, w.heap.size = q := ⟨_, rfl⟩
 obtain ⟨w1, hw1⟩ : ∃ w1, (w.alloc (.cells (WrSc g) 128)).alloc (.cells (TabVc x) 202) = w1 := ⟨_, rfl⟩
 have b1 : Below w.heap.size w w1 := by rw [← hw1]; exact ((Below.refl _ _).alloc (Nat.le_refl _) _).alloc (by simp) _
 have s1 : w1.heap.size = q + 2 := by rw [← hw1, World.size_alloc, World.size_alloc, hq]
 have hb1 : Held w1 q 128 (WrSc g) := by rw [← hw1, ← hq]; exact Held.below (B := (w.alloc (.cells (WrSc g) 128)).heap.size) (heap_alloc_new w _) ((Below.refl _ _).alloc (Nat.le_refl _) _) (by simp)
 have ht1 : Held w1 (q + 1) 202 (TabVc x) := by rw [← hw1, ← hq, ← World.size_alloc w (.cells (WrSc g) 128)]; exact heap_alloc_new _ _
 have hs1 := h.below b1
 have hc := countS hs1 l.length (by omega) (by omega) (by omega)
 rw [← hF0] at hc
 have HC := hid hc
 have H1 := hid hs1
 have HX := hid (hx.below b1 hx.lt)
 have HD := hid (hd.below b1)
 have HEV := hid (fun W (hb : Below base w1 W) => (hrow.below (b1.mono hbs)).below hb)
 have HOK := hid hok
 have HIN := hid hin
 have HFS := hid hFs
 have HFL := hid hFl
 have HBX := hid hb1
 have HTB := hid ht1
 have HBA := hid b1
 obtain ⟨x0, x1⟩ := cC2 hb1
 simp at x0 x1
 obtain ⟨n, hn⟩ : ∃ n, l.length = n := ⟨_, rfl⟩
 rw [hn] at hc1 hlen HC HEV ⊢
 have hbs1 : base ≤ w1.heap.size := by omega
 clear h hc hs1 hrow hok hx hd hin hF hF0 hFn hFs hFl hb1 ht1 b1 hl
 go_enter Tryz.func119, Tryz.ntmps119
 go_wp2_with fail
 refine HC.out.mono ?_
 rintro e w2 ⟨rfl, hk2⟩
 have HL2 := hid hk2
 clear hk2 x0 x1 hw1 HC
 go_wp2_with fail
 go_loopg [16] n (fun gk i wr => ∃ (k : Nat), k ≤ n ∧ i = .int .i64 k ∧ Hid (n - k = gk) ∧ Hid (LeftS w1 base g v (F k) wr))
 case atStart => exact ⟨0, Nat.zero_le _, rfl, hid rfl, HL2⟩
 case round =>
  obtain ⟨k, hk, rfl, HGK, HL⟩ := hrel
  by_cases hlt : k < n
  ·obtain ⟨e, he⟩ : ∃ e, l[k]? = some e := ⟨_, List.getElem?_eq_getElem (by omega)⟩
   have hem := List.mem_of_getElem? he
   have heo := HOK.out e hem
   have hlow := HL.out.low H1.out hbs1
   obtain ⟨b, o, rfl, hb, u0, u1, hokx, hl1, hl2⟩ := (HEV.out _ hlow).at he
   obtain ⟨pn, hpn⟩ : ∃ pn : Nat, e.p = (pn : Int) := ⟨e.p.toNat, by have := heo.low; omega⟩
   have hpl : pn < 64 := by have := heo.high; omega
   have hGR := fun W (hb : Below base w1 W) => (((HEV.out _ hb).2 e hem).1)
   have HFE := hid (show F (k + 1) = F k ++ encI pn ++ argsB L e.args by rw [HFS.out k e he, hpn]; rfl)
   have HAO := hid heo.args
   have HAI := hid (HIN.out e hem)
   have hfew := heo.few
   obtain ⟨ep, args, eA, ec⟩ := e
   simp only at u0 u1 hl1 hl2 hpn HFE HAO HAI hGR hfew
   subst hpn
   have HGR := hid hGR
   obtain ⟨q4, hq4⟩ : ∃ q4, wr.heap.size = q4 := ⟨_, rfl⟩
   obtain ⟨w4, hw4⟩ : ∃ w4, wr.alloc (.cells #[.int .i64 (pn : Int), .slice eA args.length ec] 100) = w4 := ⟨_, rfl⟩
   have b4 : Below wr.heap.size wr w4 := by rw [← hw4]; exact (Below.refl _ _).alloc (Nat.le_refl _) _
   have h4 : Held w4 q4 100 #[.int .i64 (pn : Int), .slice eA args.length ec] := by rw [← hw4, ← hq4]; exact heap_alloc_new wr _
   have hl4 := HL.out.behind b4
   have hs4 := H1.out
   obtain ⟨v2, hs2, hbt2, hv2⟩ := hl4
   obtain ⟨y0, y1⟩ := cC2 h4
   simp at y0 y1
   obtain ⟨z0, z1⟩ := cC2 (LeftS.held ⟨v2, hs2, hbt2, hv2⟩ H1.out HBX.out (by decide) (by decide))
   simp at z0 z1
   have hs4w : w1.heap.size ≤ w4.heap.size := hbt2.size
   have HP := hid (countS hs2 pn (by omega) (HFL.out k) (by omega))
   have HS2 := hid hs2
   have HB2 := hid hbt2
   have HV2 := hid hv2
   have H4 := hid h4
   clear hs2 hbt2 hv2 h4 hs4 hokx hGR he hem heo hlow b4
   obtain ⟨wx, hwx⟩ : ∃ wx, wx = wr := ⟨_, rfl⟩
   subst hwx
   go_wp2_with fail
   refine HP.out.mono ?_
   rintro e w5 ⟨rfl, hk5⟩
   have y1' := (hk5.held HS2.out H4.out (by decide) (by decide)).cell 1
   simp at y1'
   have HL5 := hid (LeftS.trans HB2.out HV2.out hk5)
   clear hk5 y0 y1 z0 z1 u0 u1 hw4 HP HS2 HB2 HV2 H4
   go_wp2_with fail
   clear y1'
   obtain ⟨G, hG⟩ : ∃ G : Nat → List Int, G = fun j => F k ++ encI pn ++ argsB L (args.take j) := ⟨_, rfl⟩
   have HG0 := hid (show G 0 = F k ++ encI pn by rw [hG]; simp [argsB])
   have HGn := hid (show G args.length = F (k + 1) by rw [hG, HFE.out]; simp)
   have HGs := hid (show ∀ (j : Nat) (a : Ag), args[j]? = some a → G (j + 1) = G j ++ encI (argN L a) from fun j a ha => by rw [hG]; simp only; rw [argsB_succ ha]; simp only [List.append_assoc])
   have HGl := hid (show ∀ j, (G j).length ≤ 10000000000 from fun j => by
    have h1 := HFL.out (k + 1)
    have h2 := flatMap_take_le (fun a => encI (argN L a)) args j
    rw [HFE.out] at h1
    rw [hG]
    simp only [argsB, List.length_append] at h1 ⊢
    omega)
   clear hG
   go_loopg [27] args.length (fun gj i wr => ∃ (j : Nat), j ≤ args.length ∧ i = .int .i64 j ∧ Hid (args.length - j = gj) ∧ Hid (LeftS w1 base g v (G j) wr))
   case atStart => exact ⟨0, Nat.zero_le _, rfl, hid rfl, by rw [HG0.out]; exact HL5⟩
   case round =>
    obtain ⟨j, hj, rfl, HGJ, HM⟩ := hrel
    by_cases hjl : j < args.length
    ·obtain ⟨a, ha⟩ : ∃ a, args[j]? = some a := ⟨_, List.getElem?_eq_getElem hjl⟩
     have ham := List.mem_of_getElem? ha
     have hao := HAO.out a ham
     have hai := HAI.out a ham
     obtain ⟨b3, o3, rfl, hb3, u0, u1, u2, hfit⟩ := (HGR.out _ (HM.out.low H1.out hbs1)).at ha
     have hyl := argN_lt (D := L) hao hL
     have HGE := hid (HGs.out j a ha)
     obtain ⟨q6, hq6⟩ : ∃ q6, wr.heap.size = q6 := ⟨_, rfl⟩
     obtain ⟨w6, hw6⟩ : ∃ w6, wr.alloc (.cells (argC a) 97) = w6 := ⟨_, rfl⟩
     have b6 : Below wr.heap.size wr w6 := by rw [← hw6]; exact (Below.refl _ _).alloc (Nat.le_refl _) _
     have h6 : Held w6 q6 97 (argC a) := by rw [← hw6, ← hq6]; exact heap_alloc_new wr _
     have hm6 := HM.out.behind b6
     have hbx6 := hm6.held H1.out HBX.out (by decide) (by decide)
     have htb6 := hm6.held H1.out HTB.out (by decide) (by decide)
     have hx6 := hm6.held H1.out HX.out (by decide) (by decide)
     have hd6 := hm6.dict H1.out HD.out
     obtain ⟨v3, hs3, hbt3, hv3⟩ := hm6
     have hs6w : w1.heap.size ≤ w6.heap.size := hbt3.size
     have HN := hid (fun W (hb : Below w6.heap.size w6 W) => sumn_any (hs3.below hb) (argN L a) hyl (HGl.out j) )
     have HB3 := hid hbt3
     have HV3 := hid hv3
     rw [← HGE.out] at HN
     have HALL := hid (fun W (hb : Below w6.heap.size w6 W) => (⟨hbx6.below hb hbx6.lt, htb6.below hb htb6.lt, h6.below hb h6.lt⟩ : Held W q 128 (WrSc g) ∧ Held W (q + 1) 202 (TabVc x) ∧ Held W q6 97 (argC a)))
     have HALL2 := hid (fun W (hb : Below w6.heap.size w6 W) W2 (hk : LeftS W base g v3 (G (j + 1)) W2) => (⟨hk.held (hs3.below hb) (HALL.out W hb).1 (by decide) (by decide), hk.held (hs3.below hb) (HALL.out W hb).2.1 (by decide) (by decide), hk.held (hs3.below hb) (HALL.out W hb).2.2 (by decide) (by decide)⟩ : Held W2 q 128 (WrSc g) ∧ Held W2 (q + 1) 202 (TabVc x) ∧ Held W2 q6 97 (argC a)))
     by_cases ht : a.t = 1
     ·have hy : foldI a.n = ((argN L a : Nat) : Int) := by
       obtain ⟨_, _, _, f1, f2⟩ := hfit
       have := foldI_range f1 f2
       rw [argN, if_pos ht]
       omega
      have HT := hid (fun W => tab1_any a.t a.n (.string (strOfNums a.s)) hfit.2.2.2.1 hfit.2.2.2.2 W)
      rw [hy] at HT
      generalize argN L a = y at HN HT hyl HGE hy
      have HS := hid (fun W (hb : Held W q 128 (WrSc g) ∧ Held W (q + 1) 202 (TabVc x) ∧ Held W q6 97 (argC a)) => (by
       have e0 := hb.1.cell 0
       have e1 := hb.2.1.cell 1
       obtain ⟨e2, e3, e4⟩ := cC3 hb.2.2
       simp at e0 e1 e2 e3 e4
       exact ⟨e0, e1, e2, e3, e4⟩ : W.cell? ⟨q, 0, none⟩ = some (.func (.func 110) #[] #[.pointer (some ⟨g, 0, none⟩)]) ∧ W.cell? ⟨q + 1, 1, none⟩ = some (.func (.func 162) #[] #[]) ∧ W.cell? ⟨q6, 0, none⟩ = some (.int .i64 a.t) ∧ W.cell? ⟨q6, 1, none⟩ = some (.int .i64 a.n) ∧ W.cell? ⟨q6, 2, none⟩ = some (.string (strOfNums a.s))))
      obtain ⟨at', hat⟩ : ∃ t, a.t = t := ⟨_, rfl⟩
      rw [hat] at HT HS ht u0
      simp only [argC, hat] at hw6
      subst ht
      clear ha ham hao hai hfit h6 hbx6 htb6 hx6 hd6 hs3 hbt3 hv3 b6 hy
      go_wp2_with fail
      go_region_held3 (fun W => W.cell? ⟨q, 0, none⟩ = some (.func (.func 110) #[] #[.pointer (some ⟨g, 0, none⟩)]) ∧ W.cell? ⟨q + 1, 1, none⟩ = some (.func (.func 162) #[] #[]) ∧ W.cell? ⟨q6, 0, none⟩ = some (.int .i64 1) ∧ W.cell? ⟨q6, 1, none⟩ = some (.int .i64 a.n) ∧ W.cell? ⟨q6, 2, none⟩ = some (.string (strOfNums a.s)))
       (first | exact HS.out _ (HALL2.out _ b7 _ hk8) | exact HS.out _ (HALL.out _ b7) | exact HS.out _ (HALL.out _ (Below.refl _ _).drew) | exact HS.out _ (HALL.out _ (Below.refl _ _)))
       (first
        | (go_at_call 162; (with_reducible refine (HT.out _).mono ?_); rintro e w7 ⟨rfl, hb7⟩; have b7 : Below w6.heap.size w6 w7 := (Below.refl _ _).drew.trans hb7)
        | (go_at_call 110; (with_reducible refine (HN.out _ b7).mono ?_); rintro e w8 ⟨rfl, hk8⟩))
      have HM8 := hid (LeftS.trans HB3.out HV3.out (LeftS.ahead b7 hk8))
      clear b7 hb7 hk8 HN HT
      go_wp2_with fail
      go_roundg (args.length - (j + 1))
      case measure => have := HGJ.out; omega
      case rel => exact ⟨j + 1, by omega, by go_num, hid rfl, HM8⟩
     ·have ht2 : a.t = 2 := hao.kind.resolve_left ht
      have hy : placeD L a.s = ((argN L a : Nat) : Int) := by
       rw [argN, if_neg ht]
       exact placeD_in (hai ht2)
      have HT := hid (fun W (hb : Below w6.heap.size w6 W) => tab2_any a.t a.n a.s hfit.2.1 W (hx6.below hb hx6.lt) (hd6.below hb) (argN L a) hy (by
       rcases placeD_ways L a.s with ⟨q1, _⟩ | ⟨i, q1, q2, _⟩
       ·omega
       ·omega))
      clear ht
      have ht := ht2
      clear ht2
      generalize argN L a = y at HN HT hyl HGE hy
      have HS := hid (fun W (hb : Held W q 128 (WrSc g) ∧ Held W (q + 1) 202 (TabVc x) ∧ Held W q6 97 (argC a)) => (by
       have e0 := hb.1.cell 0
       have e1 := hb.2.1.cell 2
       obtain ⟨e2, e3, e4⟩ := cC3 hb.2.2
       simp at e0 e1 e2 e3 e4
       exact ⟨e0, e1, e2, e3, e4⟩ : W.cell? ⟨q, 0, none⟩ = some (.func (.func 110) #[] #[.pointer (some ⟨g, 0, none⟩)]) ∧ W.cell? ⟨q + 1, 2, none⟩ = some (.func (.func 164) #[] #[.pointer (some ⟨x, 0, none⟩)]) ∧ W.cell? ⟨q6, 0, none⟩ = some (.int .i64 a.t) ∧ W.cell? ⟨q6, 1, none⟩ = some (.int .i64 a.n) ∧ W.cell? ⟨q6, 2, none⟩ = some (.string (strOfNums a.s))))
      obtain ⟨at', hat⟩ : ∃ t, a.t = t := ⟨_, rfl⟩
      rw [hat] at HT HS ht u0
      simp only [argC, hat] at hw6
      subst ht
      clear ha ham hao hai hfit h6 hbx6 htb6 hx6 hd6 hs3 hbt3 hv3 b6 hy
      go_wp2_with fail
      go_region_held3 (fun W => W.cell? ⟨q, 0, none⟩ = some (.func (.func 110) #[] #[.pointer (some ⟨g, 0, none⟩)]) ∧ W.cell? ⟨q + 1, 2, none⟩ = some (.func (.func 164) #[] #[.pointer (some ⟨x, 0, none⟩)]) ∧ W.cell? ⟨q6, 0, none⟩ = some (.int .i64 2) ∧ W.cell? ⟨q6, 1, none⟩ = some (.int .i64 a.n) ∧ W.cell? ⟨q6, 2, none⟩ = some (.string (strOfNums a.s)))
       (first | exact HS.out _ (HALL2.out _ b7 _ hk8) | exact HS.out _ (HALL.out _ b7) | exact HS.out _ (HALL.out _ (Below.refl _ _).drew) | exact HS.out _ (HALL.out _ (Below.refl _ _)))
       (first
        | (go_at_call 164; (with_reducible refine (HT.out _ (Below.refl _ _).drew).mono ?_); rintro e w7 ⟨rfl, hb7⟩; have b7 : Below w6.heap.size w6 w7 := (Below.refl _ _).drew.trans hb7)
        | (go_at_call 110; (with_reducible refine (HN.out _ b7).mono ?_); rintro e w8 ⟨rfl, hk8⟩))
      have HM8 := hid (LeftS.trans HB3.out HV3.out (LeftS.ahead b7 hk8))
      clear b7 hb7 hk8 HN HT
      go_wp2_with fail
      go_roundg (args.length - (j + 1))
      case measure => have := HGJ.out; omega
      case rel => exact ⟨j + 1, by omega, by go_num, hid rfl, HM8⟩
    ·obtain rfl : j = args.length := by omega
     have HM' := HM
     rw [HGn.out] at HM'
     go_wp2_with fail
     go_roundg (n - (k + 1))
     case measure => have := HGK.out; omega
     case rel => exact ⟨k + 1, by omega, by go_num, hid rfl, HM'⟩
  ·obtain rfl : k = n := by omega
   go_wp2_with fail
   go_end0
   exact ⟨rfl, LeftS.ahead HBA.out HL.out⟩
theorem pointsS {w : World} {base g : Nat} {v : Value} {zs : List Int} (h : SnkS w base g v zs) (A : Option Addr) (c : Nat) (l : List Pm) (hrow : TrRow w base (.slice A l.length c) l) (hok : BOk l) (h0 : 0 < l.length) (hl : zs.length + (payB l).length ≤ 10000000000) (hbs : base ≤ w.heap.size) :
  Calls Tryz.prog 63 #[WrS g, .slice A l.length c] w fun e w' => e = .returned (.tuple #[]) ∧ LeftS w base g v (zs ++ payB l) w' := by
 obtain ⟨-, hc1, hc2⟩ := hrow.1.len
 obtain ⟨L, hLe⟩ : ∃ L, addT [] l = L := ⟨_, rfl⟩
 obtain ⟨hL1, hL2⟩ := hok.dict
 rw [hLe] at hL1 hL2
 obtain ⟨p0, hp0⟩ : ∃ p, l[0]? = some p := ⟨_, List.getElem?_eq_getElem h0⟩
 obtain ⟨t0, ht0⟩ : ∃ t0 : Nat, p0.tm = (t0 : Int) := ⟨p0.tm.toNat, by have := (hok.pts p0 (List.mem_of_getElem? hp0)).fits.1; omega⟩
 have ht0l : t0 < 18446744073709551616 := by have := (hok.pts p0 (List.mem_of_getElem? hp0)).fits.2; omega
 have ht0e : (tmAt l 0).toNat = t0 := by rw [tmAt_of hp0, ht0]; rfl
 obtain ⟨F, hF⟩ : ∃ F : Nat → List Int, F = fun k => zs ++ encI t0 ++ encI l.length ++ dictB L ++ ptsB L l k := ⟨_, rfl⟩
 have hpay : zs ++ payB l = F l.length := by rw [hF]; simp only [payB, headB, hLe, ht0e, List.append_assoc]
 have hF0 : F 0 = zs ++ encI t0 ++ encI l.length ++ dictB L := by rw [hF]; simp [ptsB]
 have hFs : ∀ k, F (k + 1) = F k ++ ptB L l k := fun k => by rw [hF]; simp only; rw [ptsB_succ]; simp only [List.append_assoc]
 have hFl : ∀ k, k ≤ l.length → (F k).length ≤ 10000000000 := fun k hk => by
  have e1 : (F l.length).length ≤ 10000000000 := by rw [← hpay, List.length_append]; exact hl
  have mono : ∀ j, (F k).length ≤ (F (k + j)).length := fun j => by
   induction j with
   | zero => exact Nat.le_refl _
   | succ j ih => rw [← Nat.add_assoc, hFs, List.length_append]; omega
  have := mono (l.length - k)
  rw [show k + (l.length - k) = l.length by omega] at this
  omega
 rw [hpay]
 have hlz : (zs ++ encI t0 ++ encI l.length ++ dictB L).length ≤ 10000000000 := by rw [← hF0]; exact hFl 0 (Nat.zero_le _)
 obtain ⟨q, hq⟩ : ∃ q, w.heap.size = q := ⟨_, rfl⟩
 obtain ⟨w1, hw1⟩ : ∃ w1, w.alloc (.cells (WrSc g) 128) = w1 := ⟨_, rfl⟩
 have b1 : Below w.heap.size w w1 := by rw [← hw1]; exact (Below.refl _ _).alloc (Nat.le_refl _) _
 have s1 : w1.heap.size = q + 1 := by rw [← hw1, World.size_alloc, hq]
 have hb1 : Held w1 q 128 (WrSc g) := by rw [← hw1, ← hq]; exact heap_alloc_new w _
 have hof := dof_any A c l w1 ((hrow.below (b1.mono hbs)).more (by omega)) (by have := nT_le l hok.pts; have := hok.few; omega)
 rw [hLe] at hof
 have HOF := hid hof
 have HROW := hid hrow
 have HOK := hid hok
 have HH := hid h
 have HFS := hid hFs
 have HFL := hid hFl
 have HF0 := hid hF0
 have HLZ := hid hlz
 have HL2 := hid hL2
 have HLE := hid hLe
 have HB1 := hid b1
 have HBX := hid hb1
 have HP0 := hid hp0
 obtain ⟨n, hn⟩ : ∃ n, l.length = n := ⟨_, rfl⟩
 have HN := hid hn
 have HFEW := hid hok.few
 rw [hn] at HOF hc1 h0 HF0 HLZ ⊢
 clear hof hrow hok h hF hpay hF0 hFs hFl hlz hL2 hLe b1 hb1 hp0 hl hn
 go_enter Tryz.func63, Tryz.ntmps63
 go_wp2_with fail
 refine HOF.out.mono ?_
 rintro e w2 ⟨D, r, vd, rfl, hd2, hb2⟩
 have HD2 := hid hd2
 have HB2 := hid hb2
 have HTB := hid (table_any D w2)
 have s2 := hb2.size
 clear hd2 hb2 hw1 HOF
 go_wp2_with fail
 refine HTB.out.mono ?_
 rintro e w3 ⟨x, rfl, hx3, hxl, hb3⟩
 have s3 := hb3.size
 obtain ⟨N, hN⟩ : ∃ N, w3.heap.size = N := ⟨_, rfl⟩
 obtain ⟨w4, q0, q1, q2, ht4, hb4, s4⟩ := lay_table w3 N x hN
 have HD4 := hid ((HD2.out.below hb3).below (by rw [hN]; exact hb4))
 have HX4 := hid (hx3.below (B := N) hb4 (by rw [← hN]; exact hx3.lt))
 have HBA := hid (((HB1.out.trans (HB2.out.mono (by omega))).trans (hb3.mono (by omega))).trans (hb4.mono (by omega)))
 have HBX4 := hid (((HBX.out.below HB2.out (by omega)).below hb3 (by omega)).below hb4 (by omega))
 have HT4 := hid ht4
 have H4 := hid (HH.out.below HBA.out)
 have hbs4 : base ≤ w4.heap.size := by omega
 clear hx3 ht4 hb3 hb4 HTB HD2 HB2 HB1 HBX HH
 go_wp2_with fail
 clear q0 q1 q2
 have HTR := hid (fun W (hb : Below base w4 W) => (HROW.out.below (HBA.out.mono hbs)).below hb)
 obtain ⟨b, o, rfl, hb0, x0, -, -, -, -⟩ := (HTR.out _ (Below.refl _ _)).at HP0.out
 have HC0 := hid (fun W (hb : Below base w4 W) => (show W.cell? ⟨b, o, none⟩ = some (.int .u64 (t0 : Int)) by have := (hb.cell (p := ⟨b, o + 0 * 2, none⟩) hb0).trans x0; rw [ht0] at this; simpa using this))
 have HS0 := hid (fun W (h1 : Held W q 128 (WrSc g)) => (by
  obtain ⟨e0, e1⟩ := cC2 h1
  simp at e0 e1
  exact ⟨e0, e1⟩ : W.cell? ⟨q, 0, none⟩ = some (.func (.func 110) #[] #[.pointer (some ⟨g, 0, none⟩)]) ∧ W.cell? ⟨q, 1, none⟩ = some (.func (.func 112) #[] #[.pointer (some ⟨g, 0, none⟩)])))
 have HZ := hid (show zs.length ≤ 10000000000 by have := HLZ.out; simp only [List.length_append] at this; omega)
 have HZ1 := hid (show (zs ++ encI t0).length ≤ 10000000000 by have := HLZ.out; simp only [List.length_append] at this ⊢; omega)
 have HN3 := hid (fun W (hb : Below w4.heap.size w4 W) => sumn_any (H4.out.below hb) t0 ht0l HZ.out)
 have HALL := hid (fun W (hb : Below w4.heap.size w4 W) => (⟨(HS0.out W (HBX4.out.below hb HBX4.out.lt)).1, HC0.out W (hb.mono hbs4)⟩ : W.cell? ⟨q, 0, none⟩ = some (.func (.func 110) #[] #[.pointer (some ⟨g, 0, none⟩)]) ∧ W.cell? ⟨b, o, none⟩ = some (.int .u64 (t0 : Int))))
 have HALL2 := hid (fun W (hb : Below w4.heap.size w4 W) W2 (hk : LeftS W base g v (zs ++ encI t0) W2) => (⟨(HS0.out W2 (hk.held (H4.out.below hb) (HBX4.out.below hb HBX4.out.lt) (by decide) (by decide))).1, HC0.out W2 ((LeftS.ahead hb hk).low H4.out hbs4)⟩ : W2.cell? ⟨q, 0, none⟩ = some (.func (.func 110) #[] #[.pointer (some ⟨g, 0, none⟩)]) ∧ W2.cell? ⟨b, o, none⟩ = some (.int .u64 (t0 : Int))))
 clear x0 ht0 HROW
 have hc1' : 0 < n ∧ n ≤ c := ⟨h0, hc1⟩
 go_region_held3 (fun W => W.cell? ⟨q, 0, none⟩ = some (.func (.func 110) #[] #[.pointer (some ⟨g, 0, none⟩)]) ∧ W.cell? ⟨b, o, none⟩ = some (.int .u64 (t0 : Int)))
  (first | exact HALL2.out _ ((Below.refl _ _).drew) _ hk5 | exact HALL.out _ (Below.refl _ _).drew | exact HALL.out _ (Below.refl _ _))
  (first | (go_at_call 110; (with_reducible refine (HN3.out _ (Below.refl _ _).drew).mono ?_); rintro e w5 ⟨rfl, hk5⟩))
 have hl5 := LeftS.ahead (Below.refl _ _).drew hk5
 have x0 := (HS0.out _ (hl5.held H4.out HBX4.out (by decide) (by decide))).1
 have x1 := (HS0.out _ (hl5.held H4.out HBX4.out (by decide) (by decide))).2
 have hs5 := hl5.size
 obtain ⟨v5, hs5', hbt5, hv5⟩ := hl5
 have HC5 := hid (countS hs5' n (by omega) HZ1.out (by omega))
 have HB5 := hid hbt5
 have HV5 := hid hv5
 clear hk5 hs5' hbt5 hv5 HN3 HALL HALL2
 go_wp2_with fail
 refine HC5.out.mono ?_
 rintro e w6 ⟨rfl, hk6⟩
 have hl6 := LeftS.trans HB5.out HV5.out hk6
 have HS6 := hid (fun W (hb : Below w6.heap.size w6 W) => HS0.out _ ((hl6.held H4.out HBX4.out (by decide) (by decide)).below hb (hl6.held H4.out HBX4.out (by decide) (by decide)).lt))
 have hd6 := hl6.dict H4.out HD4.out
 have hs6 := hl6.size
 have hbx6 := hl6.held H4.out HBX4.out (by decide) (by decide)
 obtain ⟨v6, hs6', hbt6, hv6⟩ := hl6
 have HA6 := hid (fun W (hb : Below w6.heap.size w6 W) => dall_any (hd6.below hb) (by omega))
 have HD6 := hid (fun W (hb : Below w6.heap.size w6 W) (A : Option Addr) (c : Nat) (ho : W.ownsRow w6.heap.size 9 1 (.slice A L.length c) L.length (strVs L)) => dictS (hs6'.below hb) A c L ho HL2.out (by have := HLZ.out; rw [List.length_append] at this; exact this) (by have := hb.size; omega))
 have HSK := hid (fun W (hb : Below w6.heap.size w6 W) W2 (hk : LeftS W base g v6 (zs ++ encI t0 ++ encI n ++ dictB L) W2) => HS0.out W2 (hk.held (hs6'.below hb) (hbx6.below hb hbx6.lt) (by decide) (by decide)))
 have HB6 := hid hbt6
 have HV6 := hid hv6
 clear hk6 hs6' hbt6 hv6 hd6 x0 x1 HC5 HB5 HV5
 go_wp2_with fail
 go_region_held3 (fun W => W.cell? ⟨q, 0, none⟩ = some (.func (.func 110) #[] #[.pointer (some ⟨g, 0, none⟩)]) ∧ W.cell? ⟨q, 1, none⟩ = some (.func (.func 112) #[] #[.pointer (some ⟨g, 0, none⟩)]))
  (first | exact HSK.out _ b7 _ hk8 | exact HS6.out _ b7 | exact HS6.out _ (Below.refl _ _).drew | exact HS6.out _ (Below.refl _ _))
  (first
   | (go_at_call 118; (with_reducible refine (HA6.out _ (Below.refl _ _).drew).mono ?_); rintro e w7 ⟨A7, c7, rfl, ho7', hb7⟩; have ho7 : w7.ownsRow w6.heap.size 9 1 (.slice A7 L.length c7) L.length (strVs L) := ho7'; have b7 : Below w6.heap.size w6 w7 := (Below.refl _ _).drew.trans hb7)
   | (go_at_call 117; (with_reducible refine (HD6.out _ b7 A7 c7 ho7).mono ?_); rintro e w8 ⟨rfl, hk8⟩))
 have hl8 := LeftS.trans HB6.out HV6.out (LeftS.ahead b7 hk8)
 rw [← HF0.out] at hl8
 have HL8 := hid hl8
 clear hk8 b7 ho7 ho7' hb7 hl8 HA6 HD6 HSK HS6 HB6 HV6
 go_wp2_with fail
 go_loopg [29] n (fun gk i wr => ∃ (k : Nat), k ≤ n ∧ i = .int .i64 k ∧ Hid (n - k = gk) ∧ Hid (LeftS w4 base g v (F k) wr))
 case atStart => exact ⟨0, Nat.zero_le _, rfl, hid rfl, HL8⟩
 case round =>
  obtain ⟨k, hk, rfl, HGK, HL⟩ := hrel
  by_cases hlt : k < n
  ·obtain ⟨d, hd⟩ : ∃ d, l[k]? = some d := ⟨_, List.getElem?_eq_getElem (by have := HN.out; omega)⟩
   have hdm := List.mem_of_getElem? hd
   have HPO := hid (HOK.out.pts d hdm)
   have hlow := HL.out.low H4.out hbs4
   obtain ⟨_, _, e9, _, u0, u1, hokd, hl1, hl2⟩ := (HTR.out _ hlow).at hd
   injection e9 with e9
   injection e9 with e9a e9b
   subst e9a e9b
   have HGR := hid (fun W (hb : Below base w4 W) => (((HTR.out _ hb).2 d hdm).1))
   have HFE := hid (show F (k + 1) = F k ++ ptB L l k from HFS.out k)
   have HEV := hid (show evsAt l k = d.evs from evsAt_of hd)
   have HIN := hid (show ∀ e ∈ d.evs, ∀ a ∈ e.args, a.t = 2 → a.s ∈ L from fun e he a ha ht => by rw [← HLE.out]; exact addT_has l [] d hdm e he a ha ht)
   have hfl := HFL.out (k + 1) (by have := HN.out; omega)
   obtain ⟨q7, hq7⟩ : ∃ q7, wr.heap.size = q7 := ⟨_, rfl⟩
   obtain ⟨w7, hw7⟩ : ∃ w7, wr.alloc (.cells #[.int .u64 d.tm, .slice d.A d.evs.length d.c] 51) = w7 := ⟨_, rfl⟩
   have b7 : Below wr.heap.size wr w7 := by rw [← hw7]; exact (Below.refl _ _).alloc (Nat.le_refl _) _
   have h7 : Held w7 q7 51 #[.int .u64 d.tm, .slice d.A d.evs.length d.c] := by rw [← hw7, ← hq7]; exact heap_alloc_new wr _
   have HL7 := hid (HL.out.behind b7)
   have H7 := hid h7
   obtain ⟨dA, hdA⟩ : ∃ dA, d.A = dA := ⟨_, rfl⟩
   rw [hdA] at u1 hw7 H7 HGR
   have hfew := HPO.out.few
   cases k with
   | zero =>
    simp only [Nat.zero_mul, Nat.add_zero] at u0 u1
    have HF1 := hid (show F (0 + 1) = F 0 ++ evsB L d.evs by rw [HFE.out, ptB, HEV.out]; simp)
    clear hd hdm hokd h7 b7 hlow hdA
    obtain ⟨v8, hs8, hbt8, hv8⟩ := HL7.out
    have HE8 := hid (eventsS hs8 dA d.c d.evs (HGR.out _ (HL7.out.low H4.out hbs4)) HPO.out.evs HPO.out.few (HL7.out.held H4.out HX4.out (by decide) (by decide)) (HL7.out.dict H4.out HD4.out) (by omega) HIN.out (by rw [← List.length_append, ← HF1.out]; exact hfl) (Nat.le_trans hbs4 HL7.out.size))
    rw [← HF1.out] at HE8
    have y1 := H7.out.cell 1
    have z0 := (HS0.out _ (HL7.out.held H4.out HBX4.out (by decide) (by decide))).1
    have z1 := (HS0.out _ (HL7.out.held H4.out HBX4.out (by decide) (by decide))).2
    obtain ⟨t0', t1', t2'⟩ := cC3 (HL7.out.held H4.out HT4.out (by decide) (by decide))
    simp at y1 t0' t1' t2'
    have HB8 := hid hbt8
    have HV8 := hid hv8
    clear hs8 hbt8 hv8
    go_wp2_with fail
    refine HE8.out.mono ?_
    rintro e w8e ⟨rfl, hk8⟩
    have HL8e := hid (LeftS.trans HB8.out HV8.out hk8)
    clear hk8 y1 z0 z1 t0' t1' t2' HE8 HB8 HV8
    go_wp2_with fail
    go_roundg (n - (0 + 1))
    case measure => have := HGK.out; omega
    case rel => exact ⟨0 + 1, by omega, by go_num, hid rfl, HL8e⟩
   | succ m =>
    obtain ⟨d0, hd0⟩ : ∃ d, l[m]? = some d := ⟨_, List.getElem?_eq_getElem (by have := HN.out; omega)⟩
    have hord : d0.tm ≤ d.tm := HOK.out.ord m d0 d hd0 hd
    have hf0 := (HOK.out.pts d0 (List.mem_of_getElem? hd0)).fits
    have hfd := HPO.out.fits
    unfold Pm.Fits at hf0 hfd
    obtain ⟨y, hy⟩ : ∃ y : Nat, d.tm - d0.tm = (y : Int) := ⟨(d.tm - d0.tm).toNat, by omega⟩
    have hyl : y < 18446744073709551616 := by omega
    have HF1 := hid (show F (m + 1 + 1) = F (m + 1) ++ encI y ++ evsB L d.evs by
     have hst : stepN l (m + 1) = y := by
      unfold stepN
      rw [tmAt_of hd, show m + 1 - 1 = m from rfl, tmAt_of hd0, hy]
      rfl
     rw [HFE.out, ptB, HEV.out, if_pos (Nat.succ_pos m), hst, List.append_assoc])
    have HC9 := hid (fun W (hb : Below base w4 W) => (show W.cell? ⟨b, o + m * 2, none⟩ = some (.int .u64 d0.tm) from by
     obtain ⟨_, _, e9, _, z, _⟩ := (HTR.out _ hb).at hd0
     injection e9 with e9
     injection e9 with e9a e9b
     subst e9a e9b
     exact z))
    have hw9 : IntKind.u64.wrap (d.tm - d0.tm) = (y : Int) := by rw [hy]; exact IntWalk.u64_in _ (by omega)
    have hm9 : IntKind.i64.wrap (m : Int) = (m : Int) := IntWalk.i64_in _ (by omega)
    have hm1 : (0 : Int) ≤ (m : Int) := by omega
    have hm2 : (m : Int) < (n : Int) := by omega
    have hm3 : ¬ (m : Int) < 0 := by omega
    have hm4 : ¬ (n : Int) ≤ (m : Int) := by omega
    have hm5 : m < n := by omega
    obtain ⟨v8, hs8, hbt8, hv8⟩ := HL7.out
    have HN9 := hid (fun W (hb : Below w7.heap.size w7 W) => sumn_any (hs8.below hb) y hyl (HFL.out (m + 1) (by have := HN.out; omega)))
    have HQ7 := hid (HL7.out.held H4.out HBX4.out (by decide) (by decide))
    have HALL := hid (fun W (hb : Below w7.heap.size w7 W) => (⟨(HS0.out W (HQ7.out.below hb HQ7.out.lt)).1, by have := (H7.out.below hb H7.out.lt).cell 0; simpa using this, HC9.out W ((HL7.out.low H4.out hbs4).trans (hb.mono (Nat.le_trans hbs4 HL7.out.size)))⟩ : W.cell? ⟨q, 0, none⟩ = some (.func (.func 110) #[] #[.pointer (some ⟨g, 0, none⟩)]) ∧ W.cell? ⟨q7, 0, none⟩ = some (.int .u64 d.tm) ∧ W.cell? ⟨b, o + m * 2, none⟩ = some (.int .u64 d0.tm)))
    have HK7 := hid (fun W (hb : Below w7.heap.size w7 W) W2 (hk : LeftS W base g v8 (F (m + 1) ++ encI y) W2) => hk.held (hs8.below hb) (H7.out.below hb H7.out.lt) (by decide) (by decide))
    have HALL2 := hid (fun W (hb : Below w7.heap.size w7 W) W2 (hk : LeftS W base g v8 (F (m + 1) ++ encI y) W2) => (⟨(HS0.out W2 (hk.held (hs8.below hb) (HQ7.out.below hb HQ7.out.lt) (by decide) (by decide))).1, by have := (HK7.out W hb W2 hk).cell 0; simpa using this, HC9.out W2 ((LeftS.trans hbt8 hv8 (LeftS.ahead hb hk)).low H4.out hbs4)⟩ : W2.cell? ⟨q, 0, none⟩ = some (.func (.func 110) #[] #[.pointer (some ⟨g, 0, none⟩)]) ∧ W2.cell? ⟨q7, 0, none⟩ = some (.int .u64 d.tm) ∧ W2.cell? ⟨b, o + m * 2, none⟩ = some (.int .u64 d0.tm)))
    have HB8 := hid hbt8
    have HV8 := hid hv8
    clear hd hdm hokd h7 b7 hlow hdA hd0 hf0 hfd hs8 hbt8 hv8 hy
    go_wp2_with fail
    go_region_held3 (fun W => W.cell? ⟨q, 0, none⟩ = some (.func (.func 110) #[] #[.pointer (some ⟨g, 0, none⟩)]) ∧ W.cell? ⟨q7, 0, none⟩ = some (.int .u64 d.tm) ∧ W.cell? ⟨b, o + m * 2, none⟩ = some (.int .u64 d0.tm))
     (first | exact HALL2.out _ ((Below.refl _ _).drew) _ hk9 | exact HALL.out _ (Below.refl _ _).drew | exact HALL.out _ (Below.refl _ _))
     (first | (go_at_call 110; (with_reducible refine (HN9.out _ (Below.refl _ _).drew).mono ?_); rintro e w9 ⟨rfl, hk9⟩))
    have HL9 := hid (LeftS.trans HB8.out HV8.out (LeftS.ahead (Below.refl _ _).drew hk9))
    have H9 := hid (HK7.out _ (Below.refl _ _).drew _ hk9)
    clear hk9 HN9 HALL HALL2 HK7 HQ7 HB8 HV8 hw9 hm9 u0 u1
    obtain ⟨v9, hs9, hbt9, hv9⟩ := HL9.out
    have HE9 := hid (eventsS hs9 dA d.c d.evs (HGR.out _ (HL9.out.low H4.out hbs4)) HPO.out.evs HPO.out.few (HL9.out.held H4.out HX4.out (by decide) (by decide)) (HL9.out.dict H4.out HD4.out) (by omega) HIN.out (by rw [← List.length_append, ← HF1.out]; exact hfl) (Nat.le_trans hbs4 HL9.out.size))
    rw [← HF1.out] at HE9
    have y1 := H9.out.cell 1
    have z0 := (HS0.out _ (HL9.out.held H4.out HBX4.out (by decide) (by decide))).1
    have z1 := (HS0.out _ (HL9.out.held H4.out HBX4.out (by decide) (by decide))).2
    obtain ⟨t0', t1', t2'⟩ := cC3 (HL9.out.held H4.out HT4.out (by decide) (by decide))
    simp at y1 t0' t1' t2'
    have HB9 := hid hbt9
    have HV9 := hid hv9
    clear hs9 hbt9 hv9
    go_wp2_with fail
    refine HE9.out.mono ?_
    rintro e w9e ⟨rfl, hk9⟩
    have HL9e := hid (LeftS.trans HB9.out HV9.out hk9)
    clear hk9 y1 z0 z1 t0' t1' t2' HE9 HB9 HV9
    go_wp2_with fail
    go_roundg (n - (m + 1 + 1))
    case measure => have := HGK.out; omega
    case rel => exact ⟨m + 1 + 1, by omega, by go_num, hid rfl, HL9e⟩
  ·obtain rfl : k = n := by omega
   go_wp2_with fail
   go_end0
   exact ⟨rfl, LeftS.ahead HBA.out HL.out⟩
section
variable (A : Option Addr) (c : Nat) (ds : List Pd) (T : Option Addr) (ct : Nat) (ps : List Pm) (w : World)
theorem bcheck_any (hrow : PredRow w w.heap.size (.slice A ds.length c) ds) (ht : TrRow w w.heap.size (.slice T ps.length ct) ps) :
  Calls Tryz.prog 109 #[.slice A ds.length c, .slice T ps.length ct] w fun e w' => e = .returned (.int .i64 (checkB (ds.map (·.p)) ps)) ∧ Below w.heap.size w w' := by
 obtain ⟨-, hc1, hc2⟩ := ht.1.len
 have HCK := hid (tcheck_any A c ds T ct ps w hrow ht)
 clear hrow ht
 unfold checkB
 by_cases h0 : ps.length = 0
 ·rw [if_pos h0]
  rw [h0] at HCK hc1 ⊢
  clear h0
  go_enter Tryz.func109, Tryz.ntmps109
  go_wp2_with fail
  go_ret
  exact ⟨rfl, Below.refl _ _⟩
 ·rw [if_neg h0]
  have hn0 : ¬ (ps.length : Int) = 0 := by omega
  have hne0 : ((ps.length : Int) == 0) = false := beq_eq_false_iff_ne.2 hn0
  generalize checkT (ds.map (·.p)) (ps.map (·.p)) = C at HCK ⊢
  obtain ⟨n, hn⟩ : ∃ n, ps.length = n := ⟨_, rfl⟩
  rw [hn] at HCK hc1 h0 hn0 hne0 ⊢
  clear hn
  by_cases h1 : C.1 = 0
  ·rw [if_neg (fun h => h h1)]
   rw [h1] at HCK
   by_cases h2 : 1024 < n
   ·rw [if_pos h2]
    have h2' : (1024 : Int) < (n : Int) := by omega
    go_enter Tryz.func109, Tryz.ntmps109
    go_wp2_with fail
    refine HCK.out.mono ?_
    rintro e w1 ⟨rfl, hb1⟩
    go_wp2_with fail
    go_ret
    exact ⟨rfl, hb1⟩
   ·rw [if_neg h2]
    have h2' : ¬ (1024 : Int) < (n : Int) := by omega
    have h2'' : (n : Int) ≤ 1024 := by omega
    go_enter Tryz.func109, Tryz.ntmps109
    go_wp2_with fail
    refine HCK.out.mono ?_
    rintro e w1 ⟨rfl, hb1⟩
    go_wp2_with fail
    go_ret
    exact ⟨rfl, hb1⟩
  ·rw [if_pos h1]
   have hne : (C.1 != 0) = true := bne_iff_ne.2 h1
   go_enter Tryz.func109, Tryz.ntmps109
   go_wp2_with fail
   refine HCK.out.mono ?_
   rintro e w1 ⟨rfl, hb1⟩
   go_wp2_with fail
   go_ret
   exact ⟨rfl, hb1⟩
theorem bsize_any (hrow : PredRow w w.heap.size (.slice A ds.length c) ds) (ht : TrRow w w.heap.size (.slice T ps.length ct) ps) :
  Calls Tryz.prog 58 #[.slice A ds.length c, .slice T ps.length ct] w fun e w' => e = .returned (.tuple #[.int .i64 ((wholeB (ds.map (·.p)) ps).1.length : Nat), .int .i64 (wholeB (ds.map (·.p)) ps).2]) ∧ Below w.heap.size w w' := by
 have HCK := hid (bcheck_any A c ds T ct ps w hrow ht)
 unfold wholeB
 by_cases h0 : checkB (ds.map (·.p)) ps = 0
 ·rw [if_pos h0]
  have hbo := ht.bok h0
  have hpl := payB_len hbo
  have hp0 := (checkB_zero h0).1
  rw [h0] at HCK
  obtain ⟨B, hB⟩ : ∃ B, w.heap.size = B := ⟨_, rfl⟩
  rw [hB] at HCK ht ⊢
  have HT := hid ht
  have HBO := hid hbo
  clear hrow ht hbo h0
  go_enter Tryz.func58, Tryz.ntmps58
  go_wp2_with fail
  refine HCK.out.mono ?_
  rintro e w1 ⟨rfl, hb1⟩
  have z1 := hb1.size
  rw [hB] at z1
  obtain ⟨N, hN⟩ : ∃ N, w1.heap.size = N := ⟨_, rfl⟩
  obtain ⟨w2, hw2⟩ : ∃ w2, w1.alloc (.cells #[.int .i64 0] 3) = w2 := ⟨_, rfl⟩
  have b2 : Below w1.heap.size w1 w2 := by rw [← hw2]; exact (Below.refl _ _).alloc (Nat.le_refl _) _
  have s2 : w2.heap.size = N + 1 := by rw [← hw2, World.size_alloc, hN]
  have h2 : Held w2 N 3 #[.int .i64 0] := by rw [← hw2, ← hN]; exact heap_alloc_new w1 _
  obtain ⟨w3, q0, q1, h3, b3, s3⟩ := lay_writer w2 (N + 1) (.func (.func 110) #[] #[.pointer (some ⟨N, 0, none⟩)]) (.func (.func 112) #[] #[.pointer (some ⟨N, 0, none⟩)]) rfl rfl s2
  have hs3 : SnkS w3 B N (.slice none 0 0) [] := ⟨by simpa using h2.below b3 (Nat.lt_succ_self N), by omega, own_nil _ _ _⟩
  have hB3 : Below B w w3 := (hb1.trans (b2.mono (by omega))).trans (b3.mono (by omega))
  have HP := pointsS hs3 T ct ps (HT.out.below hB3) HBO.out hp0 (by simp; omega) (by omega)
  rw [List.nil_append] at HP
  have HP := hid HP
  have HB3 := hid hB3
  have HS3 := hid hs3
  obtain ⟨x0, x1⟩ := cC2 h3
  simp at x0 x1
  clear h2 h3 b2 b3 hs3 hB3 hb1 HT HBO
  subst hw2
  go_wp2_with fail
  refine HP.out.mono ?_
  rintro e w4 ⟨rfl, hk4⟩
  have hB4 := HB3.out.trans (hk4.low HS3.out (by omega))
  obtain ⟨v4, hs4, _, _⟩ := hk4
  have y0 := hs4.held.cell 0
  simp at y0
  clear x0 x1 q0 q1
  go_wp2_with fail
  go_ret2
  exact ⟨rfl, hB4⟩
 ·rw [if_neg h0]
  have hne : (checkB (ds.map (·.p)) ps != 0) = true := bne_iff_ne.2 h0
  generalize checkB (ds.map (·.p)) ps = C at HCK hne ⊢
  clear hrow ht h0
  go_enter Tryz.func58, Tryz.ntmps58
  go_wp2_with fail
  refine HCK.out.mono ?_
  rintro e w1 ⟨rfl, hb1⟩
  go_wp2_with fail
  go_ret2
  exact ⟨rfl, hb1⟩
def BGot (w : World) (r : List Int × Int) (e : Ending) (W' : World) : Prop :=
 ∃ A c, e = .returned (.tuple #[.slice A r.1.length c, .int .i64 r.2]) ∧ W'.ownsRow w.heap.size 5 1 (.slice A r.1.length c) r.1.length (r.1.map (.int .u8)) ∧ Below w.heap.size w W'
theorem blput_any (hrow : PredRow w w.heap.size (.slice A ds.length c) ds) (ht : TrRow w w.heap.size (.slice T ps.length ct) ps) :
  Calls Tryz.prog 17 #[.slice A ds.length c, .slice T ps.length ct] w (BGot w (putB (ds.map (·.p)) ps)) := by
 have HSZ := bsize_any A c ds T ct ps w hrow ht
 unfold wholeB at HSZ
 unfold putB
 by_cases h0 : checkB (ds.map (·.p)) ps = 0
 ·rw [if_pos h0] at HSZ ⊢
  have hbo := ht.bok h0
  have hpl := payB_len hbo
  have hp0 := (checkB_zero h0).1
  have HSZ := hid HSZ
  by_cases h1 : 4096 < (payB ps).length
  ·rw [if_pos h1]
   have h1' : (4096 : Int) < ((payB ps).length : Nat) := by omega
   generalize payB ps = P at HSZ h1 h1' hpl
   clear hrow ht hbo h0
   go_enter Tryz.func17, Tryz.ntmps17
   go_wp2_with fail
   refine HSZ.out.mono ?_
   rintro e w1 ⟨rfl, hb1⟩
   go_wp2_with fail
   go_ret2
   exact ⟨none, 0, rfl, World.ownsRow_nil _ _ _ _, hb1⟩
  ·rw [if_neg h1]
   have h1' : ¬ (4096 : Int) < ((payB ps).length : Nat) := by omega
   obtain ⟨i0, hi, hz0, hz1, hz2⟩ := info_parts Tryz.infoU8
   obtain ⟨B, hB⟩ : ∃ B, w.heap.size = B := ⟨_, rfl⟩
   unfold BGot
   rw [hB] at HSZ ht ⊢
   have HT := hid ht
   have HBO := hid hbo
   obtain ⟨n, hn⟩ : ∃ n, (payB ps).length = n := ⟨_, rfl⟩
   rw [hn] at HSZ h1 h1' hpl
   have HN := hid hn
   have HPT := hid (fun (w3 : World) (g : Nat) (v : Value) (hs3 : SnkP w3 B g v []) (hB3 : Below B w w3) (hbs : B ≤ w3.heap.size) => pointsP hs3 T ct ps (HT.out.below hB3) HBO.out hp0 (by rw [HN.out]; simp; omega) hbs)
   clear hrow ht hbo h0 hn
   go_enter Tryz.func17, Tryz.ntmps17
   go_wp2_with fail
   refine HSZ.out.mono ?_
   rintro e w1 ⟨rfl, hb1⟩
   have z1 := hb1.size
   rw [hB] at z1
   obtain ⟨M, hM⟩ : ∃ M, w1.heap.size = M := ⟨_, rfl⟩
   go_wp2_with (at_make; refine wpList_make_own _ rfl _ _ 23 rfl B 5 i0 (.int .u8 0) 1 Tryz.underlying23 hi hz0 hz1 .i64 .i64 _ n rfl rfl (by simp) (by rw [hz2]; omega) (by simp only [maxLen]; omega) (by omega) ?_; intro w2 hown2 hg2; obtain ⟨N, hN⟩ : ∃ N, w2.heap.size = N := ⟨_, rfl⟩; obtain ⟨w3, hw3⟩ : ∃ w3, w2.alloc (.cells #[.slice (some ⟨M, 0, none⟩) 0 n] 23) = w3 := ⟨_, rfl⟩; have s3 : w3.heap.size = N + 1 := (by rw [← hw3, World.size_alloc, hN]); obtain ⟨w4, q0, q1, h4, b4, s4⟩ := lay_writer w3 (N + 1) (.func (.func 59) #[] #[.pointer (some ⟨N, 0, none⟩)]) (.func (.func 61) #[] #[.pointer (some ⟨N, 0, none⟩)]) rfl rfl s3; have x0 := h4.cell 0; have x1 := h4.cell 1; simp at x0 x1)
   have z2 := hg2.size
   have b3 : Below w2.heap.size w2 w3 := by rw [← hw3]; exact (Below.refl _ _).alloc (Nat.le_refl _) _
   have h3 : Held w3 N 23 #[.slice (some ⟨M, 0, none⟩) 0 n] := by rw [← hw3, ← hN]; exact heap_alloc_new w2 _
   rw [hM] at hown2
   have b2 : Below B w w2 := hb1.grown hg2 (by omega) (fun j e => by cases e)
   have hB4 : Below B w w4 := (b2.trans (b3.mono (by omega))).trans (b4.mono (by omega))
   have hs4 : SnkP w4 B N (.slice (some ⟨M, 0, none⟩) 0 n) [] := ⟨h3.below b4 (Nat.lt_succ_self N), by omega, by
    have := own_below (own_below hown2 b3) (by rw [s3]; exact b4)
    simpa using this⟩
   have HP := HPT.out w4 N _ hs4 hB4 (by omega)
   rw [List.nil_append] at HP
   have HP := hid HP
   have HB4 := hid hB4
   have HS4 := hid hs4
   clear h3 h4 b2 b3 b4 hs4 hB4 hb1 HT HBO HPT hown2 hg2 q0 q1 hw3
   refine HP.out.mono ?_
   rintro e w5 ⟨rfl, hk5⟩
   have hB5 := HB4.out.trans (hk5.low HS4.out (by omega))
   obtain ⟨v5, hs5, _, _⟩ := hk5
   have y0 := hs5.held.cell 0
   simp at y0
   obtain ⟨A5, c5, rfl⟩ := own_form hs5.own
   have HO5 := hid hs5.own
   clear hs5 x0 x1
   go_wp2_with fail
   go_ret2
   exact ⟨A5, c5, rfl, HO5.out, hB5⟩
 ·rw [if_neg h0] at HSZ ⊢
  have hne : (checkB (ds.map (·.p)) ps != 0) = true := bne_iff_ne.2 h0
  generalize checkB (ds.map (·.p)) ps = C at HSZ hne ⊢
  have HSZ := hid HSZ
  clear hrow ht h0
  go_enter Tryz.func17, Tryz.ntmps17
  go_wp2_with fail
  refine HSZ.out.mono ?_
  rintro e w1 ⟨rfl, hb1⟩
  go_wp2_with fail
  go_ret2
  exact ⟨none, 0, rfl, World.ownsRow_nil _ _ _ _, hb1⟩
end
def stepsU {α σ : Type} (f : Nat → σ → α × σ) (s : σ) : Nat → List α × σ
 | 0 => ([], s)
 | j + 1 => ((stepsU f s j).1 ++ [(f j (stepsU f s j).2).1], (f j (stepsU f s j).2).2)
section
variable {α σ : Type} {f g : Nat → σ → α × σ} {s : σ}
theorem stepsU_length : ∀ n, (stepsU f s n).1.length = n
 | 0 => rfl
 | n + 1 => by rw [stepsU, List.length_append, stepsU_length n]; rfl
theorem stepsU_inv {I : σ → Prop} (h0 : I s) (h : ∀ j s, I s → I (f j s).2) : ∀ n, I (stepsU f s n).2
 | 0 => h0
 | n + 1 => h n _ (stepsU_inv h0 h n)
theorem stepsU_all {I : σ → Prop} {P : α → Prop} (h0 : I s) (h : ∀ j s, I s → I (f j s).2 ∧ P (f j s).1) : ∀ n, ∀ a ∈ (stepsU f s n).1, P a
 | 0, a, ha => by simp [stepsU] at ha
 | n + 1, a, ha => by
  rw [stepsU] at ha
  rcases List.mem_append.1 ha with ha | ha
  ·exact stepsU_all h0 h n a ha
  ·rw [List.mem_singleton.1 ha]
   exact (h n _ (stepsU_inv h0 (fun j s hs => (h j s hs).1) n)).2
theorem stepsU_stop {er : σ → Int} (h : ∀ j s, er s ≠ 0 → er (f j s).2 = er s) {k : Nat} (he : er (stepsU f s k).2 ≠ 0) : ∀ n, k ≤ n → er (stepsU f s n).2 = er (stepsU f s k).2
 | 0, hk => by rw [Nat.le_zero.1 hk]
 | n + 1, hk => by
  by_cases hkn : k = n + 1
  ·rw [hkn]
  ·have ih := stepsU_stop h he n (by omega)
   rw [stepsU]
   exact (h n _ (by rw [ih]; exact he)).trans ih
theorem stepsU_zero {er : σ → Int} (h : ∀ j s, er s ≠ 0 → er (f j s).2 = er s) {n k : Nat} (hk : k ≤ n) (he : er (stepsU f s n).2 = 0) : er (stepsU f s k).2 = 0 :=
 Classical.byContradiction fun q => q (by rw [← stepsU_stop h q n hk]; exact he)
end
abbrev m64 : Int := 18446744073709551615
def stU (e q : Int) : Int := if e = 0 then q else e
theorem stU_zero (q : Int) : stU 0 q = q := rfl
theorem stU_kept {e : Int} (h : e ≠ 0) (q : Int) : stU e q = e := if_neg h
def nx (m : Int) (xs : List Int) (p : Nat) (e : Int) : Int × Nat × Int := tk 0 p e (getN m (xs.drop p))
def sx (xs : List Int) (p : Nat) (e : Int) : Int × Nat × Int := tk 0 p e (getS (xs.drop p))
def tx (xs : List Int) (p : Nat) (e : Int) : List Int × Nat × Int := tk [] p e (getT 200 (xs.drop p))
def txtU (D : List (List Int)) (xs : List Int) (p : Nat) (e : Int) : List Int × Nat × Int :=
 if (D.length : Int) ≤ (nx m64 xs p e).1 then ([], (nx m64 xs p e).2.1, stU (nx m64 xs p e).2.2 10) else (D.getD (nx m64 xs p e).1.toNat [], (nx m64 xs p e).2)
def argU (D : List (List Int)) (t : Int) (xs : List Int) (p : Nat) (e : Int) : Ag × Nat × Int :=
 if t = 1 then (⟨t, (sx xs p e).1, []⟩, (sx xs p e).2) else (⟨t, 0, (txtU D xs p e).1⟩, (txtU D xs p e).2)
def argsU (D : List (List Int)) (ts xs : List Int) (s : Nat × Int) (n : Nat) : List Ag × Nat × Int := stepsU (fun j s => argU D (ts.getD j 0) xs s.1 s.2) s n
def evU (sig : List Pr) (D : List (List Int)) (xs : List Int) (p : Nat) (e : Int) : Ev × Nat × Int :=
 if (sig.length : Int) ≤ (nx m64 xs p e).1 then (⟨0, []⟩, (nx m64 xs p e).2.1, stU (nx m64 xs p e).2.2 9)
 else (⟨(nx m64 xs p e).1, (argsU D (sig.getD (nx m64 xs p e).1.toNat default).args xs (nx m64 xs p e).2 (sig.getD (nx m64 xs p e).1.toNat default).args.length).1⟩,
  (argsU D (sig.getD (nx m64 xs p e).1.toNat default).args xs (nx m64 xs p e).2 (sig.getD (nx m64 xs p e).1.toNat default).args.length).2)
def evnU (sig : List Pr) (D : List (List Int)) (xs : List Int) (s : Nat × Int) (n : Nat) : List Ev × Nat × Int := stepsU (fun _ s => evU sig D xs s.1 s.2) s n
def evsU (sig : List Pr) (D : List (List Int)) (xs : List Int) (p : Nat) (e : Int) : List Ev × Nat × Int := evnU sig D xs (nx 1024 xs p e).2 (nx 1024 xs p e).1.toNat
def laterU (xs : List Int) (tm : Int) (p : Nat) (e : Int) : Int × Nat × Int :=
 ((tm + (nx m64 xs p e).1) % 18446744073709551616, (nx m64 xs p e).2.1, if m64 - tm < (nx m64 xs p e).1 then stU (nx m64 xs p e).2.2 8 else (nx m64 xs p e).2.2)
def whenU (xs : List Int) (i : Nat) (s : Int × Nat × Int) : Int × Nat × Int := if i = 0 then s else laterU xs s.1 s.2.1 s.2.2
def ptU (sig : List Pr) (D : List (List Int)) (xs : List Int) (i : Nat) (s : Int × Nat × Int) : Pn × Int × Nat × Int :=
 (⟨(whenU xs i s).1, (evsU sig D xs (whenU xs i s).2.1 (whenU xs i s).2.2).1⟩, (whenU xs i s).1, (evsU sig D xs (whenU xs i s).2.1 (whenU xs i s).2.2).2)
def ptsU (sig : List Pr) (D : List (List Int)) (xs : List Int) (s : Int × Nat × Int) (n : Nat) : List Pn × Int × Nat × Int := stepsU (ptU sig D xs) s n
def countU (xs : List Int) (p : Nat) (e : Int) : Int × Nat × Int := ((nx 1024 xs p e).1, (nx 1024 xs p e).2.1, if (nx 1024 xs p e).1 = 0 then stU (nx 1024 xs p e).2.2 4 else (nx 1024 xs p e).2.2)
def txsU (xs : List Int) (s : Nat × Int) (n : Nat) : List (List Int) × Nat × Int := stepsU (fun _ s => tx xs s.1 s.2) s n
def dictU (xs : List Int) (p : Nat) (e : Int) : List (List Int) × Nat × Int := txsU xs (nx 4096 xs p e).2 (nx 4096 xs p e).1.toNat
def baseU (xs : List Int) : Int × Nat × Int := nx m64 xs 0 0
def cntU (xs : List Int) : Int × Nat × Int := countU xs (baseU xs).2.1 (baseU xs).2.2
def dicU (xs : List Int) : List (List Int) × Nat × Int := dictU xs (cntU xs).2.1 (cntU xs).2.2
def readU (sig : List Pr) (xs : List Int) : List Pn × Int × Nat × Int := ptsU sig (dicU xs).1 xs ((baseU xs).1, (dicU xs).2) (cntU xs).1.toNat
def bareE (e : Ev) : Em := ⟨e.p, e.args, none, 0⟩
def bareP (p : Pn) : Pm := ⟨p.tm, p.evs.map bareE, none, 0⟩
def bare (d : Pm) : Pm := bareP d.p
theorem bareP_p (p : Pn) : (bareP p).p = p := by
 obtain ⟨t, l⟩ := p
 simp only [bareP, Pm.p, List.map_map]
 congr 1
 rw [show ((fun x : Em => x.e) ∘ bareE) = id from rfl, List.map_id]
theorem map_bare_p (l : List Pn) : (l.map bareP).map (·.p) = l := by
 rw [List.map_map, show ((fun x : Pm => x.p) ∘ bareP) = id from funext bareP_p, List.map_id]
theorem addE_bare : ∀ (l : List Em) (L : List (List Int)), addE L (l.map fun e => bareE e.e) = addE L l
 | [], _ => rfl
 | e :: l, L => addE_bare l (addA L e.args)
theorem addT_bare : ∀ (l : List Pm) (L : List (List Int)), addT L (l.map bare) = addT L l
 | [], _ => rfl
 | p :: l, L => by
  show addT (addE L (bare p).evs) (l.map bare) = addT (addE L p.evs) l
  rw [show (bare p).evs = p.evs.map fun e => bareE e.e by simp [bare, bareP, List.map_map], addE_bare]
  exact addT_bare l _
theorem evsB_bare (D : List (List Int)) (p : Pm) : evsB D (bare p).evs = evsB D p.evs := by
 rw [show (bare p).evs = p.evs.map fun e => bareE e.e by simp [bare, bareP, List.map_map]]
 unfold evsB evlB
 rw [List.length_map, List.flatMap_map]
 rfl
theorem bare_at (l : List Pm) (i : Nat) : (l.map bare)[i]? = (l[i]?).map bare := List.getElem?_map
theorem tmAt_bare (l : List Pm) (i : Nat) : tmAt (l.map bare) i = tmAt l i := by
 unfold tmAt
 rw [bare_at]
 cases l[i]? <;> rfl
theorem ptB_bare (D : List (List Int)) (l : List Pm) (i : Nat) : ptB D (l.map bare) i = ptB D l i := by
 unfold ptB stepN
 rw [tmAt_bare, tmAt_bare]
 congr 1
 unfold evsAt
 rw [bare_at]
 cases l[i]? with
 | none => rfl
 | some p => exact evsB_bare D p
theorem payB_bare (l : List Pm) : payB (l.map bare) = payB l := by
 unfold payB headB ptsB
 rw [tmAt_bare, addT_bare, List.length_map]
 congr 2
 exact flatMap_same fun i _ => ptB_bare _ _ _
theorem bare_p (d : Pm) : (bare d).p = d.p := bareP_p _
theorem putB_bare (sig : List Pr) (l : List Pm) : putB sig (l.map bare) = putB sig l := by
 have h : checkB sig (l.map bare) = checkB sig l := by
  unfold checkB
  rw [List.length_map, List.map_map, show ((fun x : Pm => x.p) ∘ bare) = (·.p) from funext bare_p]
 unfold putB
 rw [h, payB_bare]
theorem putB_plain (sig : List Pr) (l : List Pm) : putB sig ((l.map (·.p)).map bareP) = putB sig l := by
 rw [List.map_map]
 exact putB_bare sig l
def wayU (sig : List Pr) (xs : List Int) (l : List Pn) : Int := if 4096 < xs.length then 6 else if putB sig (l.map bareP) = (xs, 0) then 0 else 4
def endU (sig : List Pr) (xs : List Int) (r : List Pn × Int × Nat × Int) : Int := if r.2.2.2 ≠ 0 then r.2.2.2 else if r.2.2.1 < xs.length then 4 else wayU sig xs r.1
def getU (sig : List Pr) (xs : List Int) : List Pn × Int :=
 if checkP sig ≠ 0 then ([], checkP sig) else if endU sig xs (readU sig xs) ≠ 0 then ([], endU sig xs (readU sig xs)) else ((readU sig xs).1, 0)
section
variable {xs : List Int} {p : Nat} {e m : Int} {D : List (List Int)} {sig : List Pr}
theorem nx_stop (h : e ≠ 0) : nx m xs p e = (0, p, e) := tk_stopped h
theorem sx_stop (h : e ≠ 0) : sx xs p e = (0, p, e) := tk_stopped h
theorem tx_stop (h : e ≠ 0) : tx xs p e = ([], p, e) := tk_stopped h
theorem txtU_stop (h : e ≠ 0) : (txtU D xs p e).2 = (p, e) := by
 unfold txtU
 rw [nx_stop h]
 split
 ·rw [stU_kept h]
 ·rfl
theorem argU_stop {t : Int} (h : e ≠ 0) : (argU D t xs p e).2 = (p, e) := by
 unfold argU
 split
 ·rw [sx_stop h]
 ·exact txtU_stop h
theorem argsU_stop {ts : List Int} (h : e ≠ 0) (n : Nat) : (argsU D ts xs (p, e) n).2.2 = e :=
 stepsU_stop (f := fun j s => argU D (ts.getD j 0) xs s.1 s.2) (s := (p, e)) (er := fun s : Nat × Int => s.2) (k := 0) (fun j s hs => by rw [argU_stop hs]) h n (Nat.zero_le n)
theorem evU_stop (h : e ≠ 0) : (evU sig D xs p e).2.2 = e := by
 unfold evU
 rw [nx_stop h]
 split
 ·exact stU_kept h 9
 ·exact argsU_stop h _
theorem evnU_stop (h : e ≠ 0) (n : Nat) : (evnU sig D xs (p, e) n).2.2 = e :=
 stepsU_stop (f := fun _ s => evU sig D xs s.1 s.2) (s := (p, e)) (er := fun s : Nat × Int => s.2) (k := 0) (fun j s hs => evU_stop hs) h n (Nat.zero_le n)
theorem evsU_stop (h : e ≠ 0) : (evsU sig D xs p e).2.2 = e := by
 unfold evsU
 rw [nx_stop h]
 exact evnU_stop h _
theorem laterU_stop {tm : Int} (h : e ≠ 0) : (laterU xs tm p e).2.2 = e := by
 unfold laterU
 rw [nx_stop h]
 dsimp only
 split
 ·exact stU_kept h 8
 ·rfl
theorem ptU_stop {i : Nat} {s : Int × Nat × Int} (h : s.2.2 ≠ 0) : (ptU sig D xs i s).2.2.2 = s.2.2 := by
 unfold ptU whenU
 dsimp only
 split
 ·exact evsU_stop h
 ·have h2 := laterU_stop (xs := xs) (tm := s.1) (p := s.2.1) h
  rw [evsU_stop (by rw [h2]; exact h), h2]
theorem txsU_stop (h : e ≠ 0) (n : Nat) : (txsU xs (p, e) n).2.2 = e :=
 stepsU_stop (f := fun _ s => tx xs s.1 s.2) (s := (p, e)) (er := fun s : Nat × Int => s.2) (k := 0) (fun j s hs => by rw [tx_stop hs]) h n (Nat.zero_le n)
theorem dictU_stop (h : e ≠ 0) : (dictU xs p e).2.2 = e := by
 unfold dictU
 rw [nx_stop h]
 exact txsU_stop h _
end
section
variable {xs : List Int} {p : Nat} {e m : Int} {D : List (List Int)} {sig : List Pr} (hb : ∀ x ∈ xs, 0 ≤ x ∧ x < 256)
include hb
theorem nx_range (hm : 0 ≤ m) (hp : p ≤ xs.length) : (∃ n : Nat, (nx m xs p e).1 = (n : Int) ∧ (n : Int) ≤ m ∧ n < 18446744073709551616) ∧ p ≤ (nx m xs p e).2.1 ∧ (nx m xs p e).2.1 ≤ xs.length := by
 obtain ⟨h1, h2, _⟩ := tk_never (z := (0 : Int)) (e := e) (r := getN m (xs.drop p)) hp (fun h => by have := (getN_fits m (xs.drop p) (drop_bytes hb p)).1 h; rw [List.length_drop] at this; exact this)
 refine ⟨?_, h1, h2⟩
 unfold nx tk
 split
 ·exact ⟨0, rfl, hm, by omega⟩
 ·split
  ·exact ⟨0, rfl, hm, by omega⟩
  ·rename_i _ h
   have h0 : (getN m (xs.drop p)).2.2 = 0 := by simpa using h
   have hr := getI_range (xs.drop p) (drop_bytes hb p)
   unfold getN at h0 ⊢
   split
   ·rename_i q
    rw [if_pos q] at h0
    cases h0
   ·rename_i q
    rw [if_neg q] at h0
    have : ¬ m < (getI (xs.drop p)).1 := fun h => q ⟨h0, h⟩
    exact ⟨(getI (xs.drop p)).1.toNat, by simp only; omega, by omega, by omega⟩
theorem nx_le (hm : 0 ≤ m) (hp : p ≤ xs.length) : (nx m xs p e).2.1 ≤ xs.length := (nx_range hb hm hp).2.2
theorem sx_range (hp : p ≤ xs.length) : (-9223372036854775808 ≤ (sx xs p e).1 ∧ (sx xs p e).1 ≤ 9223372036854775807) ∧ (sx xs p e).2.1 ≤ xs.length := by
 obtain ⟨_, h2, _⟩ := tk_never (z := (0 : Int)) (e := e) (r := getS (xs.drop p)) hp (fun h => by have := (getS_fits (xs.drop p) (drop_bytes hb p)).1 h; rw [List.length_drop] at this; exact this)
 refine ⟨?_, h2⟩
 unfold sx tk
 split
 ·simp
 ·split
  ·simp
  ·obtain ⟨h3, h4⟩ := getI_range (xs.drop p) (drop_bytes hb p)
   exact unfoldI_range h3 h4
theorem tx_range (hp : p ≤ xs.length) : ((tx xs p e).1.length ≤ 200 ∧ ∀ x ∈ (tx xs p e).1, 0 ≤ x ∧ x < 256) ∧ (tx xs p e).2.1 ≤ xs.length := by
 refine ⟨⟨?_, (tkT_bytes hb 200).2⟩, (tkT_le hb 200 hp).2⟩
 unfold tx tk
 split
 ·simp
 ·split
  ·simp
  ·rename_i _ h
   have h0 : (getT 200 (xs.drop p)).2.2 = 0 := by simpa using h
   unfold getT at h0 ⊢
   split
   ·simp
   ·split
    ·simp
    ·split
     ·simp
     ·simp only [List.length_take, List.length_drop]
      omega
theorem txtU_range (hD : Tx200 D) (hp : p ≤ xs.length) : ((txtU D xs p e).1.length ≤ 200 ∧ ∀ x ∈ (txtU D xs p e).1, 0 ≤ x ∧ x < 256) ∧ (txtU D xs p e).2.1 ≤ xs.length := by
 obtain ⟨⟨n, h1, _, _⟩, _, h2⟩ := nx_range (e := e) hb (m := m64) (by decide) hp
 unfold txtU
 rw [h1]
 split
 ·exact ⟨by simp, h2⟩
 ·rename_i h
  refine ⟨?_, h2⟩
  rw [Int.toNat_natCast]
  have hlt : n < D.length := by omega
  rw [List.getD, List.getElem?_eq_getElem hlt, Option.getD_some]
  exact hD _ (List.getElem_mem hlt)
theorem argU_range {t : Int} (ht : -9223372036854775808 ≤ t ∧ t ≤ 9223372036854775807) (hD : Tx200 D) (hp : p ≤ xs.length) : (argU D t xs p e).1.Fits ∧ (argU D t xs p e).2.1 ≤ xs.length := by
 unfold argU
 split
 ·obtain ⟨h1, h2⟩ := sx_range (e := e) hb hp
  exact ⟨⟨by simp, by simp, ht, h1⟩, h2⟩
 ·obtain ⟨⟨h1, h2⟩, h3⟩ := txtU_range (e := e) hb hD hp
  exact ⟨⟨by simp only [Go.maxLen]; omega, h2, ht, by simp⟩, h3⟩
theorem argsU_range {ts : List Int} (ht : ∀ t ∈ ts, -9223372036854775808 ≤ t ∧ t ≤ 9223372036854775807) (hD : Tx200 D) (hp : p ≤ xs.length) (n : Nat) : (∀ a ∈ (argsU D ts xs (p, e) n).1, a.Fits) ∧ (argsU D ts xs (p, e) n).2.1 ≤ xs.length := by
 have key : ∀ (j : Nat) (s : Nat × Int), s.1 ≤ xs.length → (argU D (ts.getD j 0) xs s.1 s.2).2.1 ≤ xs.length ∧ (argU D (ts.getD j 0) xs s.1 s.2).1.Fits := fun j s hs => by
  have htj : -9223372036854775808 ≤ ts.getD j 0 ∧ ts.getD j 0 ≤ 9223372036854775807 := by
   by_cases hj : j < ts.length
   ·rw [List.getD, List.getElem?_eq_getElem hj]; exact ht _ (List.getElem_mem hj)
   ·rw [List.getD, List.getElem?_eq_none (by omega)]; simp
  exact (argU_range hb htj hD hs).symm
 exact ⟨stepsU_all (I := fun s : Nat × Int => s.1 ≤ xs.length) hp key n, stepsU_inv (I := fun s : Nat × Int => s.1 ≤ xs.length) hp (fun j s hs => (key j s hs).1) n⟩
theorem evU_range (hs : ∀ q ∈ sig, ∀ t ∈ q.args, -9223372036854775808 ≤ t ∧ t ≤ 9223372036854775807) (hD : Tx200 D) (hp : p ≤ xs.length) : (∀ a ∈ (evU sig D xs p e).1.args, a.Fits) ∧ (evU sig D xs p e).2.1 ≤ xs.length := by
 obtain ⟨⟨n, h1, _, _⟩, _, h2⟩ := nx_range (e := e) hb (m := m64) (by decide) hp
 unfold evU
 rw [h1]
 split
 ·exact ⟨by simp, h2⟩
 ·rename_i h
  rw [Int.toNat_natCast]
  have hlt : n < sig.length := by omega
  refine argsU_range hb (fun t ht => ?_) hD h2 _
  rw [List.getD, List.getElem?_eq_getElem hlt, Option.getD_some] at ht
  exact hs _ (List.getElem_mem hlt) t ht
theorem evnU_le (hs : ∀ q ∈ sig, ∀ t ∈ q.args, -9223372036854775808 ≤ t ∧ t ≤ 9223372036854775807) (hD : Tx200 D) (hp : p ≤ xs.length) (n : Nat) : (evnU sig D xs (p, e) n).2.1 ≤ xs.length :=
 stepsU_inv (I := fun s : Nat × Int => s.1 ≤ xs.length) hp (fun j s h => (evU_range hb hs hD h).2) n
theorem evsU_le (hs : ∀ q ∈ sig, ∀ t ∈ q.args, -9223372036854775808 ≤ t ∧ t ≤ 9223372036854775807) (hD : Tx200 D) (hp : p ≤ xs.length) : (evsU sig D xs p e).2.1 ≤ xs.length := evnU_le hb hs hD (nx_le hb (by decide) hp) _
theorem laterU_range {tm : Int} (hp : p ≤ xs.length) : (0 ≤ (laterU xs tm p e).1 ∧ (laterU xs tm p e).1 < 18446744073709551616) ∧ (laterU xs tm p e).2.1 ≤ xs.length :=
 ⟨⟨Int.emod_nonneg _ (by decide), Int.emod_lt_of_pos _ (by decide)⟩, nx_le hb (by decide) hp⟩
theorem whenU_range {i : Nat} {s : Int × Nat × Int} (hp : s.2.1 ≤ xs.length) (ht : 0 ≤ s.1 ∧ s.1 < 18446744073709551616) : (0 ≤ (whenU xs i s).1 ∧ (whenU xs i s).1 < 18446744073709551616) ∧ (whenU xs i s).2.1 ≤ xs.length := by
 unfold whenU
 split
 ·exact ⟨ht, hp⟩
 ·exact laterU_range hb hp
theorem ptU_range {i : Nat} {s : Int × Nat × Int} (hs : ∀ q ∈ sig, ∀ t ∈ q.args, -9223372036854775808 ≤ t ∧ t ≤ 9223372036854775807) (hD : Tx200 D) (hp : s.2.1 ≤ xs.length) (ht : 0 ≤ s.1 ∧ s.1 < 18446744073709551616) :
  (ptU sig D xs i s).2.2.1 ≤ xs.length ∧ 0 ≤ (ptU sig D xs i s).2.1 ∧ (ptU sig D xs i s).2.1 < 18446744073709551616 := by
 obtain ⟨h1, h2⟩ := whenU_range (i := i) hb hp ht
 exact ⟨evsU_le hb hs hD h2, h1⟩
theorem ptsU_range {s : Int × Nat × Int} (hs : ∀ q ∈ sig, ∀ t ∈ q.args, -9223372036854775808 ≤ t ∧ t ≤ 9223372036854775807) (hD : Tx200 D) (hp : s.2.1 ≤ xs.length) (ht : 0 ≤ s.1 ∧ s.1 < 18446744073709551616) (n : Nat) :
  (ptsU sig D xs s n).2.2.1 ≤ xs.length ∧ 0 ≤ (ptsU sig D xs s n).2.1 ∧ (ptsU sig D xs s n).2.1 < 18446744073709551616 :=
 stepsU_inv (I := fun s : Int × Nat × Int => s.2.1 ≤ xs.length ∧ 0 ≤ s.1 ∧ s.1 < 18446744073709551616) ⟨hp, ht⟩ (fun j s h => ptU_range hb hs hD h.1 h.2) n
theorem txsU_range (hp : p ≤ xs.length) (n : Nat) : Tx200 (txsU xs (p, e) n).1 ∧ (txsU xs (p, e) n).2.1 ≤ xs.length :=
 ⟨stepsU_all (I := fun s : Nat × Int => s.1 ≤ xs.length) hp (fun j s h => ⟨(tx_range hb h).2, (tx_range hb h).1⟩) n, stepsU_inv (I := fun s : Nat × Int => s.1 ≤ xs.length) hp (fun j s h => (tx_range hb h).2) n⟩
theorem dictU_range (hp : p ≤ xs.length) : Tx200 (dictU xs p e).1 ∧ (dictU xs p e).2.1 ≤ xs.length := txsU_range hb (nx_le hb (by decide) hp) _
theorem countU_range (hp : p ≤ xs.length) : (∃ n : Nat, (countU xs p e).1 = (n : Int) ∧ n ≤ 1024) ∧ (countU xs p e).2.1 ≤ xs.length := by
 obtain ⟨⟨n, h1, h2, _⟩, _, h3⟩ := nx_range (e := e) hb (m := 1024) (by decide) hp
 exact ⟨⟨n, h1, by omega⟩, h3⟩
theorem cntU_range : (∃ n : Nat, (cntU xs).1 = (n : Int) ∧ n ≤ 1024) ∧ (cntU xs).2.1 ≤ xs.length := countU_range hb (nx_le hb (by decide) (Nat.zero_le _))
theorem dicU_range : Tx200 (dicU xs).1 ∧ (dicU xs).2.1 ≤ xs.length := dictU_range hb (cntU_range hb).2
theorem readU_le (hs : ∀ q ∈ sig, ∀ t ∈ q.args, -9223372036854775808 ≤ t ∧ t ≤ 9223372036854775807) : (readU sig xs).2.2.1 ≤ xs.length := by
 obtain ⟨⟨n, h1, _, h4⟩, _, h3⟩ := nx_range (e := 0) hb (m := m64) (by decide) (Nat.zero_le xs.length)
 have h1 : (baseU xs).1 = (n : Int) := h1
 obtain ⟨d1, d2⟩ := dicU_range hb
 exact (ptsU_range (s := ((baseU xs).1, (dicU xs).2)) hb hs d1 d2 (by rw [h1]; omega) _).1
end
theorem checkT_events {sig : List Pr} {l : List Pm} (h : (checkT sig (l.map (·.p))).1 = 0) : ∀ q ∈ l, ∀ e ∈ q.evs, eventT sig e.e = 0 := by
 intro q hq e he
 obtain ⟨hs, hw⟩ := checkT_zero.1 h
 obtain ⟨i, hi⟩ := List.mem_iff_getElem?.1 hq
 have hil := (List.getElem?_eq_some_iff.1 hi).1
 have := hw i (by rw [List.length_map]; exact hil)
 unfold whyT at this
 rw [getD_of (at_pn hi)] at this
 split at this
 ·cases this
 ·unfold whyE at this
  split at this
  ·cases this
  ·obtain ⟨k, hk⟩ := List.mem_iff_getElem?.1 he
   have hkl := (List.getElem?_eq_some_iff.1 hk).1
   have h2 := firstWhy_zero _ _ this k (Nat.zero_le _) (by rw [List.length_map]; omega)
   rw [getD_of (at_ev hk)] at h2
   exact h2
theorem getU_back {sig : List Pr} {xs : List Int} (hb : ∀ x ∈ xs, 0 ≤ x ∧ x < 256) (hss : ∀ q ∈ sig, ∀ t ∈ q.args, -9223372036854775808 ≤ t ∧ t ≤ 9223372036854775807) (h : (getU sig xs).2 = 0) :
  checkP sig = 0 ∧ putB sig ((getU sig xs).1.map bareP) = (xs, 0) ∧ (readU sig xs).2.2.2 = 0 ∧ (readU sig xs).2.2.1 = xs.length := by
 unfold getU at h ⊢
 split at h
 ·rename_i h1
  exact absurd h h1
 ·rename_i h1
  split at h
  ·rename_i h2
   exact absurd h h2
  ·rename_i h2
   rw [if_neg h1, if_neg h2]
   have h2 : endU sig xs (readU sig xs) = 0 := by simpa using h2
   have hle := readU_le hb hss
   unfold endU at h2
   split at h2
   ·rename_i h3
    exact absurd h2 h3
   ·rename_i h3
    split at h2
    ·cases h2
    ·rename_i h4
     unfold wayU at h2
     split at h2
     ·cases h2
     ·split at h2
      ·rename_i h6
       exact ⟨by simpa using h1, h6, by simpa using h3, by omega⟩
      ·cases h2
def fitB (sig : List Pr) (l : List Pm) : Bool := decide ((putB sig l).2 = 0)
def roomC (sig : List Pr) (most : Int) (b : List Pm) (q : Pm) : Prop := b.length < 1024 ∧ (b.length : Int) < most ∧ fitB sig (b ++ [q]) = true
instance (sig : List Pr) (most : Int) (b : List Pm) (q : Pm) : Decidable (roomC sig most b q) := by unfold roomC; infer_instance
def TrFit (l : List Pm) : Prop := l.length ≤ 4398046510976 ∧ ∀ d ∈ l, d.evs.length ≤ 4398046510976 ∧ ∀ x ∈ d.evs, x.args.length ≤ 4398046510976
section
open Go.RowKit Go.Shelf
attribute [local go_sem] Oper.semAt_some
def ClJ (N : Nat) (w : World) (A : Option Addr) (c : Nat) (es pre : List Em) (W : World) : Prop :=
 OwnE W (N + 4) (.slice A es.length c) es ∧ es.map (·.e) = pre.map (·.e) ∧ Boxed W (N + 1) 49 (.slice A es.length c) ∧ KeepsE N (N + 2) w W
def ClI (N : Nat) (w : World) (pre : List Em) (W : World) : Prop := ∃ (A : Option Addr) (c : Nat) (es : List Em), ClJ N w A c es pre W
theorem clJ_calm {N m c : Nat} {w X Y : World} {A : Option Addr} {es pre : List Em} (h : N + 2 < w.heap.size) (hm : w.heap.size ≤ m) (hj : ClJ N w A c es pre X) (hc : Calm m X Y) : ClJ N w A c es pre Y := by
 obtain ⟨h1, h2, h3, h4⟩ := hj
 exact ⟨h1.calm hc, h2, hc.boxed h3, abides_below (β := Unit) (by omega) (by omega) () X Y h4.1 hc, (hc.low (N + 2) (by omega) (by have := h4.1.size; omega)).trans h4.2⟩
theorem clI_abides {N m : Nat} {w : World} (h : N + 2 < w.heap.size) (hm : w.heap.size ≤ m) : Abides m (ClI N w) := by
 rintro pre X Y ⟨A, c, es, hj⟩ hc
 exact ⟨A, c, es, clJ_calm h hm hj hc⟩
theorem held_two {W : World} {q : Nat} {t : TypeId} {u v : Value} (h : Held W q t #[u, v]) : W.cell? ⟨q, 0, none⟩ = some u ∧ W.cell? ⟨q, 1, none⟩ = some v := ⟨by have := h.cell 0; simpa using this, by have := h.cell 1; simpa using this⟩
theorem clone_round {N c c2 c4 : Nat} {A A2 A4 : Option Addr} {w2 W1 V2 V4 : World} {pre es : List Em} {x : Em} {O : Obj} (s2 : w2.heap.size = N + 4) (hes : OwnE W1 (N + 4) (.slice A es.length c) es) (hpm : es.map (·.e) = pre.map (·.e))
  (hbx : Boxed W1 (N + 1) 49 (.slice A es.length c)) (hke : KeepsE N (N + 2) w2 W1) (hf : (∀ a ∈ x.args, a.Fits) ∧ x.Fits) (b2 : Below W1.heap.size W1 V2)
  (hO2 : V2.ownsRow (N + 4) 97 3 (.slice A2 x.args.length c2) x.args.length (flatG x.args)) (hO4 : V4.ownsRow (N + 4) 100 2 (.slice A4 (es.length + 1) c4) (es.length + 1) (flatE es ++ flatE [⟨x.p, x.args, A2, c2⟩]))
  (hg4 : (V2.alloc O).grownBy V4 (Value.slice A es.length c).ownBlock) :
  KeepsFrom w2.heap.size W1 (V4.setCell ⟨N + 1, 0, none⟩ (.slice A4 (es.length + 1) c4)) ∧ KeepsE N (N + 2) W1 (V4.setCell ⟨N + 1, 0, none⟩ (.slice A4 (es.length + 1) c4)) ∧ ClI N w2 (pre ++ [x]) (V4.setCell ⟨N + 1, 0, none⟩ (.slice A4 (es.length + 1) c4)) := by
 have z1 := hke.1.size
 have b3 : Below W1.heap.size W1 (V2.alloc O) := b2.alloc b2.size _
 have z3 := b3.size
 have h3 := hes.below b3
 have hO3 : OwnG (V2.alloc O) (N + 4) ⟨x.p, x.args, A2, c2⟩ := ⟨World.ownsRow.alloc hO2 _, hf⟩
 have ne1 : 97 ≠ 100 := by decide
 have hbl : ∀ k, k < N + 4 → V4.heap[k]? = W1.heap[k]? := fun k hk => (hg4.block k (by omega) (fun e => by have := (World.ownsRow.lt h3.1 k e.symm).1; omega)).trans (b3.block k (by omega))
 have hB4 : Boxed V4 (N + 1) 49 (.slice A es.length c) := (hbl _ (by omega)).trans hbx
 have ke : KeepsE N (N + 2) W1 (V4.setCell ⟨N + 1, 0, none⟩ (.slice A4 (es.length + 1) c4)) :=
  ((keepsE_below b3 (by omega) (by omega)).trans (keepsE_grown h3.1 hg4 (by omega) (by omega) (by omega) (by omega))).trans ⟨(Below.refl _ _).setCell (p := ⟨N + 1, 0, none⟩) (by simp) _, Below.heap_setCell _ _ _ _ (by simp)⟩
 refine ⟨((keeps_below b3).trans ((keeps_grown h3.1 hg4).trans (KeepsOthers.setCell _ _ _))).from _, ke, A4, c4, es ++ [⟨x.p, x.args, A2, c2⟩], ⟨?_, fun d hd => ?_⟩, by simp [hpm], ?_, hke.trans ke⟩
 ·rw [flatE_append, List.length_append]
  exact own_put1 hO4 (by omega)
 ·refine OwnG.put ?_ (by omega)
  rcases List.mem_append.1 hd with h | h
  ·exact (h3.2 d h).grown h3.1 ne1 hg4
  ·rw [List.mem_singleton.1 h]
   exact hO3.grown h3.1 ne1 hg4
 ·rw [List.length_append]
  exact hB4.set _
theorem cloneEvents_any (p : Pm) (w : World) (hp : p.Ok w w.heap.size) (hfit : p.evs.length ≤ 4398046510976 ∧ ∀ x ∈ p.evs, x.args.length ≤ 4398046510976) :
  Calls Tryz.prog 126 #[p.val] w fun e w' => ∃ A c es, e = .returned (.slice A es.length c) ∧ OwnE w' w.heap.size (.slice A es.length c) es ∧ es.map (·.e) = p.evs.map (·.e) ∧ Below w.heap.size w w' := by
 obtain ⟨-, hl1, hl2⟩ := hp.1.1.len
 obtain ⟨hf1, hf2⟩ := hfit
 obtain ⟨ig, hig, hg0, hg1, hg2⟩ := info_parts Tryz.infoArg
 obtain ⟨iv, hiv, hv0, hv1, hv2⟩ := info_parts Tryz.infoEvent
 obtain ⟨N, hN⟩ : ∃ N, w.heap.size = N := ⟨_, rfl⟩
 obtain ⟨w1, hw1⟩ : ∃ w1, (w.alloc (.cells #[.int .u64 p.tm, .slice p.A p.evs.length p.c] 51)).alloc (.cells #[.slice none 0 0] 49) = w1 := ⟨_, rfl⟩
 have q1 : (w.alloc (.cells #[.int .u64 p.tm, .slice p.A p.evs.length p.c] 51)).heap.size = N + 1 := by rw [World.size_alloc, hN]
 have s1 : w1.heap.size = N + 2 := by rw [← hw1, World.size_alloc, q1]
 have hbw : Below N w w1 := by rw [← hw1]; exact ((Below.refl _ _).alloc (by omega) _).alloc (by omega) _
 have hB1 : Boxed w1 (N + 1) 49 (.slice none 0 0) := by rw [← hw1, ← q1]; exact Boxed.new _ _ _
 have hH0 : Held w1 N 51 #[.int .u64 p.tm, .slice p.A p.evs.length p.c] := by rw [← hw1, ← hN]; exact (Below.heap_alloc _ _ _ (by rw [World.size_alloc]; omega)).trans (heap_alloc_new _ _)
 obtain ⟨y0, y1⟩ := cC2 hH0
 simp at y0 y1
 rw [hN] at hp ⊢
 have HOK := hid hp
 have HF2 := hid hf2
 have hb4 : Below N w (w1.alloc (.cells #[.int .u64 p.tm, .slice p.A p.evs.length p.c] 51)) := hbw.alloc (by omega) _
 clear hp hf2
 refine (callsIn_wide (n := 9)).1 ?_
 refine callsIn_of_wp_marks Tryz.func126 rfl trivial ?_ rfl
 simp only [Tryz.ntmps126, List.size_toArray, List.length_cons, List.length_nil, Nat.reduceAdd, Nat.reduceSub, Array.replicate_succ, Array.replicate_zero, List.push_toArray, List.append_toArray, List.nil_append, List.cons_append]
 gi_wp2_with (refine ⟨trivial, ?_⟩; gi_at_call 107; refine (callsIn_wide.2 (eventsOf_any _ _ _ _)).mono ?_; rintro e w' ⟨rfl, rfl⟩)
 obtain ⟨w2, hw2⟩ : ∃ w2, (w1.alloc (.cells #[.int .u64 p.tm, .slice p.A p.evs.length p.c] 51)).alloc (.cells #[.slice (some ⟨N + 2, 0, none⟩) 1 1] 26) = w2 := ⟨_, rfl⟩
 have q4 : (w1.alloc (.cells #[.int .u64 p.tm, .slice p.A p.evs.length p.c] 51)).heap.size = N + 3 := by rw [World.size_alloc, s1]
 have s2 : w2.heap.size = N + 4 := by rw [← hw2, World.size_alloc, q4]
 have hbw2 : Below N w w2 := by rw [← hw2]; exact hb4.alloc (by omega) _
 have hC1 : Boxed w2 (N + 1) 49 (.slice none 0 0) := by rw [← hw2]; exact (hB1.alloc _).alloc _
 have hC3 : Boxed w2 (N + 3) 26 (.slice (some ⟨N + 2, 0, none⟩) 1 1) := by rw [← hw2, ← q4]; exact Boxed.new _ _ _
 have hH2 : Held w2 (N + 2) 51 #[.int .u64 p.tm, .slice p.A p.evs.length p.c] := by rw [← hw2, ← s1]; exact (Below.heap_alloc _ _ _ (by rw [World.size_alloc]; omega)).trans (heap_alloc_new _ _)
 obtain ⟨x0, x1⟩ := cC2 hH2
 simp at x0 x1
 have hat : PtsAt w2 (N + 2) (some ⟨N + 2, 0, none⟩) [p] := by
  intro _
  refine ⟨0, rfl, fun i u hi => ?_⟩
  match i with
  | 0 => simp [flatN] at hi; rw [← hi]; exact x0
  | 1 => simp [flatN] at hi; rw [← hi]; exact x1
  | (k + 2) => simp [flatN] at hi
 have hevs : evsOf [p] = p.evs := by simp [evsOf]
 rw [hw2]
 clear hw1 hw2 q1 q4 s1 hB1 hH0 y0 y1 hH2 x0 x1 hbw hb4
 have HBW2 := hid hbw2
 have HEVS := hid hevs
 refine range_gives rfl (by omega) (gf := 157) (lb := #[.pointer (some ⟨N + 2 + 1, 0, none⟩)]) rfl trivial (enters_of Tryz.func157 (by kernel_rfl) rfl)
  (events_gives (9 - 1) (by omega) (N + 3) N (N + 2) (some ⟨N + 2, 0, none⟩) 1 [p] (by simp) w2 hC3 (by omega) (by omega) hat (fun d hd => by rw [List.mem_singleton.1 hd]; exact HOK.out.below hbw2)) (fun _ => rfl) (fun h k => h.trans k) (fun m W1 l1 o o' hl _ h hc => KeepsE.turn (w := w2) (by omega) (by omega) W1 l1 o o' hl h hc)
  (ClI N w2) (fun _ _ => False) (clI_abides (by omega) (by omega)) (fun _ _ _ h _ => h) ⟨none, 0, [], OwnE.nil _ _, rfl, hC1, KeepsE.refl _ _ _⟩
  (fun pre x a' W => (∃ q A c es, a' = { tmps := #[p.val, .pointer (some ⟨N, 0, none⟩), .slice none 0 0, .pointer (some ⟨N + 1, 0, none⟩), .pointer (some ⟨q, 0, none⟩), .agg #[.int .u64 p.tm, .slice p.A p.evs.length p.c], .slice (some ⟨N + 2, 0, none⟩) 1 1, .func (.func 157) #[] #[.pointer (some ⟨N + 2 + 1, 0, none⟩)], x.val, undef, undef, undef, undef, undef, undef, undef, undef, undef, undef], defers := [] } ∧ Held W q 100 #[.int .i64 x.p, .slice x.A x.args.length x.c] ∧ N + 4 ≤ q ∧ some q ≠ (Value.slice A (List.length es) c).ownBlock ∧ ClJ N w2 A c es pre W) ∧ x ∈ evsOf [p] ∧ pre ++ [x] <+: evsOf [p])
  (fun pre x a' => ?own) ?take ?body ?done ?stop
 case own =>
  rintro _ X Y ⟨⟨q, A, c, es, e, h1, h2, h3, h4⟩, h5⟩ hc
  exact ⟨⟨q, A, c, es, e, hc.held h1, h2, h3, clJ_calm (by omega) (by omega) h4 hc⟩, h5⟩
 case take =>
  rintro l2 m pre x W1 K hm hm1 hI hR hK
  obtain ⟨A, c, es, hj⟩ := hI
  have hzw : w2.heap.size ≤ W1.heap.size := hj.2.2.2.1.size
  have hcl := Calm.alloc w2.heap.size W1 (.cells #[.int .i64 x.p, .slice x.A x.args.length x.c] 100)
  have HK := hid (hK _ _ ((KeepsOthers.alloc W1 _).from _) (KeepsE.alloc (by omega) (by omega) _) ⟨⟨W1.heap.size, A, c, es, rfl, heap_alloc_new W1 _, by omega, fun e => by have := (World.ownsRow.lt hj.1.1 _ e.symm).2; omega, clJ_calm (by omega) (by omega) hj hcl⟩, hR⟩)
  clear hK hj hR hcl hC1 hC3 hat hbw2
  gi_wp2
  exact HK.out
 case body =>
  rintro l2 m pre x a' W1 hm hm1 ⟨⟨q, A, c, es, rfl, hq, hbq, hne, hes, hpm, hbx, hke⟩, hx, hpf⟩
  rw [hevs] at hx hpf
  have hb1 := HBW2.out.trans hke.1
  have hz1 := hb1.size
  have hzk := hke.1.size
  have hok := ((HOK.out.1.2 x hx).below hb1).more (by omega : N ≤ W1.heap.size)
  have hxl := HF2.out x hx
  have hlen : es.length + 1 ≤ 4398046510976 := by
   have h1 := congrArg List.length hpm
   have h2 := hpf.length_le
   simp at h1 h2
   omega
  clear hC1 hC3 hat hbw2
  have HS := hid (fun W (h : Below W1.heap.size W1 W) => held_two (hq.below h hq.lt))
  have HS2 := hid (fun W (h : Held W q 100 #[.int .i64 x.p, .slice x.A x.args.length x.c]) => held_two h)
  have HNE := hid hne
  have HNQ := hid (show q ≠ N + 1 by omega)
  have hS0 := HS.out _ (Below.refl W1.heap.size W1).drew
  gi_wp2
  refine wpIn_region_round (S := fun W => W.cell? ⟨q, 0, none⟩ = some (.int .i64 x.p) ∧ W.cell? ⟨q, 1, none⟩ = some (.slice x.A x.args.length x.c)) (by kernel_rfl) (by kernel_rfl) (by rintro ⟨a, w, h⟩; exact h) hS0 (fun _ => ?_)
  refine wpAnyH_take (i := 1) (v := .pointer (some ⟨q, 0, none⟩)) rfl (by kernel_rfl) (by kernel_rfl) (by kernel_rfl) (fun _ _ _ h => h) (Or.inl ⟨by rfl, fun W hW => by obtain ⟨u0, u1⟩ := hW; go_simp⟩) hS0 ?_
  try simp only [pU]
  refine wpAnyH_take (i := 2) (v := .int .i64 x.p) rfl (by kernel_rfl) (by kernel_rfl) (by kernel_rfl) (fun _ _ _ h => h) (Or.inl ⟨by rfl, fun W hW => by obtain ⟨u0, u1⟩ := hW; go_simp⟩) hS0 ?_
  try simp only [pU]
  refine wpAnyH_take (i := 3) (v := .pointer (some ⟨q, 1, none⟩)) rfl (by kernel_rfl) (by kernel_rfl) (by kernel_rfl) (fun _ _ _ h => h) (Or.inl ⟨by rfl, fun W hW => by obtain ⟨u0, u1⟩ := hW; go_simp⟩) hS0 ?_
  try simp only [pU]
  refine wpAnyH_take (i := 4) (v := .slice x.A x.args.length x.c) rfl (by kernel_rfl) (by kernel_rfl) (by kernel_rfl) (fun _ _ _ h => h) (Or.inl ⟨by rfl, fun W hW => by obtain ⟨u0, u1⟩ := hW; go_simp⟩) hS0 ?_
  try simp only [pU]
  refine wpAnyH_ready (rs := [0, 5]) (by kernel_rfl) (by simp) ?_
  refine AllReadyH.cons rfl (fun K hK => ?_) (AllReadyH.cons rfl (fun K hK => ?_) AllReadyH.nil)
  ·skip
   have c1' := hbx.cell
   go_simp
   clear c1'
   refine hK.out _ _ hS0 (fun _ => ?_)
   clear hK K
   try simp only [pU]
   refine wpAnyH_ready (rs := [5]) (by kernel_rfl) (by simp) ?_
   refine AllReadyH.cons rfl (fun K hK => ?_) AllReadyH.nil
   refine step_append_erow (by rfl) (.const (.slice none 0 0)) (.tmp 13) 98 97 (by rfl) (N + 4) ig _ 3 32 Tryz.underlying98 hig hg0 hg1 hg2 rfl (by omega) (.slice none 0 0) 0 [] (by rfl) (World.ownsRow_nil _ _ _ _) W1.heap.size (.slice x.A x.args.length x.c) x.args.length (flatG x.args) (by rfl) (hok.1.1.below (Below.refl _ _).drew) (flatG_length _) (oneG _) (by unfold maxLen; omega) (by omega) (by simp; omega) x.args.length (Nat.zero_add _) (flatG x.args) rfl ?_
   intro A2 c2 V2 hO2 hg2'
   have b2 : Below W1.heap.size W1 V2 := (Below.refl W1.heap.size W1).drew.grown hg2' (by simp) (by intro k e; cases e)
   refine hK.out _ _ (HS.out _ b2) (fun _ => ?_)
   clear hK K
   try simp only [pU]
   refine wpAnyH_take (i := 6) (v := .agg #[.int .i64 x.p, .slice A2 x.args.length c2]) rfl (by kernel_rfl) (by kernel_rfl) (by kernel_rfl) (fun _ _ _ h => h) (Or.inl ⟨by rfl, fun W hW => by obtain ⟨u0, u1⟩ := hW; go_simp⟩) (HS.out _ b2) ?_
   try simp only [pU]
   refine wpAnyH_ready (rs := [7]) (by kernel_rfl) (by simp) ?_
   refine AllReadyH.cons rfl (fun K hK => ?_) AllReadyH.nil
   go_simp
   refine hK.out _ _ (HS.out _ (b2.alloc b2.size _)) (fun _ => ?_)
   clear hK K
   try simp only [pU]
   refine wpAnyH_ready (rs := [8]) (by kernel_rfl) (by simp) ?_
   refine AllReadyH.cons rfl (fun K hK => ?_) AllReadyH.nil
   refine step_append_erow (by rfl) (.tmp 9) (.tmp 16) 49 100 (by rfl) (N + 4) iv _ 2 32 Tryz.underlying49 hiv hv0 hv1 hv2 rfl (by omega) (.slice A es.length c) es.length (flatE es) (by rfl) (hes.below (b2.alloc b2.size _)).1 (V2.heap.size + 1) (.slice (some ⟨V2.heap.size, 0, none⟩) 1 1) 1 (flatE [⟨x.p, x.args, A2, c2⟩]) (by rfl) (ERow.held (t := 100) (heap_alloc_new V2 _) (by omega) (by unfold maxLen; omega)) (flatE_length _) (oneE _) (by unfold maxLen; omega) (by omega) (by have := b2.size; simp; omega) (es.length + 1) rfl (flatE es ++ flatE [⟨x.p, x.args, A2, c2⟩]) rfl ?_
   intro A4 c4 V4 hO4 hg4
   have hb4 : Boxed V4 (N + 1) 49 (.slice A es.length c) := (hg4.block (N + 1) (by have := b2.size; simp; omega) (fun e => by have := (World.ownsRow.lt hes.1 (N + 1) e.symm).1; omega)).trans (((b2.alloc b2.size _).block _ (by omega)).trans hbx)
   have hq4 : Held V4 q 100 #[.int .i64 x.p, .slice x.A x.args.length x.c] := (hg4.block q (by have := b2.size; have := hq.lt; simp; omega) (HNE.out)).trans (((b2.alloc b2.size _).block _ hq.lt).trans hq)
   refine hK.out _ _ (HS2.out _ hq4) (fun _ => ?_)
   clear hK K
   try simp only [pU]
   refine wpAnyH_ready (rs := [9]) (by kernel_rfl) (by simp) ?_
   refine AllReadyH.cons rfl (fun K hK => ?_) AllReadyH.nil
   have c4' := hb4.cell
   have f4' := hb4.frozen
   go_simp
   clear c4' f4'
   refine hK.out _ _ (HS2.out _ (Held.other_put hq4 HNQ.out _)) (fun _ => ?_)
   clear hK K
   try simp only [pU]
   refine wpAnyH_done (by kernel_rfl) ?_ _
   exact clone_round s2 hes hpm hbx hke ⟨hok.1.2, hok.2⟩ b2 hO2 hO4 hg4
  ·skip
   refine step_append_erow (by rfl) (.const (.slice none 0 0)) (.tmp 13) 98 97 (by rfl) (N + 4) ig _ 3 32 Tryz.underlying98 hig hg0 hg1 hg2 rfl (by omega) (.slice none 0 0) 0 [] (by rfl) (World.ownsRow_nil _ _ _ _) W1.heap.size (.slice x.A x.args.length x.c) x.args.length (flatG x.args) (by rfl) (hok.1.1.below (Below.refl _ _).drew) (flatG_length _) (oneG _) (by unfold maxLen; omega) (by omega) (by simp; omega) x.args.length (Nat.zero_add _) (flatG x.args) rfl ?_
   intro A2 c2 V2 hO2 hg2'
   have b2 : Below W1.heap.size W1 V2 := (Below.refl W1.heap.size W1).drew.grown hg2' (by simp) (by intro k e; cases e)
   refine hK.out _ _ (HS.out _ b2) (fun _ => ?_)
   clear hK K
   try simp only [pU]
   refine wpAnyH_take (i := 6) (v := .agg #[.int .i64 x.p, .slice A2 x.args.length c2]) rfl (by kernel_rfl) (by kernel_rfl) (by kernel_rfl) (fun _ _ _ h => h) (Or.inl ⟨by rfl, fun W hW => by obtain ⟨u0, u1⟩ := hW; go_simp⟩) (HS.out _ b2) ?_
   try simp only [pU]
   refine wpAnyH_ready (rs := [0, 7]) (by kernel_rfl) (by simp) ?_
   refine AllReadyH.cons rfl (fun K hK => ?_) (AllReadyH.cons rfl (fun K hK => ?_) AllReadyH.nil)
   ·skip
    have c1' := Boxed.cell (show Boxed V2 (N + 1) 49 (.slice A es.length c) from (b2.block _ (by omega)).trans hbx)
    go_simp
    clear c1'
    refine hK.out _ _ (HS.out _ b2) (fun _ => ?_)
    clear hK K
    try simp only [pU]
    refine wpAnyH_ready (rs := [7]) (by kernel_rfl) (by simp) ?_
    refine AllReadyH.cons rfl (fun K hK => ?_) AllReadyH.nil
    go_simp
    refine hK.out _ _ (HS.out _ (b2.alloc b2.size _)) (fun _ => ?_)
    clear hK K
    try simp only [pU]
    refine wpAnyH_ready (rs := [8]) (by kernel_rfl) (by simp) ?_
    refine AllReadyH.cons rfl (fun K hK => ?_) AllReadyH.nil
    refine step_append_erow (by rfl) (.tmp 9) (.tmp 16) 49 100 (by rfl) (N + 4) iv _ 2 32 Tryz.underlying49 hiv hv0 hv1 hv2 rfl (by omega) (.slice A es.length c) es.length (flatE es) (by rfl) (hes.below (b2.alloc b2.size _)).1 (V2.heap.size + 1) (.slice (some ⟨V2.heap.size, 0, none⟩) 1 1) 1 (flatE [⟨x.p, x.args, A2, c2⟩]) (by rfl) (ERow.held (t := 100) (heap_alloc_new V2 _) (by omega) (by unfold maxLen; omega)) (flatE_length _) (oneE _) (by unfold maxLen; omega) (by omega) (by have := b2.size; simp; omega) (es.length + 1) rfl (flatE es ++ flatE [⟨x.p, x.args, A2, c2⟩]) rfl ?_
    intro A4 c4 V4 hO4 hg4
    have hb4 : Boxed V4 (N + 1) 49 (.slice A es.length c) := (hg4.block (N + 1) (by have := b2.size; simp; omega) (fun e => by have := (World.ownsRow.lt hes.1 (N + 1) e.symm).1; omega)).trans (((b2.alloc b2.size _).block _ (by omega)).trans hbx)
    have hq4 : Held V4 q 100 #[.int .i64 x.p, .slice x.A x.args.length x.c] := (hg4.block q (by have := b2.size; have := hq.lt; simp; omega) (HNE.out)).trans (((b2.alloc b2.size _).block _ hq.lt).trans hq)
    refine hK.out _ _ (HS2.out _ hq4) (fun _ => ?_)
    clear hK K
    try simp only [pU]
    refine wpAnyH_ready (rs := [9]) (by kernel_rfl) (by simp) ?_
    refine AllReadyH.cons rfl (fun K hK => ?_) AllReadyH.nil
    have c4' := hb4.cell
    have f4' := hb4.frozen
    go_simp
    clear c4' f4'
    refine hK.out _ _ (HS2.out _ (Held.other_put hq4 HNQ.out _)) (fun _ => ?_)
    clear hK K
    try simp only [pU]
    refine wpAnyH_done (by kernel_rfl) ?_ _
    exact clone_round s2 hes hpm hbx hke ⟨hok.1.2, hok.2⟩ b2 hO2 hO4 hg4
   ·skip
    go_simp
    refine hK.out _ _ (HS.out _ (b2.alloc b2.size _)) (fun _ => ?_)
    clear hK K
    try simp only [pU]
    refine wpAnyH_ready (rs := [0]) (by kernel_rfl) (by simp) ?_
    refine AllReadyH.cons rfl (fun K hK => ?_) AllReadyH.nil
    have c1' := Boxed.cell (show Boxed (V2.alloc (.cells #[.int .i64 x.p, .slice A2 x.args.length c2] 100)) (N + 1) 49 (.slice A es.length c) from ((b2.alloc b2.size _).block _ (by omega)).trans hbx)
    go_simp
    clear c1'
    refine hK.out _ _ (HS.out _ (b2.alloc b2.size _)) (fun _ => ?_)
    clear hK K
    try simp only [pU]
    refine wpAnyH_ready (rs := [8]) (by kernel_rfl) (by simp) ?_
    refine AllReadyH.cons rfl (fun K hK => ?_) AllReadyH.nil
    refine step_append_erow (by rfl) (.tmp 9) (.tmp 16) 49 100 (by rfl) (N + 4) iv _ 2 32 Tryz.underlying49 hiv hv0 hv1 hv2 rfl (by omega) (.slice A es.length c) es.length (flatE es) (by rfl) (hes.below (b2.alloc b2.size _)).1 (V2.heap.size + 1) (.slice (some ⟨V2.heap.size, 0, none⟩) 1 1) 1 (flatE [⟨x.p, x.args, A2, c2⟩]) (by rfl) (ERow.held (t := 100) (heap_alloc_new V2 _) (by omega) (by unfold maxLen; omega)) (flatE_length _) (oneE _) (by unfold maxLen; omega) (by omega) (by have := b2.size; simp; omega) (es.length + 1) rfl (flatE es ++ flatE [⟨x.p, x.args, A2, c2⟩]) rfl ?_
    intro A4 c4 V4 hO4 hg4
    have hb4 : Boxed V4 (N + 1) 49 (.slice A es.length c) := (hg4.block (N + 1) (by have := b2.size; simp; omega) (fun e => by have := (World.ownsRow.lt hes.1 (N + 1) e.symm).1; omega)).trans (((b2.alloc b2.size _).block _ (by omega)).trans hbx)
    have hq4 : Held V4 q 100 #[.int .i64 x.p, .slice x.A x.args.length x.c] := (hg4.block q (by have := b2.size; have := hq.lt; simp; omega) (HNE.out)).trans (((b2.alloc b2.size _).block _ hq.lt).trans hq)
    refine hK.out _ _ (HS2.out _ hq4) (fun _ => ?_)
    clear hK K
    try simp only [pU]
    refine wpAnyH_ready (rs := [9]) (by kernel_rfl) (by simp) ?_
    refine AllReadyH.cons rfl (fun K hK => ?_) AllReadyH.nil
    have c4' := hb4.cell
    have f4' := hb4.frozen
    go_simp
    clear c4' f4'
    refine hK.out _ _ (HS2.out _ (Held.other_put hq4 HNQ.out _)) (fun _ => ?_)
    clear hK K
    try simp only [pU]
    refine wpAnyH_done (by kernel_rfl) ?_ _
    exact clone_round s2 hes hpm hbx hke ⟨hok.1.2, hok.2⟩ b2 hO2 hO4 hg4
 case done =>
  rintro D ys V hD rfl ⟨A, c, es, hes, hpm, hbx, hke⟩ hK
  have c1 := hbx.cell
  have hbl := HBW2.out.trans hke.1
  have hDV := (Array.getElem?_eq_some_iff.1 hK).1
  rw [HEVS.out] at hpm
  have hfin : OwnE (V.putObj D (.deferred none)) N (.slice A es.length c) es := (hes.base (by omega)).calm (Calm.putObj (m := 0) _ hK rfl (by omega))
  have hbf : Below N w (V.putObj D (.deferred none)) := hbl.trans ((Below.refl N V).grown (grownBy_putObj' V D (.deferred none)) (by omega) (fun k e => by cases e; omega))
  have HFN := hid (And.intro hfin (And.intro hpm hbf))
  clear hC1 hC3 hat hbw2 hfin hbf hpm hes hbl
  gi_wp2
  refine ⟨by simp, .inl ⟨_, _, rfl, run_takeDeferred hK, ?_⟩⟩
  exact ⟨.slice A es.length c, by simp [results, Tryz.results126, go_sem], A, c, es, rfl, HFN.out⟩
 case stop =>
  rintro D pre V1 _ _ h _
  exact h.elim
end
open Go.RowKit
theorem tclone_any (A : Option Addr) (c : Nat) (ps : List Pm) (w : World) (hrow : TrRow w w.heap.size (.slice A ps.length c) ps) (hfit : TrFit ps) :
  Calls Tryz.prog 71 #[.slice A ps.length c] w fun e w' => ∃ A' c' es, e = .returned (.slice A' es.length c') ∧ OwnT w' w.heap.size (.slice A' es.length c') es ∧ es.map (·.p) = ps.map (·.p) ∧ Below w.heap.size w w' := by
 obtain ⟨i1, hi1, hy0, hy1, hy2⟩ := info_parts Tryz.infoPoint
 obtain ⟨-, hc1, hc2⟩ := hrow.1.len
 obtain ⟨hl1, hl2⟩ := hfit
 have HROW := hid hrow
 have HFT := hid hl2
 clear hrow hl2
 obtain ⟨n, hn⟩ : ∃ n, w.heap.size = n := ⟨_, rfl⟩
 rw [hn] at HROW ⊢
 have HN := hid hn
 clear hn
 go_enter Tryz.func71, Tryz.ntmps71
 go_wp2_with fail
 go_loopg [8, 3] ps.length (fun gk i v wr => ∃ (k : Nat) (A1 : Option Addr) (cc : Nat) (es : List Pm), k ≤ ps.length ∧ i = .int .i64 k ∧ v = .slice A1 es.length cc ∧ Hid (ps.length - k = gk) ∧ Hid (OwnT wr n (.slice A1 es.length cc) es) ∧ Hid (es.map (·.p) = (ps.take k).map (·.p)) ∧ Hid (Below n w wr))
 case atStart => exact ⟨0, none, 0, [], Nat.zero_le _, rfl, rfl, hid rfl, hid (OwnT.nil _ _), hid rfl, hid (Below.refl _ _)⟩
 case round =>
  obtain ⟨k, A1, cc, es, hk, rfl, rfl, HGK, HOW, HES, HBR⟩ := hrel
  by_cases hlt : k < ps.length
  ·obtain ⟨d, hd⟩ : ∃ d, ps[k]? = some d := ⟨_, List.getElem?_eq_getElem hlt⟩
   have HTK := hid (show (ps.take (k + 1)).map (·.p) = (ps.take k).map (·.p) ++ [d.p] by rw [List.take_add_one, hd, List.map_append]; rfl)
   have HEL := hid (show es.length = k by have := congrArg List.length HES.out; simp at this; omega)
   obtain ⟨b, o, rfl, hb, x0, x1, hok, ha1, ha2⟩ := (HROW.out.below HBR.out).at hd
   have hda := HFT.out d (List.mem_of_getElem? hd)
   have hnw : n ≤ wr.heap.size := by rw [← HN.out]; exact HBR.out.size
   obtain ⟨w1, hw1⟩ : ∃ w1, wr.alloc (.cells #[.int .u64 d.tm, .slice d.A d.evs.length d.c] 51) = w1 := ⟨_, rfl⟩
   have s1 : w1.heap.size = wr.heap.size + 1 := by rw [← hw1]; simp
   have b1 : Below wr.heap.size wr w1 := by rw [← hw1]; exact (Below.refl _ _).alloc (Nat.le_refl _) _
   have h1 : Held w1 wr.heap.size 51 #[.int .u64 d.tm, .slice d.A d.evs.length d.c] := by rw [← hw1]; exact heap_alloc_new wr _
   have HO1 := hid (HOW.out.below b1)
   have HB1 := hid (HBR.out.trans (b1.mono hnw))
   have HCE := hid (fun W (h : Below w1.heap.size w1 W) => cloneEvents_any d W ((hok.below ((b1.trans (h.mono (by omega))).mono hnw)).more (by have := h.size; omega)) hda)
   have HFD := hid hok.2
   have hall : ∀ W, Below w1.heap.size w1 W → W.cell? ⟨wr.heap.size, 0, none⟩ = some (.int .u64 d.tm) ∧ W.cell? ⟨wr.heap.size, 1, none⟩ = some (.slice d.A d.evs.length d.c) := fun W h => held_two (h1.below h (by omega))
   have HALL := hid hall
   have HNE := hid (show some wr.heap.size ≠ (Value.slice A1 es.length cc).ownBlock from fun e => by have := (World.ownsRow.lt HOW.out.1 _ e.symm).2; omega)
   have hfd := hok.2
   unfold Pm.Fits at hfd
   clear h1 b1 hok hd hall hda
   go_wp2_with fail
   go_region_held3 (fun W => W.cell? ⟨wr.heap.size, 0, none⟩ = some (.int .u64 d.tm) ∧ W.cell? ⟨wr.heap.size, 1, none⟩ = some (.slice d.A d.evs.length d.c))
    (first | exact HALL.out _ (Below.refl _ _) | exact HALL.out _ (Below.refl _ _).drew | exact HALL.out _ b2 | exact HALL.out _ (b2.alloc b2.size _) | exact ⟨(hg4.cell_far ⟨wr.heap.size, 0, none⟩ (by have := b2.size; simp; omega) HNE.out).trans (HALL.out _ (b2.alloc b2.size _)).1, (hg4.cell_far ⟨wr.heap.size, 1, none⟩ (by have := b2.size; simp; omega) HNE.out).trans (HALL.out _ (b2.alloc b2.size _)).2⟩)
    (first
     | (refine step_append_erow (by rfl) (.tmp 12) (.tmp 18) 26 51 (by rfl) n i1 _ 2 32 Tryz.underlying26 hi1 hy0 hy1 hy2 rfl (by omega) (.slice A1 es.length cc) es.length (flatN es) (by rfl) ((HO1.out.below b2).below ((Below.refl _ _).alloc (Nat.le_refl _) _)).1 (w2.heap.size + 1) (.slice (some ⟨w2.heap.size, 0, none⟩) 1 1) 1 (flatN [⟨d.tm, xs, A2, c2⟩]) (by rfl) (ERow.held (t := 51) (heap_alloc_new w2 _) (by omega) (by unfold maxLen; omega)) (flatN_length _) (oneN _) (by have := HEL.out; unfold maxLen; omega) (by have := HEL.out; omega) (by have := b2.size; simp; omega) (es.length + 1) rfl (flatN es ++ flatN [⟨d.tm, xs, A2, c2⟩]) rfl ?_; intro A4 c4 w4 hO4 hg4)
     | (go_at_call 126; (with_reducible refine (HCE.out _ (Below.refl _ _).drew).mono ?_); rintro e w2 ⟨A2, c2, xs, rfl, hO2, hx2, hb2⟩; have b2 : Below w1.heap.size w1 w2 := (Below.refl w1.heap.size w1).drew.trans hb2))
   have ho3 := (HO1.out.below b2).below ((Below.refl w2.heap.size w2).alloc (Nat.le_refl _) (.cells #[.int .u64 d.tm, .slice A2 xs.length c2] 51))
   have hz2 := b2.size
   have hlow : ∀ j, (Value.slice A1 es.length cc).ownBlock = some j → n ≤ j := fun j e => (World.ownsRow.lt HOW.out.1 j e).1
   have b3 := (HB1.out.trans (b2.mono (by omega))).alloc (Nat.le_trans hnw (by omega)) (.cells #[.int .u64 d.tm, .slice A2 xs.length c2] 51)
   have b4 : Below n w w4 := b3.grown hg4 (by simp; omega) hlow
   have ne1 : 97 ≠ 51 := by decide
   have ne2 : 100 ≠ 51 := by decide
   have hT4 : OwnT w4 n (.slice A4 (es ++ [(⟨d.tm, xs, A2, c2⟩ : Pm)]).length c4) (es ++ [⟨d.tm, xs, A2, c2⟩]) := by
    refine ⟨by rw [flatN_append, List.length_append]; exact hO4, fun y hy => ?_⟩
    rcases List.mem_append.1 hy with h | h
    ·exact ⟨(ho3.2 y h).1.grown ho3.1 ne1 ne2 hg4, (ho3.2 y h).2⟩
    ·rw [List.mem_singleton.1 h]
     exact ⟨((hO2.base (by have := (Below.refl w1.heap.size w1).drew.size; omega)).below ((Below.refl _ _).alloc (Nat.le_refl _) _)).grown ho3.1 ne1 ne2 hg4, HFD.out⟩
   have HO4 := hid hT4
   have HB4 := hid b4
   have HES4 := hid (show (es ++ [(⟨d.tm, xs, A2, c2⟩ : Pm)]).map (·.p) = (ps.take (k + 1)).map (·.p) by rw [HTK.out, List.map_append, HES.out]; simp [Pm.p, hx2])
   have hel : (es ++ [(⟨d.tm, xs, A2, c2⟩ : Pm)]).length = es.length + 1 := by simp
   clear hO2 hx2 hb2 b2 hO4 hg4 hlow b3 b4 hw1 s1 x0 x1 ho3 hT4
   rw [← hel]
   generalize es ++ [(⟨d.tm, xs, A2, c2⟩ : Pm)] = es4 at HO4 HES4 hel ⊢
   clear hel
   go_wp2_with fail
   go_roundg (ps.length - (k + 1))
   case measure => have := HGK.out; omega
   case rel => exact ⟨k + 1, A4, c4, es4, by omega, by go_num, rfl, hid rfl, HO4, HES4, HB4⟩
  ·obtain rfl : k = ps.length := by omega
   go_wp2_with fail
   go_ret
   exact ⟨A1, cc, es, rfl, HOW.out, by rw [HES.out, List.take_length], HBR.out⟩
theorem OwnT.base {w : World} {m n : Nat} {v : Value} {es : List Pm} (h : OwnT w n v es) (hm : m ≤ n) : OwnT w m v es := ⟨own_base h.1 hm, fun d hd => ⟨(h.2 d hd).1.base hm, (h.2 d hd).2⟩⟩
end Go.Proofs.YtimihhcidbeonaaGreat
