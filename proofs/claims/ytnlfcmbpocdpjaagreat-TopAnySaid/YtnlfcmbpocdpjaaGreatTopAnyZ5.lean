/-
  What the theorem of TopAny rests on, part 5 of 16.
-/
import Derived.Deep.LoopGhost
import Derived.Deep.QuietTactic
import Derived.BigQuiet
import Derived.Lib.SmallJoins
import Derived.Deep.RegionHeld3
import Derived.Deep.RegionLaw
import Derived.Test.YtnlfcmbpocdpjaaGreatTopAnyZ4
set_option maxRecDepth 100000
set_option maxHeartbeats 16000000
namespace Go.Proofs.YtnlfcmbpocdpjaaGreat
open Lib (hid)
open Go.RowKit Go.ChangeShapes Go.WideShapes
set_option linter.unusedVariables false
abbrev WrP (g : Nat) : Value := .agg #[.func (.func 136) #[] #[.pointer (some ⟨g, 0, none⟩)], .func (.func 138) #[] #[.pointer (some ⟨g, 0, none⟩)]]
abbrev WrPc (g : Nat) : Array Value := #[.func (.func 136) #[] #[.pointer (some ⟨g, 0, none⟩)], .func (.func 138) #[] #[.pointer (some ⟨g, 0, none⟩)]]
theorem countP {w : World} {base g : Nat} {v : Value} {zs : List Int} (h : SnkP w base g v zs) (n : Nat) (hn : n < 9223372036854775808) (hl : zs.length ≤ 10000000000) (hbs : base ≤ w.heap.size) :
  Calls Tryz.prog 168 #[WrP g, .int .i64 n] w fun e w' => e = .returned (.tuple #[]) ∧ LeftP w base g v (zs ++ encI n) w' := by
 have ba : Below w.heap.size w (w.alloc (.cells (WrPc g) 227)) := (Below.refl _ _).alloc (Nat.le_refl _) _
 have hh : Held (w.alloc (.cells (WrPc g) 227)) w.heap.size 227 (WrPc g) := heap_alloc_new w _
 have h1 := h.below ba
 obtain ⟨w1, hw1⟩ : ∃ w1, w.alloc (.cells (WrPc g) 227) = w1 := ⟨_, rfl⟩
 rw [hw1] at ba hh h1
 have x0 := hh.cell 0
 simp at x0
 have HC := hid (putn_any h1 n (by omega) hl (Nat.le_trans hbs ba.size))
 generalize encI n = E at HC ⊢
 clear h h1
 go_enter Tryz.func168, Tryz.ntmps168
 go_wp2_with fail
 refine HC.out.mono ?_
 rintro e w2 ⟨rfl, hk⟩
 go_wp2_with fail
 go_end0
 exact ⟨rfl, LeftP.ahead ba hk⟩
theorem dictP {w : World} {base g b2 : Nat} {v : Value} {zs : List Int} (h : SnkP w base g v zs) (A : Option Addr) (c : Nat) (L : List (List Int)) (ho : w.ownsRow b2 9 1 (.slice A L.length c) L.length (strVs L)) (hT : Tx200 L) (hl : zs.length + (dictB L).length ≤ 10000000000) (hbs : base ≤ w.heap.size) :
  Calls Tryz.prog 169 #[WrP g, .slice A L.length c] w fun e w' => e = .returned (.tuple #[]) ∧ LeftP w base g v (zs ++ dictB L) w' := by
 obtain ⟨-, hc1, hc2⟩ := (ERow.of_own ho).len
 obtain ⟨F, hF⟩ : ∃ F : Nat → List Int, F = fun k => zs ++ encI L.length ++ catT (L.take k) := ⟨_, rfl⟩
 have hF0 : F 0 = zs ++ encI L.length := by rw [hF]; simp [catT]
 have hFn : F L.length = zs ++ dictB L := by rw [hF]; simp [dictB]
 have hFs : ∀ (k : Nat) (t : List Int), L[k]? = some t → F (k + 1) = F k ++ encT t := fun k t ht => by rw [hF]; simp only; rw [catT_take_succ L ht]; simp only [List.append_assoc]
 have hFl : ∀ k, (F k).length ≤ 10000000000 := fun k => by
  rw [hF]
  simp only [dictB, List.length_append] at hl ⊢
  have := catT_take_le L k
  omega
 rw [← hFn]
 have ba : Below w.heap.size w (w.alloc (.cells (WrPc g) 227)) := (Below.refl _ _).alloc (Nat.le_refl _) _
 have hh : Held (w.alloc (.cells (WrPc g) 227)) w.heap.size 227 (WrPc g) := heap_alloc_new w _
 obtain ⟨w1, hw1⟩ : ∃ w1, w.alloc (.cells (WrPc g) 227) = w1 := ⟨_, rfl⟩
 rw [hw1] at ba hh
 have s1 : w1.heap.size = w.heap.size + 1 := by rw [← hw1, World.size_alloc]
 have h1 := h.below ba
 have hc := countP h1 L.length (by omega) (by omega) (by omega)
 rw [← hF0] at hc
 have HC := hid hc
 have H1 := hid h1
 have HO1 := hid (own_below ho ba)
 have HT := hid hT
 have HFS := hid hFs
 have HFL := hid hFl
 have HBX := hid hh
 have HBA := hid ba
 obtain ⟨x0, x1⟩ := cC2 hh
 simp at x0 x1
 obtain ⟨q, hq⟩ : ∃ q, w.heap.size = q := ⟨_, rfl⟩
 rw [hq] at x0 x1
 obtain ⟨n, hn⟩ : ∃ n, L.length = n := ⟨_, rfl⟩
 rw [hn] at hc1 HO1 ⊢
 rw [hn] at HC
 clear h hc h1 ho hT hF hF0 hFn hFs hFl hh ba hl
 go_enter Tryz.func169, Tryz.ntmps169
 go_wp2_with fail
 refine HC.out.mono ?_
 rintro e w2 ⟨rfl, hk2⟩
 have HL2 := hid hk2
 clear hk2 x0 x1 hw1 HC
 go_wp2_with fail
 go_loopg [12] n (fun gk i wr => ∃ (k : Nat), k ≤ n ∧ i = .int .i64 k ∧ Hid (n - k = gk) ∧ Hid (LeftP w1 base g v (F k) wr))
 case atStart => exact ⟨0, Nat.zero_le _, rfl, hid rfl, HL2⟩
 case round =>
  obtain ⟨k, hk, rfl, HGK, HL⟩ := hrel
  by_cases hlt : k < n
  ·obtain ⟨t, ht⟩ : ∃ t, L[k]? = some t := ⟨_, List.getElem?_eq_getElem (by omega)⟩
   obtain ⟨v2, hs2, hb2, hv2⟩ := HL.out
   obtain ⟨b, o, rfl, _, hcl⟩ := (ERow.of_own (HL.out.keep H1.out HO1.out (by decide) (by decide))).block (by omega)
   have y0 := hcl k _ (strVs_at L ht)
   have y1 := (HL.out.held H1.out HBX.out (by decide) (by decide)).cell 1
   simp at y1
   rw [hq] at y1
   have htx := HT.out t (List.mem_of_getElem? ht)
   have hp := putt_any hs2 t htx.2 (by omega) (HFL.out k) (Nat.le_trans hbs (by have := HL.out.size; omega))
   rw [← HFS.out k t ht] at hp
   have HP := hid hp
   have HB2 := hid hb2
   have HV2 := hid hv2
   clear hp hcl ht hs2 hb2 hv2 htx
   go_wp2_with fail
   refine HP.out.mono ?_
   rintro e w5 ⟨rfl, hk5⟩
   have HL5 := hid (LeftP.trans HB2.out HV2.out hk5)
   clear hk5
   go_wp2_with fail
   go_roundg (n - (k + 1))
   case measure => have := HGK.out; omega
   case rel => exact ⟨k + 1, by omega, by go_num, hid rfl, HL5⟩
  ·obtain rfl : k = n := by omega
   go_wp2_with fail
   go_end0
   exact ⟨rfl, LeftP.ahead HBA.out HL.out⟩
theorem eventsP {w : World} {base g b2 x D r : Nat} {v vd : Value} {zs : List Int} {L : List (List Int)} (h : SnkP w base g v zs) (A : Option Addr) (c : Nat) (l : List Em) (hrow : EvRow w base (.slice A l.length c) l) (hok : ∀ e ∈ l, EOk e) (hlen : l.length ≤ 1024)
  (hx : Held w x 257 #[.pointer (some ⟨D, 0, none⟩)]) (hd : DictAt w b2 D r vd L) (hL : L.length ≤ 1000000000) (hin : ∀ e ∈ l, ∀ a ∈ e.args, a.t = 2 → a.s ∈ L) (hl : zs.length + (evsB L l).length ≤ 10000000000) (hbs : base ≤ w.heap.size) :
  Calls Tryz.prog 171 #[WrP g, .slice A l.length c, TabV x] w fun e w' => e = .returned (.tuple #[]) ∧ LeftP w base g v (zs ++ evsB L l) w' := by
 obtain ⟨-, hc1, hc2⟩ := hrow.1.len
 obtain ⟨F, hF⟩ : ∃ F : Nat → List Int, F = fun k => zs ++ encI l.length ++ evlB L (l.take k) := ⟨_, rfl⟩
 have hF0 : F 0 = zs ++ encI l.length := by rw [hF]; simp [evlB]
 have hFn : F l.length = zs ++ evsB L l := by rw [hF]; simp [evsB]
 have hFs : ∀ (k : Nat) (e : Em), l[k]? = some e → F (k + 1) = F k ++ encI e.p.toNat ++ argsB L e.args := fun k e he => by rw [hF]; simp only; rw [evlB_succ he]; simp only [evB, List.append_assoc]
 have hFl : ∀ k, (F k).length ≤ 10000000000 := fun k => by
  rw [hF]
  simp only [evsB, evlB, List.length_append] at hl ⊢
  have := flatMap_take_le (evB L) l k
  omega
 rw [← hFn]
 obtain ⟨q, hq⟩ : ∃ q, w.heap.size = q := ⟨_, rfl⟩
 obtain ⟨w1, hw1⟩ : ∃ w1, (w.alloc (.cells (WrPc g) 227)).alloc (.cells (TabVc x) 261) = w1 := ⟨_, rfl⟩
 have b1 : Below w.heap.size w w1 := by rw [← hw1]; exact ((Below.refl _ _).alloc (Nat.le_refl _) _).alloc (by simp) _
 have s1 : w1.heap.size = q + 2 := by rw [← hw1, World.size_alloc, World.size_alloc, hq]
 have hb1 : Held w1 q 227 (WrPc g) := by rw [← hw1, ← hq]; exact Held.below (B := (w.alloc (.cells (WrPc g) 227)).heap.size) (heap_alloc_new w _) ((Below.refl _ _).alloc (Nat.le_refl _) _) (by simp)
 have ht1 : Held w1 (q + 1) 261 (TabVc x) := by rw [← hw1, ← hq, ← World.size_alloc w (.cells (WrPc g) 227)]; exact heap_alloc_new _ _
 have hs1 := h.below b1
 have hc := countP hs1 l.length (by omega) (by omega) (by omega)
 rw [← hF0] at hc
 have HC := hid hc
 have H1 := hid hs1
 have HX := hid (hx.below b1 hx.lt)
 have HD := hid (hd.below b1)
 have HEV := hid (fun W (hb : Below base w1 W) => (hrow.below (b1.mono hbs)).below hb)
 have HOK := hid hok
 have HIN := hid hin
 have HFS := hid hFs
 have HFL := hid hFl
 have HBX := hid hb1
 have HTB := hid ht1
 have HBA := hid b1
 obtain ⟨x0, x1⟩ := cC2 hb1
 simp at x0 x1
 obtain ⟨n, hn⟩ : ∃ n, l.length = n := ⟨_, rfl⟩
 rw [hn] at hc1 hlen HC HEV ⊢
 have hbs1 : base ≤ w1.heap.size := by omega
 clear h hc hs1 hrow hok hx hd hin hF hF0 hFn hFs hFl hb1 ht1 b1 hl
 go_enter Tryz.func171, Tryz.ntmps171
 go_wp2_with fail
 refine HC.out.mono ?_
 rintro e w2 ⟨rfl, hk2⟩
 have HL2 := hid hk2
 clear hk2 x0 x1 hw1 HC
 go_wp2_with fail
 go_loopg [16] n (fun gk i wr => ∃ (k : Nat), k ≤ n ∧ i = .int .i64 k ∧ Hid (n - k = gk) ∧ Hid (LeftP w1 base g v (F k) wr))
 case atStart => exact ⟨0, Nat.zero_le _, rfl, hid rfl, HL2⟩
 case round =>
  obtain ⟨k, hk, rfl, HGK, HL⟩ := hrel
  by_cases hlt : k < n
  ·obtain ⟨e, he⟩ : ∃ e, l[k]? = some e := ⟨_, List.getElem?_eq_getElem (by omega)⟩
   have hem := List.mem_of_getElem? he
   have heo := HOK.out e hem
   have hlow := HL.out.low H1.out hbs1
   obtain ⟨b, o, rfl, hb, u0, u1, hokx, hl1, hl2⟩ := (HEV.out _ hlow).at he
   obtain ⟨pn, hpn⟩ : ∃ pn : Nat, e.p = (pn : Int) := ⟨e.p.toNat, by have := heo.low; omega⟩
   have hpl : pn < 64 := by have := heo.high; omega
   have hGR := fun W (hb : Below base w1 W) => (((HEV.out _ hb).2 e hem).1)
   have HFE := hid (show F (k + 1) = F k ++ encI pn ++ argsB L e.args by rw [HFS.out k e he, hpn]; rfl)
   have HAO := hid heo.args
   have HAI := hid (HIN.out e hem)
   have hfew := heo.few
   obtain ⟨ep, args, eA, ec⟩ := e
   simp only at u0 u1 hl1 hl2 hpn HFE HAO HAI hGR hfew
   subst hpn
   have HGR := hid hGR
   obtain ⟨q4, hq4⟩ : ∃ q4, wr.heap.size = q4 := ⟨_, rfl⟩
   obtain ⟨w4, hw4⟩ : ∃ w4, wr.alloc (.cells #[.int .i64 (pn : Int), .slice eA args.length ec] 91) = w4 := ⟨_, rfl⟩
   have b4 : Below wr.heap.size wr w4 := by rw [← hw4]; exact (Below.refl _ _).alloc (Nat.le_refl _) _
   have h4 : Held w4 q4 91 #[.int .i64 (pn : Int), .slice eA args.length ec] := by rw [← hw4, ← hq4]; exact heap_alloc_new wr _
   have hl4 := HL.out.behind b4
   have hs4 := H1.out
   obtain ⟨v2, hs2, hbt2, hv2⟩ := hl4
   obtain ⟨y0, y1⟩ := cC2 h4
   simp at y0 y1
   obtain ⟨z0, z1⟩ := cC2 (LeftP.held ⟨v2, hs2, hbt2, hv2⟩ H1.out HBX.out (by decide) (by decide))
   simp at z0 z1
   have hs4w : w1.heap.size ≤ w4.heap.size := hbt2.size
   have HP := hid (countP hs2 pn (by omega) (HFL.out k) (by omega))
   have HS2 := hid hs2
   have HB2 := hid hbt2
   have HV2 := hid hv2
   have H4 := hid h4
   clear hs2 hbt2 hv2 h4 hs4 hokx hGR he hem heo hlow b4
   obtain ⟨wx, hwx⟩ : ∃ wx, wx = wr := ⟨_, rfl⟩
   subst hwx
   go_wp2_with fail
   refine HP.out.mono ?_
   rintro e w5 ⟨rfl, hk5⟩
   have y1' := (hk5.held HS2.out H4.out (by decide) (by decide)).cell 1
   simp at y1'
   have HL5 := hid (LeftP.trans HB2.out HV2.out hk5)
   clear hk5 y0 y1 z0 z1 u0 u1 hw4 HP HS2 HB2 HV2 H4
   go_wp2_with fail
   clear y1'
   obtain ⟨G, hG⟩ : ∃ G : Nat → List Int, G = fun j => F k ++ encI pn ++ argsB L (args.take j) := ⟨_, rfl⟩
   have HG0 := hid (show G 0 = F k ++ encI pn by rw [hG]; simp [argsB])
   have HGn := hid (show G args.length = F (k + 1) by rw [hG, HFE.out]; simp)
   have HGs := hid (show ∀ (j : Nat) (a : Ag), args[j]? = some a → G (j + 1) = G j ++ encI (argN L a) from fun j a ha => by rw [hG]; simp only; rw [argsB_succ ha]; simp only [List.append_assoc])
   have HGl := hid (show ∀ j, (G j).length ≤ 10000000000 from fun j => by
    have h1 := HFL.out (k + 1)
    have h2 := flatMap_take_le (fun a => encI (argN L a)) args j
    rw [HFE.out] at h1
    rw [hG]
    simp only [argsB, List.length_append] at h1 ⊢
    omega)
   clear hG
   go_loopg [27] args.length (fun gj i wr => ∃ (j : Nat), j ≤ args.length ∧ i = .int .i64 j ∧ Hid (args.length - j = gj) ∧ Hid (LeftP w1 base g v (G j) wr))
   case atStart => exact ⟨0, Nat.zero_le _, rfl, hid rfl, by rw [HG0.out]; exact HL5⟩
   case round =>
    obtain ⟨j, hj, rfl, HGJ, HM⟩ := hrel
    by_cases hjl : j < args.length
    ·obtain ⟨a, ha⟩ : ∃ a, args[j]? = some a := ⟨_, List.getElem?_eq_getElem hjl⟩
     have ham := List.mem_of_getElem? ha
     have hao := HAO.out a ham
     have hai := HAI.out a ham
     obtain ⟨b3, o3, rfl, hb3, u0, u1, u2, hfit⟩ := (HGR.out _ (HM.out.low H1.out hbs1)).at ha
     have hyl := argN_lt (D := L) hao hL
     have HGE := hid (HGs.out j a ha)
     obtain ⟨q6, hq6⟩ : ∃ q6, wr.heap.size = q6 := ⟨_, rfl⟩
     obtain ⟨w6, hw6⟩ : ∃ w6, wr.alloc (.cells (argC a) 135) = w6 := ⟨_, rfl⟩
     have b6 : Below wr.heap.size wr w6 := by rw [← hw6]; exact (Below.refl _ _).alloc (Nat.le_refl _) _
     have h6 : Held w6 q6 135 (argC a) := by rw [← hw6, ← hq6]; exact heap_alloc_new wr _
     have hm6 := HM.out.behind b6
     have hbx6 := hm6.held H1.out HBX.out (by decide) (by decide)
     have htb6 := hm6.held H1.out HTB.out (by decide) (by decide)
     have hx6 := hm6.held H1.out HX.out (by decide) (by decide)
     have hd6 := hm6.dict H1.out HD.out
     obtain ⟨v3, hs3, hbt3, hv3⟩ := hm6
     have hs6w : w1.heap.size ≤ w6.heap.size := hbt3.size
     have HN := hid (fun W (hb : Below w6.heap.size w6 W) => putn_any (hs3.below hb) (argN L a) hyl (HGl.out j) (Nat.le_trans hbs1 (Nat.le_trans hs6w hb.size)))
     have HB3 := hid hbt3
     have HV3 := hid hv3
     rw [← HGE.out] at HN
     have HALL := hid (fun W (hb : Below w6.heap.size w6 W) => (⟨hbx6.below hb hbx6.lt, htb6.below hb htb6.lt, h6.below hb h6.lt⟩ : Held W q 227 (WrPc g) ∧ Held W (q + 1) 261 (TabVc x) ∧ Held W q6 135 (argC a)))
     have HALL2 := hid (fun W (hb : Below w6.heap.size w6 W) W2 (hk : LeftP W base g v3 (G (j + 1)) W2) => (⟨hk.held (hs3.below hb) (HALL.out W hb).1 (by decide) (by decide), hk.held (hs3.below hb) (HALL.out W hb).2.1 (by decide) (by decide), hk.held (hs3.below hb) (HALL.out W hb).2.2 (by decide) (by decide)⟩ : Held W2 q 227 (WrPc g) ∧ Held W2 (q + 1) 261 (TabVc x) ∧ Held W2 q6 135 (argC a)))
     by_cases ht : a.t = 1
     ·have hy : foldI a.n = ((argN L a : Nat) : Int) := by
       obtain ⟨_, _, _, f1, f2⟩ := hfit
       have := foldI_range f1 f2
       rw [argN, if_pos ht]
       omega
      have HT := hid (fun W => tab1_any a.t a.n (.string (strOfNums a.s)) hfit.2.2.2.1 hfit.2.2.2.2 W)
      rw [hy] at HT
      generalize argN L a = y at HN HT hyl HGE hy
      have HS := hid (fun W (hb : Held W q 227 (WrPc g) ∧ Held W (q + 1) 261 (TabVc x) ∧ Held W q6 135 (argC a)) => (by
       have e0 := hb.1.cell 0
       have e1 := hb.2.1.cell 1
       obtain ⟨e2, e3, e4⟩ := cC3 hb.2.2
       simp at e0 e1 e2 e3 e4
       exact ⟨e0, e1, e2, e3, e4⟩ : W.cell? ⟨q, 0, none⟩ = some (.func (.func 136) #[] #[.pointer (some ⟨g, 0, none⟩)]) ∧ W.cell? ⟨q + 1, 1, none⟩ = some (.func (.func 193) #[] #[]) ∧ W.cell? ⟨q6, 0, none⟩ = some (.int .i64 a.t) ∧ W.cell? ⟨q6, 1, none⟩ = some (.int .i64 a.n) ∧ W.cell? ⟨q6, 2, none⟩ = some (.string (strOfNums a.s))))
      obtain ⟨at', hat⟩ : ∃ t, a.t = t := ⟨_, rfl⟩
      rw [hat] at HT HS ht u0
      simp only [argC, hat] at hw6
      subst ht
      clear ha ham hao hai hfit h6 hbx6 htb6 hx6 hd6 hs3 hbt3 hv3 b6 hy
      go_wp2_with fail
      go_region_held3 (fun W => W.cell? ⟨q, 0, none⟩ = some (.func (.func 136) #[] #[.pointer (some ⟨g, 0, none⟩)]) ∧ W.cell? ⟨q + 1, 1, none⟩ = some (.func (.func 193) #[] #[]) ∧ W.cell? ⟨q6, 0, none⟩ = some (.int .i64 1) ∧ W.cell? ⟨q6, 1, none⟩ = some (.int .i64 a.n) ∧ W.cell? ⟨q6, 2, none⟩ = some (.string (strOfNums a.s)))
       (first | exact HS.out _ (HALL2.out _ b7 _ hk8) | exact HS.out _ (HALL.out _ b7) | exact HS.out _ (HALL.out _ (Below.refl _ _).drew) | exact HS.out _ (HALL.out _ (Below.refl _ _)))
       (first
        | (go_at_call 193; (with_reducible refine (HT.out _).mono ?_); rintro e w7 ⟨rfl, hb7⟩; have b7 : Below w6.heap.size w6 w7 := (Below.refl _ _).drew.trans hb7)
        | (go_at_call 136; (with_reducible refine (HN.out _ b7).mono ?_); rintro e w8 ⟨rfl, hk8⟩))
      have HM8 := hid (LeftP.trans HB3.out HV3.out (LeftP.ahead b7 hk8))
      clear b7 hb7 hk8 HN HT
      go_wp2_with fail
      go_roundg (args.length - (j + 1))
      case measure => have := HGJ.out; omega
      case rel => exact ⟨j + 1, by omega, by go_num, hid rfl, HM8⟩
     ·have ht2 : a.t = 2 := hao.kind.resolve_left ht
      have hy : placeD L a.s = ((argN L a : Nat) : Int) := by
       rw [argN, if_neg ht]
       exact placeD_in (hai ht2)
      have HT := hid (fun W (hb : Below w6.heap.size w6 W) => tab2_any a.t a.n a.s hfit.2.1 W (hx6.below hb hx6.lt) (hd6.below hb) (argN L a) hy (by
       rcases placeD_ways L a.s with ⟨q1, _⟩ | ⟨i, q1, q2, _⟩
       ·omega
       ·omega))
      clear ht
      have ht := ht2
      clear ht2
      generalize argN L a = y at HN HT hyl HGE hy
      have HS := hid (fun W (hb : Held W q 227 (WrPc g) ∧ Held W (q + 1) 261 (TabVc x) ∧ Held W q6 135 (argC a)) => (by
       have e0 := hb.1.cell 0
       have e1 := hb.2.1.cell 2
       obtain ⟨e2, e3, e4⟩ := cC3 hb.2.2
       simp at e0 e1 e2 e3 e4
       exact ⟨e0, e1, e2, e3, e4⟩ : W.cell? ⟨q, 0, none⟩ = some (.func (.func 136) #[] #[.pointer (some ⟨g, 0, none⟩)]) ∧ W.cell? ⟨q + 1, 2, none⟩ = some (.func (.func 195) #[] #[.pointer (some ⟨x, 0, none⟩)]) ∧ W.cell? ⟨q6, 0, none⟩ = some (.int .i64 a.t) ∧ W.cell? ⟨q6, 1, none⟩ = some (.int .i64 a.n) ∧ W.cell? ⟨q6, 2, none⟩ = some (.string (strOfNums a.s))))
      obtain ⟨at', hat⟩ : ∃ t, a.t = t := ⟨_, rfl⟩
      rw [hat] at HT HS ht u0
      simp only [argC, hat] at hw6
      subst ht
      clear ha ham hao hai hfit h6 hbx6 htb6 hx6 hd6 hs3 hbt3 hv3 b6 hy
      go_wp2_with fail
      go_region_held3 (fun W => W.cell? ⟨q, 0, none⟩ = some (.func (.func 136) #[] #[.pointer (some ⟨g, 0, none⟩)]) ∧ W.cell? ⟨q + 1, 2, none⟩ = some (.func (.func 195) #[] #[.pointer (some ⟨x, 0, none⟩)]) ∧ W.cell? ⟨q6, 0, none⟩ = some (.int .i64 2) ∧ W.cell? ⟨q6, 1, none⟩ = some (.int .i64 a.n) ∧ W.cell? ⟨q6, 2, none⟩ = some (.string (strOfNums a.s)))
       (first | exact HS.out _ (HALL2.out _ b7 _ hk8) | exact HS.out _ (HALL.out _ b7) | exact HS.out _ (HALL.out _ (Below.refl _ _).drew) | exact HS.out _ (HALL.out _ (Below.refl _ _)))
       (first
        | (go_at_call 195; (with_reducible refine (HT.out _ (Below.refl _ _).drew).mono ?_); rintro e w7 ⟨rfl, hb7⟩; have b7 : Below w6.heap.size w6 w7 := (Below.refl _ _).drew.trans hb7)
        | (go_at_call 136; (with_reducible refine (HN.out _ b7).mono ?_); rintro e w8 ⟨rfl, hk8⟩))
      have HM8 := hid (LeftP.trans HB3.out HV3.out (LeftP.ahead b7 hk8))
      clear b7 hb7 hk8 HN HT
      go_wp2_with fail
      go_roundg (args.length - (j + 1))
      case measure => have := HGJ.out; omega
      case rel => exact ⟨j + 1, by omega, by go_num, hid rfl, HM8⟩
    ·obtain rfl : j = args.length := by omega
     have HM' := HM
     rw [HGn.out] at HM'
     go_wp2_with fail
     go_roundg (n - (k + 1))
     case measure => have := HGK.out; omega
     case rel => exact ⟨k + 1, by omega, by go_num, hid rfl, HM'⟩
  ·obtain rfl : k = n := by omega
   go_wp2_with fail
   go_end0
   exact ⟨rfl, LeftP.ahead HBA.out HL.out⟩
theorem pointsP {w : World} {base g : Nat} {v : Value} {zs : List Int} (h : SnkP w base g v zs) (A : Option Addr) (c : Nat) (l : List Pm) (hrow : TrRow w base (.slice A l.length c) l) (hok : BOk l) (h0 : 0 < l.length) (hl : zs.length + (payB l).length ≤ 10000000000) (hbs : base ≤ w.heap.size) :
  Calls Tryz.prog 140 #[WrP g, .slice A l.length c] w fun e w' => e = .returned (.tuple #[]) ∧ LeftP w base g v (zs ++ payB l) w' := by
 obtain ⟨-, hc1, hc2⟩ := hrow.1.len
 obtain ⟨L, hLe⟩ : ∃ L, addT [] l = L := ⟨_, rfl⟩
 obtain ⟨hL1, hL2⟩ := hok.dict
 rw [hLe] at hL1 hL2
 obtain ⟨p0, hp0⟩ : ∃ p, l[0]? = some p := ⟨_, List.getElem?_eq_getElem h0⟩
 obtain ⟨t0, ht0⟩ : ∃ t0 : Nat, p0.tm = (t0 : Int) := ⟨p0.tm.toNat, by have := (hok.pts p0 (List.mem_of_getElem? hp0)).fits.1; omega⟩
 have ht0l : t0 < 18446744073709551616 := by have := (hok.pts p0 (List.mem_of_getElem? hp0)).fits.2; omega
 have ht0e : (tmAt l 0).toNat = t0 := by rw [tmAt_of hp0, ht0]; rfl
 obtain ⟨F, hF⟩ : ∃ F : Nat → List Int, F = fun k => zs ++ encI t0 ++ encI l.length ++ dictB L ++ ptsB L l k := ⟨_, rfl⟩
 have hpay : zs ++ payB l = F l.length := by rw [hF]; simp only [payB, headB, hLe, ht0e, List.append_assoc]
 have hF0 : F 0 = zs ++ encI t0 ++ encI l.length ++ dictB L := by rw [hF]; simp [ptsB]
 have hFs : ∀ k, F (k + 1) = F k ++ ptB L l k := fun k => by rw [hF]; simp only; rw [ptsB_succ]; simp only [List.append_assoc]
 have hFl : ∀ k, k ≤ l.length → (F k).length ≤ 10000000000 := fun k hk => by
  have e1 : (F l.length).length ≤ 10000000000 := by rw [← hpay, List.length_append]; exact hl
  have mono : ∀ j, (F k).length ≤ (F (k + j)).length := fun j => by
   induction j with
   | zero => exact Nat.le_refl _
   | succ j ih => rw [← Nat.add_assoc, hFs, List.length_append]; omega
  have := mono (l.length - k)
  rw [show k + (l.length - k) = l.length by omega] at this
  omega
 rw [hpay]
 have hlz : (zs ++ encI t0 ++ encI l.length ++ dictB L).length ≤ 10000000000 := by rw [← hF0]; exact hFl 0 (Nat.zero_le _)
 obtain ⟨q, hq⟩ : ∃ q, w.heap.size = q := ⟨_, rfl⟩
 obtain ⟨w1, hw1⟩ : ∃ w1, w.alloc (.cells (WrPc g) 227) = w1 := ⟨_, rfl⟩
 have b1 : Below w.heap.size w w1 := by rw [← hw1]; exact (Below.refl _ _).alloc (Nat.le_refl _) _
 have s1 : w1.heap.size = q + 1 := by rw [← hw1, World.size_alloc, hq]
 have hb1 : Held w1 q 227 (WrPc g) := by rw [← hw1, ← hq]; exact heap_alloc_new w _
 have hof := dof_any A c l w1 ((hrow.below (b1.mono hbs)).more (by omega)) (by have := nT_le l hok.pts; have := hok.few; omega)
 rw [hLe] at hof
 have HOF := hid hof
 have HROW := hid hrow
 have HOK := hid hok
 have HH := hid h
 have HFS := hid hFs
 have HFL := hid hFl
 have HF0 := hid hF0
 have HLZ := hid hlz
 have HL2 := hid hL2
 have HLE := hid hLe
 have HB1 := hid b1
 have HBX := hid hb1
 have HP0 := hid hp0
 obtain ⟨n, hn⟩ : ∃ n, l.length = n := ⟨_, rfl⟩
 have HN := hid hn
 have HFEW := hid hok.few
 rw [hn] at HOF hc1 h0 HF0 HLZ ⊢
 clear hof hrow hok h hF hpay hF0 hFs hFl hlz hL2 hLe b1 hb1 hp0 hl hn
 go_enter Tryz.func140, Tryz.ntmps140
 go_wp2_with fail
 refine HOF.out.mono ?_
 rintro e w2 ⟨D, r, vd, rfl, hd2, hb2⟩
 have HD2 := hid hd2
 have HB2 := hid hb2
 have HTB := hid (table_any D w2)
 have s2 := hb2.size
 clear hd2 hb2 hw1 HOF
 go_wp2_with fail
 refine HTB.out.mono ?_
 rintro e w3 ⟨x, rfl, hx3, hxl, hb3⟩
 have s3 := hb3.size
 obtain ⟨N, hN⟩ : ∃ N, w3.heap.size = N := ⟨_, rfl⟩
 obtain ⟨w4, q0, q1, q2, ht4, hb4, s4⟩ := lay_table w3 N x hN
 have HD4 := hid ((HD2.out.below hb3).below (by rw [hN]; exact hb4))
 have HX4 := hid (hx3.below (B := N) hb4 (by rw [← hN]; exact hx3.lt))
 have HBA := hid (((HB1.out.trans (HB2.out.mono (by omega))).trans (hb3.mono (by omega))).trans (hb4.mono (by omega)))
 have HBX4 := hid (((HBX.out.below HB2.out (by omega)).below hb3 (by omega)).below hb4 (by omega))
 have HT4 := hid ht4
 have H4 := hid (HH.out.below HBA.out)
 have hbs4 : base ≤ w4.heap.size := by omega
 clear hx3 ht4 hb3 hb4 HTB HD2 HB2 HB1 HBX HH
 go_wp2_with fail
 clear q0 q1 q2
 have HTR := hid (fun W (hb : Below base w4 W) => (HROW.out.below (HBA.out.mono hbs)).below hb)
 obtain ⟨b, o, rfl, hb0, x0, -, -, -, -⟩ := (HTR.out _ (Below.refl _ _)).at HP0.out
 have HC0 := hid (fun W (hb : Below base w4 W) => (show W.cell? ⟨b, o, none⟩ = some (.int .u64 (t0 : Int)) by have := (hb.cell (p := ⟨b, o + 0 * 2, none⟩) hb0).trans x0; rw [ht0] at this; simpa using this))
 have HS0 := hid (fun W (h1 : Held W q 227 (WrPc g)) => (by
  obtain ⟨e0, e1⟩ := cC2 h1
  simp at e0 e1
  exact ⟨e0, e1⟩ : W.cell? ⟨q, 0, none⟩ = some (.func (.func 136) #[] #[.pointer (some ⟨g, 0, none⟩)]) ∧ W.cell? ⟨q, 1, none⟩ = some (.func (.func 138) #[] #[.pointer (some ⟨g, 0, none⟩)])))
 have HZ := hid (show zs.length ≤ 10000000000 by have := HLZ.out; simp only [List.length_append] at this; omega)
 have HZ1 := hid (show (zs ++ encI t0).length ≤ 10000000000 by have := HLZ.out; simp only [List.length_append] at this ⊢; omega)
 have HN3 := hid (fun W (hb : Below w4.heap.size w4 W) => putn_any (H4.out.below hb) t0 ht0l HZ.out (Nat.le_trans hbs4 hb.size))
 have HALL := hid (fun W (hb : Below w4.heap.size w4 W) => (⟨(HS0.out W (HBX4.out.below hb HBX4.out.lt)).1, HC0.out W (hb.mono hbs4)⟩ : W.cell? ⟨q, 0, none⟩ = some (.func (.func 136) #[] #[.pointer (some ⟨g, 0, none⟩)]) ∧ W.cell? ⟨b, o, none⟩ = some (.int .u64 (t0 : Int))))
 have HALL2 := hid (fun W (hb : Below w4.heap.size w4 W) W2 (hk : LeftP W base g v (zs ++ encI t0) W2) => (⟨(HS0.out W2 (hk.held (H4.out.below hb) (HBX4.out.below hb HBX4.out.lt) (by decide) (by decide))).1, HC0.out W2 ((LeftP.ahead hb hk).low H4.out hbs4)⟩ : W2.cell? ⟨q, 0, none⟩ = some (.func (.func 136) #[] #[.pointer (some ⟨g, 0, none⟩)]) ∧ W2.cell? ⟨b, o, none⟩ = some (.int .u64 (t0 : Int))))
 clear x0 ht0 HROW
 have hc1' : 0 < n ∧ n ≤ c := ⟨h0, hc1⟩
 go_region_held3 (fun W => W.cell? ⟨q, 0, none⟩ = some (.func (.func 136) #[] #[.pointer (some ⟨g, 0, none⟩)]) ∧ W.cell? ⟨b, o, none⟩ = some (.int .u64 (t0 : Int)))
  (first | exact HALL2.out _ ((Below.refl _ _).drew) _ hk5 | exact HALL.out _ (Below.refl _ _).drew | exact HALL.out _ (Below.refl _ _))
  (first | (go_at_call 136; (with_reducible refine (HN3.out _ (Below.refl _ _).drew).mono ?_); rintro e w5 ⟨rfl, hk5⟩))
 have hl5 := LeftP.ahead (Below.refl _ _).drew hk5
 have x0 := (HS0.out _ (hl5.held H4.out HBX4.out (by decide) (by decide))).1
 have x1 := (HS0.out _ (hl5.held H4.out HBX4.out (by decide) (by decide))).2
 have hs5 := hl5.size
 obtain ⟨v5, hs5', hbt5, hv5⟩ := hl5
 have HC5 := hid (countP hs5' n (by omega) HZ1.out (by omega))
 have HB5 := hid hbt5
 have HV5 := hid hv5
 clear hk5 hs5' hbt5 hv5 HN3 HALL HALL2
 go_wp2_with fail
 refine HC5.out.mono ?_
 rintro e w6 ⟨rfl, hk6⟩
 have hl6 := LeftP.trans HB5.out HV5.out hk6
 have HS6 := hid (fun W (hb : Below w6.heap.size w6 W) => HS0.out _ ((hl6.held H4.out HBX4.out (by decide) (by decide)).below hb (hl6.held H4.out HBX4.out (by decide) (by decide)).lt))
 have hd6 := hl6.dict H4.out HD4.out
 have hs6 := hl6.size
 have hbx6 := hl6.held H4.out HBX4.out (by decide) (by decide)
 obtain ⟨v6, hs6', hbt6, hv6⟩ := hl6
 have HA6 := hid (fun W (hb : Below w6.heap.size w6 W) => dall_any (hd6.below hb) (by omega))
 have HD6 := hid (fun W (hb : Below w6.heap.size w6 W) (A : Option Addr) (c : Nat) (ho : W.ownsRow w6.heap.size 9 1 (.slice A L.length c) L.length (strVs L)) => dictP (hs6'.below hb) A c L ho HL2.out (by have := HLZ.out; rw [List.length_append] at this; exact this) (by have := hb.size; omega))
 have HSK := hid (fun W (hb : Below w6.heap.size w6 W) W2 (hk : LeftP W base g v6 (zs ++ encI t0 ++ encI n ++ dictB L) W2) => HS0.out W2 (hk.held (hs6'.below hb) (hbx6.below hb hbx6.lt) (by decide) (by decide)))
 have HB6 := hid hbt6
 have HV6 := hid hv6
 clear hk6 hs6' hbt6 hv6 hd6 x0 x1 HC5 HB5 HV5
 go_wp2_with fail
 go_region_held3 (fun W => W.cell? ⟨q, 0, none⟩ = some (.func (.func 136) #[] #[.pointer (some ⟨g, 0, none⟩)]) ∧ W.cell? ⟨q, 1, none⟩ = some (.func (.func 138) #[] #[.pointer (some ⟨g, 0, none⟩)]))
  (first | exact HSK.out _ b7 _ hk8 | exact HS6.out _ b7 | exact HS6.out _ (Below.refl _ _).drew | exact HS6.out _ (Below.refl _ _))
  (first
   | (go_at_call 170; (with_reducible refine (HA6.out _ (Below.refl _ _).drew).mono ?_); rintro e w7 ⟨A7, c7, rfl, ho7', hb7⟩; have ho7 : w7.ownsRow w6.heap.size 9 1 (.slice A7 L.length c7) L.length (strVs L) := ho7'; have b7 : Below w6.heap.size w6 w7 := (Below.refl _ _).drew.trans hb7)
   | (go_at_call 169; (with_reducible refine (HD6.out _ b7 A7 c7 ho7).mono ?_); rintro e w8 ⟨rfl, hk8⟩))
 have hl8 := LeftP.trans HB6.out HV6.out (LeftP.ahead b7 hk8)
 rw [← HF0.out] at hl8
 have HL8 := hid hl8
 clear hk8 b7 ho7 ho7' hb7 hl8 HA6 HD6 HSK HS6 HB6 HV6
 go_wp2_with fail
 go_loopg [29] n (fun gk i wr => ∃ (k : Nat), k ≤ n ∧ i = .int .i64 k ∧ Hid (n - k = gk) ∧ Hid (LeftP w4 base g v (F k) wr))
 case atStart => exact ⟨0, Nat.zero_le _, rfl, hid rfl, HL8⟩
 case round =>
  obtain ⟨k, hk, rfl, HGK, HL⟩ := hrel
  by_cases hlt : k < n
  ·obtain ⟨d, hd⟩ : ∃ d, l[k]? = some d := ⟨_, List.getElem?_eq_getElem (by have := HN.out; omega)⟩
   have hdm := List.mem_of_getElem? hd
   have HPO := hid (HOK.out.pts d hdm)
   have hlow := HL.out.low H4.out hbs4
   obtain ⟨_, _, e9, _, u0, u1, hokd, hl1, hl2⟩ := (HTR.out _ hlow).at hd
   injection e9 with e9
   injection e9 with e9a e9b
   subst e9a e9b
   have HGR := hid (fun W (hb : Below base w4 W) => (((HTR.out _ hb).2 d hdm).1))
   have HFE := hid (show F (k + 1) = F k ++ ptB L l k from HFS.out k)
   have HEV := hid (show evsAt l k = d.evs from evsAt_of hd)
   have HIN := hid (show ∀ e ∈ d.evs, ∀ a ∈ e.args, a.t = 2 → a.s ∈ L from fun e he a ha ht => by rw [← HLE.out]; exact addT_has l [] d hdm e he a ha ht)
   have hfl := HFL.out (k + 1) (by have := HN.out; omega)
   obtain ⟨q7, hq7⟩ : ∃ q7, wr.heap.size = q7 := ⟨_, rfl⟩
   obtain ⟨w7, hw7⟩ : ∃ w7, wr.alloc (.cells #[.int .u64 d.tm, .slice d.A d.evs.length d.c] 55) = w7 := ⟨_, rfl⟩
   have b7 : Below wr.heap.size wr w7 := by rw [← hw7]; exact (Below.refl _ _).alloc (Nat.le_refl _) _
   have h7 : Held w7 q7 55 #[.int .u64 d.tm, .slice d.A d.evs.length d.c] := by rw [← hw7, ← hq7]; exact heap_alloc_new wr _
   have HL7 := hid (HL.out.behind b7)
   have H7 := hid h7
   obtain ⟨dA, hdA⟩ : ∃ dA, d.A = dA := ⟨_, rfl⟩
   rw [hdA] at u1 hw7 H7 HGR
   have hfew := HPO.out.few
   cases k with
   | zero =>
    simp only [Nat.zero_mul, Nat.add_zero] at u0 u1
    have HF1 := hid (show F (0 + 1) = F 0 ++ evsB L d.evs by rw [HFE.out, ptB, HEV.out]; simp)
    clear hd hdm hokd h7 b7 hlow hdA
    obtain ⟨v8, hs8, hbt8, hv8⟩ := HL7.out
    have HE8 := hid (eventsP hs8 dA d.c d.evs (HGR.out _ (HL7.out.low H4.out hbs4)) HPO.out.evs HPO.out.few (HL7.out.held H4.out HX4.out (by decide) (by decide)) (HL7.out.dict H4.out HD4.out) (by omega) HIN.out (by rw [← List.length_append, ← HF1.out]; exact hfl) (Nat.le_trans hbs4 HL7.out.size))
    rw [← HF1.out] at HE8
    have y1 := H7.out.cell 1
    have z0 := (HS0.out _ (HL7.out.held H4.out HBX4.out (by decide) (by decide))).1
    have z1 := (HS0.out _ (HL7.out.held H4.out HBX4.out (by decide) (by decide))).2
    obtain ⟨t0', t1', t2'⟩ := cC3 (HL7.out.held H4.out HT4.out (by decide) (by decide))
    simp at y1 t0' t1' t2'
    have HB8 := hid hbt8
    have HV8 := hid hv8
    clear hs8 hbt8 hv8
    go_wp2_with fail
    refine HE8.out.mono ?_
    rintro e w8e ⟨rfl, hk8⟩
    have HL8e := hid (LeftP.trans HB8.out HV8.out hk8)
    clear hk8 y1 z0 z1 t0' t1' t2' HE8 HB8 HV8
    go_wp2_with fail
    go_roundg (n - (0 + 1))
    case measure => have := HGK.out; omega
    case rel => exact ⟨0 + 1, by omega, by go_num, hid rfl, HL8e⟩
   | succ m =>
    obtain ⟨d0, hd0⟩ : ∃ d, l[m]? = some d := ⟨_, List.getElem?_eq_getElem (by have := HN.out; omega)⟩
    have hord : d0.tm ≤ d.tm := HOK.out.ord m d0 d hd0 hd
    have hf0 := (HOK.out.pts d0 (List.mem_of_getElem? hd0)).fits
    have hfd := HPO.out.fits
    unfold Pm.Fits at hf0 hfd
    obtain ⟨y, hy⟩ : ∃ y : Nat, d.tm - d0.tm = (y : Int) := ⟨(d.tm - d0.tm).toNat, by omega⟩
    have hyl : y < 18446744073709551616 := by omega
    have HF1 := hid (show F (m + 1 + 1) = F (m + 1) ++ encI y ++ evsB L d.evs by
     have hst : stepN l (m + 1) = y := by
      unfold stepN
      rw [tmAt_of hd, show m + 1 - 1 = m from rfl, tmAt_of hd0, hy]
      rfl
     rw [HFE.out, ptB, HEV.out, if_pos (Nat.succ_pos m), hst, List.append_assoc])
    have HC9 := hid (fun W (hb : Below base w4 W) => (show W.cell? ⟨b, o + m * 2, none⟩ = some (.int .u64 d0.tm) from by
     obtain ⟨_, _, e9, _, z, _⟩ := (HTR.out _ hb).at hd0
     injection e9 with e9
     injection e9 with e9a e9b
     subst e9a e9b
     exact z))
    have hw9 : IntKind.u64.wrap (d.tm - d0.tm) = (y : Int) := by rw [hy]; exact IntWalk.u64_in _ (by omega)
    have hm9 : IntKind.i64.wrap (m : Int) = (m : Int) := IntWalk.i64_in _ (by omega)
    have hm1 : (0 : Int) ≤ (m : Int) := by omega
    have hm2 : (m : Int) < (n : Int) := by omega
    have hm3 : ¬ (m : Int) < 0 := by omega
    have hm4 : ¬ (n : Int) ≤ (m : Int) := by omega
    have hm5 : m < n := by omega
    obtain ⟨v8, hs8, hbt8, hv8⟩ := HL7.out
    have HN9 := hid (fun W (hb : Below w7.heap.size w7 W) => putn_any (hs8.below hb) y hyl (HFL.out (m + 1) (by have := HN.out; omega)) (Nat.le_trans (Nat.le_trans hbs4 HL7.out.size) hb.size))
    have HQ7 := hid (HL7.out.held H4.out HBX4.out (by decide) (by decide))
    have HALL := hid (fun W (hb : Below w7.heap.size w7 W) => (⟨(HS0.out W (HQ7.out.below hb HQ7.out.lt)).1, by have := (H7.out.below hb H7.out.lt).cell 0; simpa using this, HC9.out W ((HL7.out.low H4.out hbs4).trans (hb.mono (Nat.le_trans hbs4 HL7.out.size)))⟩ : W.cell? ⟨q, 0, none⟩ = some (.func (.func 136) #[] #[.pointer (some ⟨g, 0, none⟩)]) ∧ W.cell? ⟨q7, 0, none⟩ = some (.int .u64 d.tm) ∧ W.cell? ⟨b, o + m * 2, none⟩ = some (.int .u64 d0.tm)))
    have HK7 := hid (fun W (hb : Below w7.heap.size w7 W) W2 (hk : LeftP W base g v8 (F (m + 1) ++ encI y) W2) => hk.held (hs8.below hb) (H7.out.below hb H7.out.lt) (by decide) (by decide))
    have HALL2 := hid (fun W (hb : Below w7.heap.size w7 W) W2 (hk : LeftP W base g v8 (F (m + 1) ++ encI y) W2) => (⟨(HS0.out W2 (hk.held (hs8.below hb) (HQ7.out.below hb HQ7.out.lt) (by decide) (by decide))).1, by have := (HK7.out W hb W2 hk).cell 0; simpa using this, HC9.out W2 ((LeftP.trans hbt8 hv8 (LeftP.ahead hb hk)).low H4.out hbs4)⟩ : W2.cell? ⟨q, 0, none⟩ = some (.func (.func 136) #[] #[.pointer (some ⟨g, 0, none⟩)]) ∧ W2.cell? ⟨q7, 0, none⟩ = some (.int .u64 d.tm) ∧ W2.cell? ⟨b, o + m * 2, none⟩ = some (.int .u64 d0.tm)))
    have HB8 := hid hbt8
    have HV8 := hid hv8
    clear hd hdm hokd h7 b7 hlow hdA hd0 hf0 hfd hs8 hbt8 hv8 hy
    go_wp2_with fail
    go_region_held3 (fun W => W.cell? ⟨q, 0, none⟩ = some (.func (.func 136) #[] #[.pointer (some ⟨g, 0, none⟩)]) ∧ W.cell? ⟨q7, 0, none⟩ = some (.int .u64 d.tm) ∧ W.cell? ⟨b, o + m * 2, none⟩ = some (.int .u64 d0.tm))
     (first | exact HALL2.out _ ((Below.refl _ _).drew) _ hk9 | exact HALL.out _ (Below.refl _ _).drew | exact HALL.out _ (Below.refl _ _))
     (first | (go_at_call 136; (with_reducible refine (HN9.out _ (Below.refl _ _).drew).mono ?_); rintro e w9 ⟨rfl, hk9⟩))
    have HL9 := hid (LeftP.trans HB8.out HV8.out (LeftP.ahead (Below.refl _ _).drew hk9))
    have H9 := hid (HK7.out _ (Below.refl _ _).drew _ hk9)
    clear hk9 HN9 HALL HALL2 HK7 HQ7 HB8 HV8 hw9 hm9 u0 u1
    obtain ⟨v9, hs9, hbt9, hv9⟩ := HL9.out
    have HE9 := hid (eventsP hs9 dA d.c d.evs (HGR.out _ (HL9.out.low H4.out hbs4)) HPO.out.evs HPO.out.few (HL9.out.held H4.out HX4.out (by decide) (by decide)) (HL9.out.dict H4.out HD4.out) (by omega) HIN.out (by rw [← List.length_append, ← HF1.out]; exact hfl) (Nat.le_trans hbs4 HL9.out.size))
    rw [← HF1.out] at HE9
    have y1 := H9.out.cell 1
    have z0 := (HS0.out _ (HL9.out.held H4.out HBX4.out (by decide) (by decide))).1
    have z1 := (HS0.out _ (HL9.out.held H4.out HBX4.out (by decide) (by decide))).2
    obtain ⟨t0', t1', t2'⟩ := cC3 (HL9.out.held H4.out HT4.out (by decide) (by decide))
    simp at y1 t0' t1' t2'
    have HB9 := hid hbt9
    have HV9 := hid hv9
    clear hs9 hbt9 hv9
    go_wp2_with fail
    refine HE9.out.mono ?_
    rintro e w9e ⟨rfl, hk9⟩
    have HL9e := hid (LeftP.trans HB9.out HV9.out hk9)
    clear hk9 y1 z0 z1 t0' t1' t2' HE9 HB9 HV9
    go_wp2_with fail
    go_roundg (n - (m + 1 + 1))
    case measure => have := HGK.out; omega
    case rel => exact ⟨m + 1 + 1, by omega, by go_num, hid rfl, HL9e⟩
  ·obtain rfl : k = n := by omega
   go_wp2_with fail
   go_end0
   exact ⟨rfl, LeftP.ahead HBA.out HL.out⟩
abbrev WrS (g : Nat) : Value := .agg #[.func (.func 163) #[] #[.pointer (some ⟨g, 0, none⟩)], .func (.func 164) #[] #[.pointer (some ⟨g, 0, none⟩)]]
abbrev WrSc (g : Nat) : Array Value := #[.func (.func 163) #[] #[.pointer (some ⟨g, 0, none⟩)], .func (.func 164) #[] #[.pointer (some ⟨g, 0, none⟩)]]
theorem countS {w : World} {base g : Nat} {v : Value} {zs : List Int} (h : SnkS w base g v zs) (n : Nat) (hn : n < 9223372036854775808) (hl : zs.length ≤ 10000000000) (hbs : base ≤ w.heap.size) :
  Calls Tryz.prog 168 #[WrS g, .int .i64 n] w fun e w' => e = .returned (.tuple #[]) ∧ LeftS w base g v (zs ++ encI n) w' := by
 have ba : Below w.heap.size w (w.alloc (.cells (WrSc g) 227)) := (Below.refl _ _).alloc (Nat.le_refl _) _
 have hh : Held (w.alloc (.cells (WrSc g) 227)) w.heap.size 227 (WrSc g) := heap_alloc_new w _
 have h1 := h.below ba
 obtain ⟨w1, hw1⟩ : ∃ w1, w.alloc (.cells (WrSc g) 227) = w1 := ⟨_, rfl⟩
 rw [hw1] at ba hh h1
 have x0 := hh.cell 0
 simp at x0
 have HC := hid (sumn_any h1 n (by omega) hl)
 generalize encI n = E at HC ⊢
 clear h h1
 go_enter Tryz.func168, Tryz.ntmps168
 go_wp2_with fail
 refine HC.out.mono ?_
 rintro e w2 ⟨rfl, hk⟩
 go_wp2_with fail
 go_end0
 exact ⟨rfl, LeftS.ahead ba hk⟩
theorem dictS {w : World} {base g b2 : Nat} {v : Value} {zs : List Int} (h : SnkS w base g v zs) (A : Option Addr) (c : Nat) (L : List (List Int)) (ho : w.ownsRow b2 9 1 (.slice A L.length c) L.length (strVs L)) (hT : Tx200 L) (hl : zs.length + (dictB L).length ≤ 10000000000) (hbs : base ≤ w.heap.size) :
  Calls Tryz.prog 169 #[WrS g, .slice A L.length c] w fun e w' => e = .returned (.tuple #[]) ∧ LeftS w base g v (zs ++ dictB L) w' := by
 obtain ⟨-, hc1, hc2⟩ := (ERow.of_own ho).len
 obtain ⟨F, hF⟩ : ∃ F : Nat → List Int, F = fun k => zs ++ encI L.length ++ catT (L.take k) := ⟨_, rfl⟩
 have hF0 : F 0 = zs ++ encI L.length := by rw [hF]; simp [catT]
 have hFn : F L.length = zs ++ dictB L := by rw [hF]; simp [dictB]
 have hFs : ∀ (k : Nat) (t : List Int), L[k]? = some t → F (k + 1) = F k ++ encT t := fun k t ht => by rw [hF]; simp only; rw [catT_take_succ L ht]; simp only [List.append_assoc]
 have hFl : ∀ k, (F k).length ≤ 10000000000 := fun k => by
  rw [hF]
  simp only [dictB, List.length_append] at hl ⊢
  have := catT_take_le L k
  omega
 rw [← hFn]
 have ba : Below w.heap.size w (w.alloc (.cells (WrSc g) 227)) := (Below.refl _ _).alloc (Nat.le_refl _) _
 have hh : Held (w.alloc (.cells (WrSc g) 227)) w.heap.size 227 (WrSc g) := heap_alloc_new w _
 obtain ⟨w1, hw1⟩ : ∃ w1, w.alloc (.cells (WrSc g) 227) = w1 := ⟨_, rfl⟩
 rw [hw1] at ba hh
 have s1 : w1.heap.size = w.heap.size + 1 := by rw [← hw1, World.size_alloc]
 have h1 := h.below ba
 have hc := countS h1 L.length (by omega) (by omega) (by omega)
 rw [← hF0] at hc
 have HC := hid hc
 have H1 := hid h1
 have HO1 := hid (own_below ho ba)
 have HT := hid hT
 have HFS := hid hFs
 have HFL := hid hFl
 have HBX := hid hh
 have HBA := hid ba
 obtain ⟨x0, x1⟩ := cC2 hh
 simp at x0 x1
 obtain ⟨q, hq⟩ : ∃ q, w.heap.size = q := ⟨_, rfl⟩
 rw [hq] at x0 x1
 obtain ⟨n, hn⟩ : ∃ n, L.length = n := ⟨_, rfl⟩
 rw [hn] at hc1 HO1 ⊢
 rw [hn] at HC
 clear h hc h1 ho hT hF hF0 hFn hFs hFl hh ba hl
 go_enter Tryz.func169, Tryz.ntmps169
 go_wp2_with fail
 refine HC.out.mono ?_
 rintro e w2 ⟨rfl, hk2⟩
 have HL2 := hid hk2
 clear hk2 x0 x1 hw1 HC
 go_wp2_with fail
 go_loopg [12] n (fun gk i wr => ∃ (k : Nat), k ≤ n ∧ i = .int .i64 k ∧ Hid (n - k = gk) ∧ Hid (LeftS w1 base g v (F k) wr))
 case atStart => exact ⟨0, Nat.zero_le _, rfl, hid rfl, HL2⟩
 case round =>
  obtain ⟨k, hk, rfl, HGK, HL⟩ := hrel
  by_cases hlt : k < n
  ·obtain ⟨t, ht⟩ : ∃ t, L[k]? = some t := ⟨_, List.getElem?_eq_getElem (by omega)⟩
   obtain ⟨v2, hs2, hb2, hv2⟩ := HL.out
   obtain ⟨b, o, rfl, _, hcl⟩ := (ERow.of_own (HL.out.keep H1.out HO1.out (by decide) (by decide))).block (by omega)
   have y0 := hcl k _ (strVs_at L ht)
   have y1 := (HL.out.held H1.out HBX.out (by decide) (by decide)).cell 1
   simp at y1
   rw [hq] at y1
   have htx := HT.out t (List.mem_of_getElem? ht)
   have hp := sumt_any hs2 t htx.2 (by omega) (HFL.out k) 
   rw [← HFS.out k t ht] at hp
   have HP := hid hp
   have HB2 := hid hb2
   have HV2 := hid hv2
   clear hp hcl ht hs2 hb2 hv2 htx
   go_wp2_with fail
   refine HP.out.mono ?_
   rintro e w5 ⟨rfl, hk5⟩
   have HL5 := hid (LeftS.trans HB2.out HV2.out hk5)
   clear hk5
   go_wp2_with fail
   go_roundg (n - (k + 1))
   case measure => have := HGK.out; omega
   case rel => exact ⟨k + 1, by omega, by go_num, hid rfl, HL5⟩
  ·obtain rfl : k = n := by omega
   go_wp2_with fail
   go_end0
   exact ⟨rfl, LeftS.ahead HBA.out HL.out⟩
theorem eventsS {w : World} {base g b2 x D r : Nat} {v vd : Value} {zs : List Int} {L : List (List Int)} (h : SnkS w base g v zs) (A : Option Addr) (c : Nat) (l : List Em) (hrow : EvRow w base (.slice A l.length c) l) (hok : ∀ e ∈ l, EOk e) (hlen : l.length ≤ 1024)
  (hx : Held w x 257 #[.pointer (some ⟨D, 0, none⟩)]) (hd : DictAt w b2 D r vd L) (hL : L.length ≤ 1000000000) (hin : ∀ e ∈ l, ∀ a ∈ e.args, a.t = 2 → a.s ∈ L) (hl : zs.length + (evsB L l).length ≤ 10000000000) (hbs : base ≤ w.heap.size) :
  Calls Tryz.prog 171 #[WrS g, .slice A l.length c, TabV x] w fun e w' => e = .returned (.tuple #[]) ∧ LeftS w base g v (zs ++ evsB L l) w' := by
 obtain ⟨-, hc1, hc2⟩ := hrow.1.len
 obtain ⟨F, hF⟩ : ∃ F : Nat → List Int, F = fun k => zs ++ encI l.length ++ evlB L (l.take k) := ⟨_, rfl⟩
 have hF0 : F 0 = zs ++ encI l.length := by rw [hF]; simp [evlB]
 have hFn : F l.length = zs ++ evsB L l := by rw [hF]; simp [evsB]
 have hFs : ∀ (k : Nat) (e : Em), l[k]? = some e → F (k + 1) = F k ++ encI e.p.toNat ++ argsB L e.args := fun k e he => by rw [hF]; simp only; rw [evlB_succ he]; simp only [evB, List.append_assoc]
 have hFl : ∀ k, (F k).length ≤ 10000000000 := fun k => by
  rw [hF]
  simp only [evsB, evlB, List.length_append] at hl ⊢
  have := flatMap_take_le (evB L) l k
  omega
 rw [← hFn]
 obtain ⟨q, hq⟩ : ∃ q, w.heap.size = q := ⟨_, rfl⟩
 obtain ⟨w1, hw1⟩ : ∃ w1, (w.alloc (.cells (WrSc g) 227)).alloc (.cells (TabVc x) 261) = w1 := ⟨_, rfl⟩
 have b1 : Below w.heap.size w w1 := by rw [← hw1]; exact ((Below.refl _ _).alloc (Nat.le_refl _) _).alloc (by simp) _
 have s1 : w1.heap.size = q + 2 := by rw [← hw1, World.size_alloc, World.size_alloc, hq]
 have hb1 : Held w1 q 227 (WrSc g) := by rw [← hw1, ← hq]; exact Held.below (B := (w.alloc (.cells (WrSc g) 227)).heap.size) (heap_alloc_new w _) ((Below.refl _ _).alloc (Nat.le_refl _) _) (by simp)
 have ht1 : Held w1 (q + 1) 261 (TabVc x) := by rw [← hw1, ← hq, ← World.size_alloc w (.cells (WrSc g) 227)]; exact heap_alloc_new _ _
 have hs1 := h.below b1
 have hc := countS hs1 l.length (by omega) (by omega) (by omega)
 rw [← hF0] at hc
 have HC := hid hc
 have H1 := hid hs1
 have HX := hid (hx.below b1 hx.lt)
 have HD := hid (hd.below b1)
 have HEV := hid (fun W (hb : Below base w1 W) => (hrow.below (b1.mono hbs)).below hb)
 have HOK := hid hok
 have HIN := hid hin
 have HFS := hid hFs
 have HFL := hid hFl
 have HBX := hid hb1
 have HTB := hid ht1
 have HBA := hid b1
 obtain ⟨x0, x1⟩ := cC2 hb1
 simp at x0 x1
 obtain ⟨n, hn⟩ : ∃ n, l.length = n := ⟨_, rfl⟩
 rw [hn] at hc1 hlen HC HEV ⊢
 have hbs1 : base ≤ w1.heap.size := by omega
 clear h hc hs1 hrow hok hx hd hin hF hF0 hFn hFs hFl hb1 ht1 b1 hl
 go_enter Tryz.func171, Tryz.ntmps171
 go_wp2_with fail
 refine HC.out.mono ?_
 rintro e w2 ⟨rfl, hk2⟩
 have HL2 := hid hk2
 clear hk2 x0 x1 hw1 HC
 go_wp2_with fail
 go_loopg [16] n (fun gk i wr => ∃ (k : Nat), k ≤ n ∧ i = .int .i64 k ∧ Hid (n - k = gk) ∧ Hid (LeftS w1 base g v (F k) wr))
 case atStart => exact ⟨0, Nat.zero_le _, rfl, hid rfl, HL2⟩
 case round =>
  obtain ⟨k, hk, rfl, HGK, HL⟩ := hrel
  by_cases hlt : k < n
  ·obtain ⟨e, he⟩ : ∃ e, l[k]? = some e := ⟨_, List.getElem?_eq_getElem (by omega)⟩
   have hem := List.mem_of_getElem? he
   have heo := HOK.out e hem
   have hlow := HL.out.low H1.out hbs1
   obtain ⟨b, o, rfl, hb, u0, u1, hokx, hl1, hl2⟩ := (HEV.out _ hlow).at he
   obtain ⟨pn, hpn⟩ : ∃ pn : Nat, e.p = (pn : Int) := ⟨e.p.toNat, by have := heo.low; omega⟩
   have hpl : pn < 64 := by have := heo.high; omega
   have hGR := fun W (hb : Below base w1 W) => (((HEV.out _ hb).2 e hem).1)
   have HFE := hid (show F (k + 1) = F k ++ encI pn ++ argsB L e.args by rw [HFS.out k e he, hpn]; rfl)
   have HAO := hid heo.args
   have HAI := hid (HIN.out e hem)
   have hfew := heo.few
   obtain ⟨ep, args, eA, ec⟩ := e
   simp only at u0 u1 hl1 hl2 hpn HFE HAO HAI hGR hfew
   subst hpn
   have HGR := hid hGR
   obtain ⟨q4, hq4⟩ : ∃ q4, wr.heap.size = q4 := ⟨_, rfl⟩
   obtain ⟨w4, hw4⟩ : ∃ w4, wr.alloc (.cells #[.int .i64 (pn : Int), .slice eA args.length ec] 91) = w4 := ⟨_, rfl⟩
   have b4 : Below wr.heap.size wr w4 := by rw [← hw4]; exact (Below.refl _ _).alloc (Nat.le_refl _) _
   have h4 : Held w4 q4 91 #[.int .i64 (pn : Int), .slice eA args.length ec] := by rw [← hw4, ← hq4]; exact heap_alloc_new wr _
   have hl4 := HL.out.behind b4
   have hs4 := H1.out
   obtain ⟨v2, hs2, hbt2, hv2⟩ := hl4
   obtain ⟨y0, y1⟩ := cC2 h4
   simp at y0 y1
   obtain ⟨z0, z1⟩ := cC2 (LeftS.held ⟨v2, hs2, hbt2, hv2⟩ H1.out HBX.out (by decide) (by decide))
   simp at z0 z1
   have hs4w : w1.heap.size ≤ w4.heap.size := hbt2.size
   have HP := hid (countS hs2 pn (by omega) (HFL.out k) (by omega))
   have HS2 := hid hs2
   have HB2 := hid hbt2
   have HV2 := hid hv2
   have H4 := hid h4
   clear hs2 hbt2 hv2 h4 hs4 hokx hGR he hem heo hlow b4
   obtain ⟨wx, hwx⟩ : ∃ wx, wx = wr := ⟨_, rfl⟩
   subst hwx
   go_wp2_with fail
   refine HP.out.mono ?_
   rintro e w5 ⟨rfl, hk5⟩
   have y1' := (hk5.held HS2.out H4.out (by decide) (by decide)).cell 1
   simp at y1'
   have HL5 := hid (LeftS.trans HB2.out HV2.out hk5)
   clear hk5 y0 y1 z0 z1 u0 u1 hw4 HP HS2 HB2 HV2 H4
   go_wp2_with fail
   clear y1'
   obtain ⟨G, hG⟩ : ∃ G : Nat → List Int, G = fun j => F k ++ encI pn ++ argsB L (args.take j) := ⟨_, rfl⟩
   have HG0 := hid (show G 0 = F k ++ encI pn by rw [hG]; simp [argsB])
   have HGn := hid (show G args.length = F (k + 1) by rw [hG, HFE.out]; simp)
   have HGs := hid (show ∀ (j : Nat) (a : Ag), args[j]? = some a → G (j + 1) = G j ++ encI (argN L a) from fun j a ha => by rw [hG]; simp only; rw [argsB_succ ha]; simp only [List.append_assoc])
   have HGl := hid (show ∀ j, (G j).length ≤ 10000000000 from fun j => by
    have h1 := HFL.out (k + 1)
    have h2 := flatMap_take_le (fun a => encI (argN L a)) args j
    rw [HFE.out] at h1
    rw [hG]
    simp only [argsB, List.length_append] at h1 ⊢
    omega)
   clear hG
   go_loopg [27] args.length (fun gj i wr => ∃ (j : Nat), j ≤ args.length ∧ i = .int .i64 j ∧ Hid (args.length - j = gj) ∧ Hid (LeftS w1 base g v (G j) wr))
   case atStart => exact ⟨0, Nat.zero_le _, rfl, hid rfl, by rw [HG0.out]; exact HL5⟩
   case round =>
    obtain ⟨j, hj, rfl, HGJ, HM⟩ := hrel
    by_cases hjl : j < args.length
    ·obtain ⟨a, ha⟩ : ∃ a, args[j]? = some a := ⟨_, List.getElem?_eq_getElem hjl⟩
     have ham := List.mem_of_getElem? ha
     have hao := HAO.out a ham
     have hai := HAI.out a ham
     obtain ⟨b3, o3, rfl, hb3, u0, u1, u2, hfit⟩ := (HGR.out _ (HM.out.low H1.out hbs1)).at ha
     have hyl := argN_lt (D := L) hao hL
     have HGE := hid (HGs.out j a ha)
     obtain ⟨q6, hq6⟩ : ∃ q6, wr.heap.size = q6 := ⟨_, rfl⟩
     obtain ⟨w6, hw6⟩ : ∃ w6, wr.alloc (.cells (argC a) 135) = w6 := ⟨_, rfl⟩
     have b6 : Below wr.heap.size wr w6 := by rw [← hw6]; exact (Below.refl _ _).alloc (Nat.le_refl _) _
     have h6 : Held w6 q6 135 (argC a) := by rw [← hw6, ← hq6]; exact heap_alloc_new wr _
     have hm6 := HM.out.behind b6
     have hbx6 := hm6.held H1.out HBX.out (by decide) (by decide)
     have htb6 := hm6.held H1.out HTB.out (by decide) (by decide)
     have hx6 := hm6.held H1.out HX.out (by decide) (by decide)
     have hd6 := hm6.dict H1.out HD.out
     obtain ⟨v3, hs3, hbt3, hv3⟩ := hm6
     have hs6w : w1.heap.size ≤ w6.heap.size := hbt3.size
     have HN := hid (fun W (hb : Below w6.heap.size w6 W) => sumn_any (hs3.below hb) (argN L a) hyl (HGl.out j) )
     have HB3 := hid hbt3
     have HV3 := hid hv3
     rw [← HGE.out] at HN
     have HALL := hid (fun W (hb : Below w6.heap.size w6 W) => (⟨hbx6.below hb hbx6.lt, htb6.below hb htb6.lt, h6.below hb h6.lt⟩ : Held W q 227 (WrSc g) ∧ Held W (q + 1) 261 (TabVc x) ∧ Held W q6 135 (argC a)))
     have HALL2 := hid (fun W (hb : Below w6.heap.size w6 W) W2 (hk : LeftS W base g v3 (G (j + 1)) W2) => (⟨hk.held (hs3.below hb) (HALL.out W hb).1 (by decide) (by decide), hk.held (hs3.below hb) (HALL.out W hb).2.1 (by decide) (by decide), hk.held (hs3.below hb) (HALL.out W hb).2.2 (by decide) (by decide)⟩ : Held W2 q 227 (WrSc g) ∧ Held W2 (q + 1) 261 (TabVc x) ∧ Held W2 q6 135 (argC a)))
     by_cases ht : a.t = 1
     ·have hy : foldI a.n = ((argN L a : Nat) : Int) := by
       obtain ⟨_, _, _, f1, f2⟩ := hfit
       have := foldI_range f1 f2
       rw [argN, if_pos ht]
       omega
      have HT := hid (fun W => tab1_any a.t a.n (.string (strOfNums a.s)) hfit.2.2.2.1 hfit.2.2.2.2 W)
      rw [hy] at HT
      generalize argN L a = y at HN HT hyl HGE hy
      have HS := hid (fun W (hb : Held W q 227 (WrSc g) ∧ Held W (q + 1) 261 (TabVc x) ∧ Held W q6 135 (argC a)) => (by
       have e0 := hb.1.cell 0
       have e1 := hb.2.1.cell 1
       obtain ⟨e2, e3, e4⟩ := cC3 hb.2.2
       simp at e0 e1 e2 e3 e4
       exact ⟨e0, e1, e2, e3, e4⟩ : W.cell? ⟨q, 0, none⟩ = some (.func (.func 163) #[] #[.pointer (some ⟨g, 0, none⟩)]) ∧ W.cell? ⟨q + 1, 1, none⟩ = some (.func (.func 193) #[] #[]) ∧ W.cell? ⟨q6, 0, none⟩ = some (.int .i64 a.t) ∧ W.cell? ⟨q6, 1, none⟩ = some (.int .i64 a.n) ∧ W.cell? ⟨q6, 2, none⟩ = some (.string (strOfNums a.s))))
      obtain ⟨at', hat⟩ : ∃ t, a.t = t := ⟨_, rfl⟩
      rw [hat] at HT HS ht u0
      simp only [argC, hat] at hw6
      subst ht
      clear ha ham hao hai hfit h6 hbx6 htb6 hx6 hd6 hs3 hbt3 hv3 b6 hy
      go_wp2_with fail
      go_region_held3 (fun W => W.cell? ⟨q, 0, none⟩ = some (.func (.func 163) #[] #[.pointer (some ⟨g, 0, none⟩)]) ∧ W.cell? ⟨q + 1, 1, none⟩ = some (.func (.func 193) #[] #[]) ∧ W.cell? ⟨q6, 0, none⟩ = some (.int .i64 1) ∧ W.cell? ⟨q6, 1, none⟩ = some (.int .i64 a.n) ∧ W.cell? ⟨q6, 2, none⟩ = some (.string (strOfNums a.s)))
       (first | exact HS.out _ (HALL2.out _ b7 _ hk8) | exact HS.out _ (HALL.out _ b7) | exact HS.out _ (HALL.out _ (Below.refl _ _).drew) | exact HS.out _ (HALL.out _ (Below.refl _ _)))
       (first
        | (go_at_call 193; (with_reducible refine (HT.out _).mono ?_); rintro e w7 ⟨rfl, hb7⟩; have b7 : Below w6.heap.size w6 w7 := (Below.refl _ _).drew.trans hb7)
        | (go_at_call 163; (with_reducible refine (HN.out _ b7).mono ?_); rintro e w8 ⟨rfl, hk8⟩))
      have HM8 := hid (LeftS.trans HB3.out HV3.out (LeftS.ahead b7 hk8))
      clear b7 hb7 hk8 HN HT
      go_wp2_with fail
      go_roundg (args.length - (j + 1))
      case measure => have := HGJ.out; omega
      case rel => exact ⟨j + 1, by omega, by go_num, hid rfl, HM8⟩
     ·have ht2 : a.t = 2 := hao.kind.resolve_left ht
      have hy : placeD L a.s = ((argN L a : Nat) : Int) := by
       rw [argN, if_neg ht]
       exact placeD_in (hai ht2)
      have HT := hid (fun W (hb : Below w6.heap.size w6 W) => tab2_any a.t a.n a.s hfit.2.1 W (hx6.below hb hx6.lt) (hd6.below hb) (argN L a) hy (by
       rcases placeD_ways L a.s with ⟨q1, _⟩ | ⟨i, q1, q2, _⟩
       ·omega
       ·omega))
      clear ht
      have ht := ht2
      clear ht2
      generalize argN L a = y at HN HT hyl HGE hy
      have HS := hid (fun W (hb : Held W q 227 (WrSc g) ∧ Held W (q + 1) 261 (TabVc x) ∧ Held W q6 135 (argC a)) => (by
       have e0 := hb.1.cell 0
       have e1 := hb.2.1.cell 2
       obtain ⟨e2, e3, e4⟩ := cC3 hb.2.2
       simp at e0 e1 e2 e3 e4
       exact ⟨e0, e1, e2, e3, e4⟩ : W.cell? ⟨q, 0, none⟩ = some (.func (.func 163) #[] #[.pointer (some ⟨g, 0, none⟩)]) ∧ W.cell? ⟨q + 1, 2, none⟩ = some (.func (.func 195) #[] #[.pointer (some ⟨x, 0, none⟩)]) ∧ W.cell? ⟨q6, 0, none⟩ = some (.int .i64 a.t) ∧ W.cell? ⟨q6, 1, none⟩ = some (.int .i64 a.n) ∧ W.cell? ⟨q6, 2, none⟩ = some (.string (strOfNums a.s))))
      obtain ⟨at', hat⟩ : ∃ t, a.t = t := ⟨_, rfl⟩
      rw [hat] at HT HS ht u0
      simp only [argC, hat] at hw6
      subst ht
      clear ha ham hao hai hfit h6 hbx6 htb6 hx6 hd6 hs3 hbt3 hv3 b6 hy
      go_wp2_with fail
      go_region_held3 (fun W => W.cell? ⟨q, 0, none⟩ = some (.func (.func 163) #[] #[.pointer (some ⟨g, 0, none⟩)]) ∧ W.cell? ⟨q + 1, 2, none⟩ = some (.func (.func 195) #[] #[.pointer (some ⟨x, 0, none⟩)]) ∧ W.cell? ⟨q6, 0, none⟩ = some (.int .i64 2) ∧ W.cell? ⟨q6, 1, none⟩ = some (.int .i64 a.n) ∧ W.cell? ⟨q6, 2, none⟩ = some (.string (strOfNums a.s)))
       (first | exact HS.out _ (HALL2.out _ b7 _ hk8) | exact HS.out _ (HALL.out _ b7) | exact HS.out _ (HALL.out _ (Below.refl _ _).drew) | exact HS.out _ (HALL.out _ (Below.refl _ _)))
       (first
        | (go_at_call 195; (with_reducible refine (HT.out _ (Below.refl _ _).drew).mono ?_); rintro e w7 ⟨rfl, hb7⟩; have b7 : Below w6.heap.size w6 w7 := (Below.refl _ _).drew.trans hb7)
        | (go_at_call 163; (with_reducible refine (HN.out _ b7).mono ?_); rintro e w8 ⟨rfl, hk8⟩))
      have HM8 := hid (LeftS.trans HB3.out HV3.out (LeftS.ahead b7 hk8))
      clear b7 hb7 hk8 HN HT
      go_wp2_with fail
      go_roundg (args.length - (j + 1))
      case measure => have := HGJ.out; omega
      case rel => exact ⟨j + 1, by omega, by go_num, hid rfl, HM8⟩
    ·obtain rfl : j = args.length := by omega
     have HM' := HM
     rw [HGn.out] at HM'
     go_wp2_with fail
     go_roundg (n - (k + 1))
     case measure => have := HGK.out; omega
     case rel => exact ⟨k + 1, by omega, by go_num, hid rfl, HM'⟩
  ·obtain rfl : k = n := by omega
   go_wp2_with fail
   go_end0
   exact ⟨rfl, LeftS.ahead HBA.out HL.out⟩
theorem pointsS {w : World} {base g : Nat} {v : Value} {zs : List Int} (h : SnkS w base g v zs) (A : Option Addr) (c : Nat) (l : List Pm) (hrow : TrRow w base (.slice A l.length c) l) (hok : BOk l) (h0 : 0 < l.length) (hl : zs.length + (payB l).length ≤ 10000000000) (hbs : base ≤ w.heap.size) :
  Calls Tryz.prog 140 #[WrS g, .slice A l.length c] w fun e w' => e = .returned (.tuple #[]) ∧ LeftS w base g v (zs ++ payB l) w' := by
 obtain ⟨-, hc1, hc2⟩ := hrow.1.len
 obtain ⟨L, hLe⟩ : ∃ L, addT [] l = L := ⟨_, rfl⟩
 obtain ⟨hL1, hL2⟩ := hok.dict
 rw [hLe] at hL1 hL2
 obtain ⟨p0, hp0⟩ : ∃ p, l[0]? = some p := ⟨_, List.getElem?_eq_getElem h0⟩
 obtain ⟨t0, ht0⟩ : ∃ t0 : Nat, p0.tm = (t0 : Int) := ⟨p0.tm.toNat, by have := (hok.pts p0 (List.mem_of_getElem? hp0)).fits.1; omega⟩
 have ht0l : t0 < 18446744073709551616 := by have := (hok.pts p0 (List.mem_of_getElem? hp0)).fits.2; omega
 have ht0e : (tmAt l 0).toNat = t0 := by rw [tmAt_of hp0, ht0]; rfl
 obtain ⟨F, hF⟩ : ∃ F : Nat → List Int, F = fun k => zs ++ encI t0 ++ encI l.length ++ dictB L ++ ptsB L l k := ⟨_, rfl⟩
 have hpay : zs ++ payB l = F l.length := by rw [hF]; simp only [payB, headB, hLe, ht0e, List.append_assoc]
 have hF0 : F 0 = zs ++ encI t0 ++ encI l.length ++ dictB L := by rw [hF]; simp [ptsB]
 have hFs : ∀ k, F (k + 1) = F k ++ ptB L l k := fun k => by rw [hF]; simp only; rw [ptsB_succ]; simp only [List.append_assoc]
 have hFl : ∀ k, k ≤ l.length → (F k).length ≤ 10000000000 := fun k hk => by
  have e1 : (F l.length).length ≤ 10000000000 := by rw [← hpay, List.length_append]; exact hl
  have mono : ∀ j, (F k).length ≤ (F (k + j)).length := fun j => by
   induction j with
   | zero => exact Nat.le_refl _
   | succ j ih => rw [← Nat.add_assoc, hFs, List.length_append]; omega
  have := mono (l.length - k)
  rw [show k + (l.length - k) = l.length by omega] at this
  omega
 rw [hpay]
 have hlz : (zs ++ encI t0 ++ encI l.length ++ dictB L).length ≤ 10000000000 := by rw [← hF0]; exact hFl 0 (Nat.zero_le _)
 obtain ⟨q, hq⟩ : ∃ q, w.heap.size = q := ⟨_, rfl⟩
 obtain ⟨w1, hw1⟩ : ∃ w1, w.alloc (.cells (WrSc g) 227) = w1 := ⟨_, rfl⟩
 have b1 : Below w.heap.size w w1 := by rw [← hw1]; exact (Below.refl _ _).alloc (Nat.le_refl _) _
 have s1 : w1.heap.size = q + 1 := by rw [← hw1, World.size_alloc, hq]
 have hb1 : Held w1 q 227 (WrSc g) := by rw [← hw1, ← hq]; exact heap_alloc_new w _
 have hof := dof_any A c l w1 ((hrow.below (b1.mono hbs)).more (by omega)) (by have := nT_le l hok.pts; have := hok.few; omega)
 rw [hLe] at hof
 have HOF := hid hof
 have HROW := hid hrow
 have HOK := hid hok
 have HH := hid h
 have HFS := hid hFs
 have HFL := hid hFl
 have HF0 := hid hF0
 have HLZ := hid hlz
 have HL2 := hid hL2
 have HLE := hid hLe
 have HB1 := hid b1
 have HBX := hid hb1
 have HP0 := hid hp0
 obtain ⟨n, hn⟩ : ∃ n, l.length = n := ⟨_, rfl⟩
 have HN := hid hn
 have HFEW := hid hok.few
 rw [hn] at HOF hc1 h0 HF0 HLZ ⊢
 clear hof hrow hok h hF hpay hF0 hFs hFl hlz hL2 hLe b1 hb1 hp0 hl hn
 go_enter Tryz.func140, Tryz.ntmps140
 go_wp2_with fail
 refine HOF.out.mono ?_
 rintro e w2 ⟨D, r, vd, rfl, hd2, hb2⟩
 have HD2 := hid hd2
 have HB2 := hid hb2
 have HTB := hid (table_any D w2)
 have s2 := hb2.size
 clear hd2 hb2 hw1 HOF
 go_wp2_with fail
 refine HTB.out.mono ?_
 rintro e w3 ⟨x, rfl, hx3, hxl, hb3⟩
 have s3 := hb3.size
 obtain ⟨N, hN⟩ : ∃ N, w3.heap.size = N := ⟨_, rfl⟩
 obtain ⟨w4, q0, q1, q2, ht4, hb4, s4⟩ := lay_table w3 N x hN
 have HD4 := hid ((HD2.out.below hb3).below (by rw [hN]; exact hb4))
 have HX4 := hid (hx3.below (B := N) hb4 (by rw [← hN]; exact hx3.lt))
 have HBA := hid (((HB1.out.trans (HB2.out.mono (by omega))).trans (hb3.mono (by omega))).trans (hb4.mono (by omega)))
 have HBX4 := hid (((HBX.out.below HB2.out (by omega)).below hb3 (by omega)).below hb4 (by omega))
 have HT4 := hid ht4
 have H4 := hid (HH.out.below HBA.out)
 have hbs4 : base ≤ w4.heap.size := by omega
 clear hx3 ht4 hb3 hb4 HTB HD2 HB2 HB1 HBX HH
 go_wp2_with fail
 clear q0 q1 q2
 have HTR := hid (fun W (hb : Below base w4 W) => (HROW.out.below (HBA.out.mono hbs)).below hb)
 obtain ⟨b, o, rfl, hb0, x0, -, -, -, -⟩ := (HTR.out _ (Below.refl _ _)).at HP0.out
 have HC0 := hid (fun W (hb : Below base w4 W) => (show W.cell? ⟨b, o, none⟩ = some (.int .u64 (t0 : Int)) by have := (hb.cell (p := ⟨b, o + 0 * 2, none⟩) hb0).trans x0; rw [ht0] at this; simpa using this))
 have HS0 := hid (fun W (h1 : Held W q 227 (WrSc g)) => (by
  obtain ⟨e0, e1⟩ := cC2 h1
  simp at e0 e1
  exact ⟨e0, e1⟩ : W.cell? ⟨q, 0, none⟩ = some (.func (.func 163) #[] #[.pointer (some ⟨g, 0, none⟩)]) ∧ W.cell? ⟨q, 1, none⟩ = some (.func (.func 164) #[] #[.pointer (some ⟨g, 0, none⟩)])))
 have HZ := hid (show zs.length ≤ 10000000000 by have := HLZ.out; simp only [List.length_append] at this; omega)
 have HZ1 := hid (show (zs ++ encI t0).length ≤ 10000000000 by have := HLZ.out; simp only [List.length_append] at this ⊢; omega)
 have HN3 := hid (fun W (hb : Below w4.heap.size w4 W) => sumn_any (H4.out.below hb) t0 ht0l HZ.out)
 have HALL := hid (fun W (hb : Below w4.heap.size w4 W) => (⟨(HS0.out W (HBX4.out.below hb HBX4.out.lt)).1, HC0.out W (hb.mono hbs4)⟩ : W.cell? ⟨q, 0, none⟩ = some (.func (.func 163) #[] #[.pointer (some ⟨g, 0, none⟩)]) ∧ W.cell? ⟨b, o, none⟩ = some (.int .u64 (t0 : Int))))
 have HALL2 := hid (fun W (hb : Below w4.heap.size w4 W) W2 (hk : LeftS W base g v (zs ++ encI t0) W2) => (⟨(HS0.out W2 (hk.held (H4.out.below hb) (HBX4.out.below hb HBX4.out.lt) (by decide) (by decide))).1, HC0.out W2 ((LeftS.ahead hb hk).low H4.out hbs4)⟩ : W2.cell? ⟨q, 0, none⟩ = some (.func (.func 163) #[] #[.pointer (some ⟨g, 0, none⟩)]) ∧ W2.cell? ⟨b, o, none⟩ = some (.int .u64 (t0 : Int))))
 clear x0 ht0 HROW
 have hc1' : 0 < n ∧ n ≤ c := ⟨h0, hc1⟩
 go_region_held3 (fun W => W.cell? ⟨q, 0, none⟩ = some (.func (.func 163) #[] #[.pointer (some ⟨g, 0, none⟩)]) ∧ W.cell? ⟨b, o, none⟩ = some (.int .u64 (t0 : Int)))
  (first | exact HALL2.out _ ((Below.refl _ _).drew) _ hk5 | exact HALL.out _ (Below.refl _ _).drew | exact HALL.out _ (Below.refl _ _))
  (first | (go_at_call 163; (with_reducible refine (HN3.out _ (Below.refl _ _).drew).mono ?_); rintro e w5 ⟨rfl, hk5⟩))
 have hl5 := LeftS.ahead (Below.refl _ _).drew hk5
 have x0 := (HS0.out _ (hl5.held H4.out HBX4.out (by decide) (by decide))).1
 have x1 := (HS0.out _ (hl5.held H4.out HBX4.out (by decide) (by decide))).2
 have hs5 := hl5.size
 obtain ⟨v5, hs5', hbt5, hv5⟩ := hl5
 have HC5 := hid (countS hs5' n (by omega) HZ1.out (by omega))
 have HB5 := hid hbt5
 have HV5 := hid hv5
 clear hk5 hs5' hbt5 hv5 HN3 HALL HALL2
 go_wp2_with fail
 refine HC5.out.mono ?_
 rintro e w6 ⟨rfl, hk6⟩
 have hl6 := LeftS.trans HB5.out HV5.out hk6
 have HS6 := hid (fun W (hb : Below w6.heap.size w6 W) => HS0.out _ ((hl6.held H4.out HBX4.out (by decide) (by decide)).below hb (hl6.held H4.out HBX4.out (by decide) (by decide)).lt))
 have hd6 := hl6.dict H4.out HD4.out
 have hs6 := hl6.size
 have hbx6 := hl6.held H4.out HBX4.out (by decide) (by decide)
 obtain ⟨v6, hs6', hbt6, hv6⟩ := hl6
 have HA6 := hid (fun W (hb : Below w6.heap.size w6 W) => dall_any (hd6.below hb) (by omega))
 have HD6 := hid (fun W (hb : Below w6.heap.size w6 W) (A : Option Addr) (c : Nat) (ho : W.ownsRow w6.heap.size 9 1 (.slice A L.length c) L.length (strVs L)) => dictS (hs6'.below hb) A c L ho HL2.out (by have := HLZ.out; rw [List.length_append] at this; exact this) (by have := hb.size; omega))
 have HSK := hid (fun W (hb : Below w6.heap.size w6 W) W2 (hk : LeftS W base g v6 (zs ++ encI t0 ++ encI n ++ dictB L) W2) => HS0.out W2 (hk.held (hs6'.below hb) (hbx6.below hb hbx6.lt) (by decide) (by decide)))
 have HB6 := hid hbt6
 have HV6 := hid hv6
 clear hk6 hs6' hbt6 hv6 hd6 x0 x1 HC5 HB5 HV5
 go_wp2_with fail
 go_region_held3 (fun W => W.cell? ⟨q, 0, none⟩ = some (.func (.func 163) #[] #[.pointer (some ⟨g, 0, none⟩)]) ∧ W.cell? ⟨q, 1, none⟩ = some (.func (.func 164) #[] #[.pointer (some ⟨g, 0, none⟩)]))
  (first | exact HSK.out _ b7 _ hk8 | exact HS6.out _ b7 | exact HS6.out _ (Below.refl _ _).drew | exact HS6.out _ (Below.refl _ _))
  (first
   | (go_at_call 170; (with_reducible refine (HA6.out _ (Below.refl _ _).drew).mono ?_); rintro e w7 ⟨A7, c7, rfl, ho7', hb7⟩; have ho7 : w7.ownsRow w6.heap.size 9 1 (.slice A7 L.length c7) L.length (strVs L) := ho7'; have b7 : Below w6.heap.size w6 w7 := (Below.refl _ _).drew.trans hb7)
   | (go_at_call 169; (with_reducible refine (HD6.out _ b7 A7 c7 ho7).mono ?_); rintro e w8 ⟨rfl, hk8⟩))
 have hl8 := LeftS.trans HB6.out HV6.out (LeftS.ahead b7 hk8)
 rw [← HF0.out] at hl8
 have HL8 := hid hl8
 clear hk8 b7 ho7 ho7' hb7 hl8 HA6 HD6 HSK HS6 HB6 HV6
 go_wp2_with fail
 go_loopg [29] n (fun gk i wr => ∃ (k : Nat), k ≤ n ∧ i = .int .i64 k ∧ Hid (n - k = gk) ∧ Hid (LeftS w4 base g v (F k) wr))
 case atStart => exact ⟨0, Nat.zero_le _, rfl, hid rfl, HL8⟩
 case round =>
  obtain ⟨k, hk, rfl, HGK, HL⟩ := hrel
  by_cases hlt : k < n
  ·obtain ⟨d, hd⟩ : ∃ d, l[k]? = some d := ⟨_, List.getElem?_eq_getElem (by have := HN.out; omega)⟩
   have hdm := List.mem_of_getElem? hd
   have HPO := hid (HOK.out.pts d hdm)
   have hlow := HL.out.low H4.out hbs4
   obtain ⟨_, _, e9, _, u0, u1, hokd, hl1, hl2⟩ := (HTR.out _ hlow).at hd
   injection e9 with e9
   injection e9 with e9a e9b
   subst e9a e9b
   have HGR := hid (fun W (hb : Below base w4 W) => (((HTR.out _ hb).2 d hdm).1))
   have HFE := hid (show F (k + 1) = F k ++ ptB L l k from HFS.out k)
   have HEV := hid (show evsAt l k = d.evs from evsAt_of hd)
   have HIN := hid (show ∀ e ∈ d.evs, ∀ a ∈ e.args, a.t = 2 → a.s ∈ L from fun e he a ha ht => by rw [← HLE.out]; exact addT_has l [] d hdm e he a ha ht)
   have hfl := HFL.out (k + 1) (by have := HN.out; omega)
   obtain ⟨q7, hq7⟩ : ∃ q7, wr.heap.size = q7 := ⟨_, rfl⟩
   obtain ⟨w7, hw7⟩ : ∃ w7, wr.alloc (.cells #[.int .u64 d.tm, .slice d.A d.evs.length d.c] 55) = w7 := ⟨_, rfl⟩
   have b7 : Below wr.heap.size wr w7 := by rw [← hw7]; exact (Below.refl _ _).alloc (Nat.le_refl _) _
   have h7 : Held w7 q7 55 #[.int .u64 d.tm, .slice d.A d.evs.length d.c] := by rw [← hw7, ← hq7]; exact heap_alloc_new wr _
   have HL7 := hid (HL.out.behind b7)
   have H7 := hid h7
   obtain ⟨dA, hdA⟩ : ∃ dA, d.A = dA := ⟨_, rfl⟩
   rw [hdA] at u1 hw7 H7 HGR
   have hfew := HPO.out.few
   cases k with
   | zero =>
    simp only [Nat.zero_mul, Nat.add_zero] at u0 u1
    have HF1 := hid (show F (0 + 1) = F 0 ++ evsB L d.evs by rw [HFE.out, ptB, HEV.out]; simp)
    clear hd hdm hokd h7 b7 hlow hdA
    obtain ⟨v8, hs8, hbt8, hv8⟩ := HL7.out
    have HE8 := hid (eventsS hs8 dA d.c d.evs (HGR.out _ (HL7.out.low H4.out hbs4)) HPO.out.evs HPO.out.few (HL7.out.held H4.out HX4.out (by decide) (by decide)) (HL7.out.dict H4.out HD4.out) (by omega) HIN.out (by rw [← List.length_append, ← HF1.out]; exact hfl) (Nat.le_trans hbs4 HL7.out.size))
    rw [← HF1.out] at HE8
    have y1 := H7.out.cell 1
    have z0 := (HS0.out _ (HL7.out.held H4.out HBX4.out (by decide) (by decide))).1
    have z1 := (HS0.out _ (HL7.out.held H4.out HBX4.out (by decide) (by decide))).2
    obtain ⟨t0', t1', t2'⟩ := cC3 (HL7.out.held H4.out HT4.out (by decide) (by decide))
    simp at y1 t0' t1' t2'
    have HB8 := hid hbt8
    have HV8 := hid hv8
    clear hs8 hbt8 hv8
    go_wp2_with fail
    refine HE8.out.mono ?_
    rintro e w8e ⟨rfl, hk8⟩
    have HL8e := hid (LeftS.trans HB8.out HV8.out hk8)
    clear hk8 y1 z0 z1 t0' t1' t2' HE8 HB8 HV8
    go_wp2_with fail
    go_roundg (n - (0 + 1))
    case measure => have := HGK.out; omega
    case rel => exact ⟨0 + 1, by omega, by go_num, hid rfl, HL8e⟩
   | succ m =>
    obtain ⟨d0, hd0⟩ : ∃ d, l[m]? = some d := ⟨_, List.getElem?_eq_getElem (by have := HN.out; omega)⟩
    have hord : d0.tm ≤ d.tm := HOK.out.ord m d0 d hd0 hd
    have hf0 := (HOK.out.pts d0 (List.mem_of_getElem? hd0)).fits
    have hfd := HPO.out.fits
    unfold Pm.Fits at hf0 hfd
    obtain ⟨y, hy⟩ : ∃ y : Nat, d.tm - d0.tm = (y : Int) := ⟨(d.tm - d0.tm).toNat, by omega⟩
    have hyl : y < 18446744073709551616 := by omega
    have HF1 := hid (show F (m + 1 + 1) = F (m + 1) ++ encI y ++ evsB L d.evs by
     have hst : stepN l (m + 1) = y := by
      unfold stepN
      rw [tmAt_of hd, show m + 1 - 1 = m from rfl, tmAt_of hd0, hy]
      rfl
     rw [HFE.out, ptB, HEV.out, if_pos (Nat.succ_pos m), hst, List.append_assoc])
    have HC9 := hid (fun W (hb : Below base w4 W) => (show W.cell? ⟨b, o + m * 2, none⟩ = some (.int .u64 d0.tm) from by
     obtain ⟨_, _, e9, _, z, _⟩ := (HTR.out _ hb).at hd0
     injection e9 with e9
     injection e9 with e9a e9b
     subst e9a e9b
     exact z))
    have hw9 : IntKind.u64.wrap (d.tm - d0.tm) = (y : Int) := by rw [hy]; exact IntWalk.u64_in _ (by omega)
    have hm9 : IntKind.i64.wrap (m : Int) = (m : Int) := IntWalk.i64_in _ (by omega)
    have hm1 : (0 : Int) ≤ (m : Int) := by omega
    have hm2 : (m : Int) < (n : Int) := by omega
    have hm3 : ¬ (m : Int) < 0 := by omega
    have hm4 : ¬ (n : Int) ≤ (m : Int) := by omega
    have hm5 : m < n := by omega
    obtain ⟨v8, hs8, hbt8, hv8⟩ := HL7.out
    have HN9 := hid (fun W (hb : Below w7.heap.size w7 W) => sumn_any (hs8.below hb) y hyl (HFL.out (m + 1) (by have := HN.out; omega)))
    have HQ7 := hid (HL7.out.held H4.out HBX4.out (by decide) (by decide))
    have HALL := hid (fun W (hb : Below w7.heap.size w7 W) => (⟨(HS0.out W (HQ7.out.below hb HQ7.out.lt)).1, by have := (H7.out.below hb H7.out.lt).cell 0; simpa using this, HC9.out W ((HL7.out.low H4.out hbs4).trans (hb.mono (Nat.le_trans hbs4 HL7.out.size)))⟩ : W.cell? ⟨q, 0, none⟩ = some (.func (.func 163) #[] #[.pointer (some ⟨g, 0, none⟩)]) ∧ W.cell? ⟨q7, 0, none⟩ = some (.int .u64 d.tm) ∧ W.cell? ⟨b, o + m * 2, none⟩ = some (.int .u64 d0.tm)))
    have HK7 := hid (fun W (hb : Below w7.heap.size w7 W) W2 (hk : LeftS W base g v8 (F (m + 1) ++ encI y) W2) => hk.held (hs8.below hb) (H7.out.below hb H7.out.lt) (by decide) (by decide))
    have HALL2 := hid (fun W (hb : Below w7.heap.size w7 W) W2 (hk : LeftS W base g v8 (F (m + 1) ++ encI y) W2) => (⟨(HS0.out W2 (hk.held (hs8.below hb) (HQ7.out.below hb HQ7.out.lt) (by decide) (by decide))).1, by have := (HK7.out W hb W2 hk).cell 0; simpa using this, HC9.out W2 ((LeftS.trans hbt8 hv8 (LeftS.ahead hb hk)).low H4.out hbs4)⟩ : W2.cell? ⟨q, 0, none⟩ = some (.func (.func 163) #[] #[.pointer (some ⟨g, 0, none⟩)]) ∧ W2.cell? ⟨q7, 0, none⟩ = some (.int .u64 d.tm) ∧ W2.cell? ⟨b, o + m * 2, none⟩ = some (.int .u64 d0.tm)))
    have HB8 := hid hbt8
    have HV8 := hid hv8
    clear hd hdm hokd h7 b7 hlow hdA hd0 hf0 hfd hs8 hbt8 hv8 hy
    go_wp2_with fail
    go_region_held3 (fun W => W.cell? ⟨q, 0, none⟩ = some (.func (.func 163) #[] #[.pointer (some ⟨g, 0, none⟩)]) ∧ W.cell? ⟨q7, 0, none⟩ = some (.int .u64 d.tm) ∧ W.cell? ⟨b, o + m * 2, none⟩ = some (.int .u64 d0.tm))
     (first | exact HALL2.out _ ((Below.refl _ _).drew) _ hk9 | exact HALL.out _ (Below.refl _ _).drew | exact HALL.out _ (Below.refl _ _))
     (first | (go_at_call 163; (with_reducible refine (HN9.out _ (Below.refl _ _).drew).mono ?_); rintro e w9 ⟨rfl, hk9⟩))
    have HL9 := hid (LeftS.trans HB8.out HV8.out (LeftS.ahead (Below.refl _ _).drew hk9))
    have H9 := hid (HK7.out _ (Below.refl _ _).drew _ hk9)
    clear hk9 HN9 HALL HALL2 HK7 HQ7 HB8 HV8 hw9 hm9 u0 u1
    obtain ⟨v9, hs9, hbt9, hv9⟩ := HL9.out
    have HE9 := hid (eventsS hs9 dA d.c d.evs (HGR.out _ (HL9.out.low H4.out hbs4)) HPO.out.evs HPO.out.few (HL9.out.held H4.out HX4.out (by decide) (by decide)) (HL9.out.dict H4.out HD4.out) (by omega) HIN.out (by rw [← List.length_append, ← HF1.out]; exact hfl) (Nat.le_trans hbs4 HL9.out.size))
    rw [← HF1.out] at HE9
    have y1 := H9.out.cell 1
    have z0 := (HS0.out _ (HL9.out.held H4.out HBX4.out (by decide) (by decide))).1
    have z1 := (HS0.out _ (HL9.out.held H4.out HBX4.out (by decide) (by decide))).2
    obtain ⟨t0', t1', t2'⟩ := cC3 (HL9.out.held H4.out HT4.out (by decide) (by decide))
    simp at y1 t0' t1' t2'
    have HB9 := hid hbt9
    have HV9 := hid hv9
    clear hs9 hbt9 hv9
    go_wp2_with fail
    refine HE9.out.mono ?_
    rintro e w9e ⟨rfl, hk9⟩
    have HL9e := hid (LeftS.trans HB9.out HV9.out hk9)
    clear hk9 y1 z0 z1 t0' t1' t2' HE9 HB9 HV9
    go_wp2_with fail
    go_roundg (n - (m + 1 + 1))
    case measure => have := HGK.out; omega
    case rel => exact ⟨m + 1 + 1, by omega, by go_num, hid rfl, HL9e⟩
  ·obtain rfl : k = n := by omega
   go_wp2_with fail
   go_end0
   exact ⟨rfl, LeftS.ahead HBA.out HL.out⟩
section
variable (A : Option Addr) (c : Nat) (ds : List Pd) (T : Option Addr) (ct : Nat) (ps : List Pm) (w : World)
theorem bcheck_any (hrow : PredRow w w.heap.size (.slice A ds.length c) ds) (ht : TrRow w w.heap.size (.slice T ps.length ct) ps) :
  Calls Tryz.prog 162 #[.slice A ds.length c, .slice T ps.length ct] w fun e w' => e = .returned (.int .i64 (checkB (ds.map (·.p)) ps)) ∧ Below w.heap.size w w' := by
 obtain ⟨-, hc1, hc2⟩ := ht.1.len
 have HCK := hid (tcheck_any A c ds T ct ps w hrow ht)
 clear hrow ht
 unfold checkB
 by_cases h0 : ps.length = 0
 ·rw [if_pos h0]
  rw [h0] at HCK hc1 ⊢
  clear h0
  go_enter Tryz.func162, Tryz.ntmps162
  go_wp2_with fail
  go_ret
  exact ⟨rfl, Below.refl _ _⟩
 ·rw [if_neg h0]
  have hn0 : ¬ (ps.length : Int) = 0 := by omega
  have hne0 : ((ps.length : Int) == 0) = false := beq_eq_false_iff_ne.2 hn0
  generalize checkT (ds.map (·.p)) (ps.map (·.p)) = C at HCK ⊢
  obtain ⟨n, hn⟩ : ∃ n, ps.length = n := ⟨_, rfl⟩
  rw [hn] at HCK hc1 h0 hn0 hne0 ⊢
  clear hn
  by_cases h1 : C.1 = 0
  ·rw [if_neg (fun h => h h1)]
   rw [h1] at HCK
   by_cases h2 : 1024 < n
   ·rw [if_pos h2]
    have h2' : (1024 : Int) < (n : Int) := by omega
    go_enter Tryz.func162, Tryz.ntmps162
    go_wp2_with fail
    refine HCK.out.mono ?_
    rintro e w1 ⟨rfl, hb1⟩
    go_wp2_with fail
    go_ret
    exact ⟨rfl, hb1⟩
   ·rw [if_neg h2]
    have h2' : ¬ (1024 : Int) < (n : Int) := by omega
    have h2'' : (n : Int) ≤ 1024 := by omega
    go_enter Tryz.func162, Tryz.ntmps162
    go_wp2_with fail
    refine HCK.out.mono ?_
    rintro e w1 ⟨rfl, hb1⟩
    go_wp2_with fail
    go_ret
    exact ⟨rfl, hb1⟩
  ·rw [if_pos h1]
   have hne : (C.1 != 0) = true := bne_iff_ne.2 h1
   go_enter Tryz.func162, Tryz.ntmps162
   go_wp2_with fail
   refine HCK.out.mono ?_
   rintro e w1 ⟨rfl, hb1⟩
   go_wp2_with fail
   go_ret
   exact ⟨rfl, hb1⟩
theorem bsize_any (hrow : PredRow w w.heap.size (.slice A ds.length c) ds) (ht : TrRow w w.heap.size (.slice T ps.length ct) ps) :
  Calls Tryz.prog 135 #[.slice A ds.length c, .slice T ps.length ct] w fun e w' => e = .returned (.tuple #[.int .i64 ((wholeB (ds.map (·.p)) ps).1.length : Nat), .int .i64 (wholeB (ds.map (·.p)) ps).2]) ∧ Below w.heap.size w w' := by
 have HCK := hid (bcheck_any A c ds T ct ps w hrow ht)
 unfold wholeB
 by_cases h0 : checkB (ds.map (·.p)) ps = 0
 ·rw [if_pos h0]
  have hbo := ht.bok h0
  have hpl := payB_len hbo
  have hp0 := (checkB_zero h0).1
  rw [h0] at HCK
  obtain ⟨B, hB⟩ : ∃ B, w.heap.size = B := ⟨_, rfl⟩
  rw [hB] at HCK ht ⊢
  have HT := hid ht
  have HBO := hid hbo
  clear hrow ht hbo h0
  go_enter Tryz.func135, Tryz.ntmps135
  go_wp2_with fail
  refine HCK.out.mono ?_
  rintro e w1 ⟨rfl, hb1⟩
  have z1 := hb1.size
  rw [hB] at z1
  obtain ⟨N, hN⟩ : ∃ N, w1.heap.size = N := ⟨_, rfl⟩
  obtain ⟨w2, hw2⟩ : ∃ w2, w1.alloc (.cells #[.int .i64 0] 3) = w2 := ⟨_, rfl⟩
  have b2 : Below w1.heap.size w1 w2 := by rw [← hw2]; exact (Below.refl _ _).alloc (Nat.le_refl _) _
  have s2 : w2.heap.size = N + 1 := by rw [← hw2, World.size_alloc, hN]
  have h2 : Held w2 N 3 #[.int .i64 0] := by rw [← hw2, ← hN]; exact heap_alloc_new w1 _
  obtain ⟨w3, q0, q1, h3, b3, s3⟩ := lay_writer w2 (N + 1) (.func (.func 163) #[] #[.pointer (some ⟨N, 0, none⟩)]) (.func (.func 164) #[] #[.pointer (some ⟨N, 0, none⟩)]) rfl rfl s2
  have hs3 : SnkS w3 B N (.slice none 0 0) [] := ⟨by simpa using h2.below b3 (Nat.lt_succ_self N), by omega, own_nil _ _ _⟩
  have hB3 : Below B w w3 := (hb1.trans (b2.mono (by omega))).trans (b3.mono (by omega))
  have HP := pointsS hs3 T ct ps (HT.out.below hB3) HBO.out hp0 (by simp; omega) (by omega)
  rw [List.nil_append] at HP
  have HP := hid HP
  have HB3 := hid hB3
  have HS3 := hid hs3
  obtain ⟨x0, x1⟩ := cC2 h3
  simp at x0 x1
  clear h2 h3 b2 b3 hs3 hB3 hb1 HT HBO
  subst hw2
  go_wp2_with fail
  refine HP.out.mono ?_
  rintro e w4 ⟨rfl, hk4⟩
  have hB4 := HB3.out.trans (hk4.low HS3.out (by omega))
  obtain ⟨v4, hs4, _, _⟩ := hk4
  have y0 := hs4.held.cell 0
  simp at y0
  clear x0 x1 q0 q1
  go_wp2_with fail
  go_ret2
  exact ⟨rfl, hB4⟩
 ·rw [if_neg h0]
  have hne : (checkB (ds.map (·.p)) ps != 0) = true := bne_iff_ne.2 h0
  generalize checkB (ds.map (·.p)) ps = C at HCK hne ⊢
  clear hrow ht h0
  go_enter Tryz.func135, Tryz.ntmps135
  go_wp2_with fail
  refine HCK.out.mono ?_
  rintro e w1 ⟨rfl, hb1⟩
  go_wp2_with fail
  go_ret2
  exact ⟨rfl, hb1⟩
def BGot (w : World) (r : List Int × Int) (e : Ending) (W' : World) : Prop :=
 ∃ A c, e = .returned (.tuple #[.slice A r.1.length c, .int .i64 r.2]) ∧ W'.ownsRow w.heap.size 5 1 (.slice A r.1.length c) r.1.length (r.1.map (.int .u8)) ∧ Below w.heap.size w W'
theorem blput_any (hrow : PredRow w w.heap.size (.slice A ds.length c) ds) (ht : TrRow w w.heap.size (.slice T ps.length ct) ps) :
  Calls Tryz.prog 100 #[.slice A ds.length c, .slice T ps.length ct] w (BGot w (putB (ds.map (·.p)) ps)) := by
 have HSZ := bsize_any A c ds T ct ps w hrow ht
 unfold wholeB at HSZ
 unfold putB
 by_cases h0 : checkB (ds.map (·.p)) ps = 0
 ·rw [if_pos h0] at HSZ ⊢
  have hbo := ht.bok h0
  have hpl := payB_len hbo
  have hp0 := (checkB_zero h0).1
  have HSZ := hid HSZ
  by_cases h1 : 4096 < (payB ps).length
  ·rw [if_pos h1]
   have h1' : (4096 : Int) < ((payB ps).length : Nat) := by omega
   generalize payB ps = P at HSZ h1 h1' hpl
   clear hrow ht hbo h0
   go_enter Tryz.func100, Tryz.ntmps100
   go_wp2_with fail
   refine HSZ.out.mono ?_
   rintro e w1 ⟨rfl, hb1⟩
   go_wp2_with fail
   go_ret2
   exact ⟨none, 0, rfl, World.ownsRow_nil _ _ _ _, hb1⟩
  ·rw [if_neg h1]
   have h1' : ¬ (4096 : Int) < ((payB ps).length : Nat) := by omega
   obtain ⟨i0, hi, hz0, hz1, hz2⟩ := info_parts Tryz.infoU8
   obtain ⟨B, hB⟩ : ∃ B, w.heap.size = B := ⟨_, rfl⟩
   unfold BGot
   rw [hB] at HSZ ht ⊢
   have HT := hid ht
   have HBO := hid hbo
   obtain ⟨n, hn⟩ : ∃ n, (payB ps).length = n := ⟨_, rfl⟩
   rw [hn] at HSZ h1 h1' hpl
   have HN := hid hn
   have HPT := hid (fun (w3 : World) (g : Nat) (v : Value) (hs3 : SnkP w3 B g v []) (hB3 : Below B w w3) (hbs : B ≤ w3.heap.size) => pointsP hs3 T ct ps (HT.out.below hB3) HBO.out hp0 (by rw [HN.out]; simp; omega) hbs)
   clear hrow ht hbo h0 hn
   go_enter Tryz.func100, Tryz.ntmps100
   go_wp2_with fail
   refine HSZ.out.mono ?_
   rintro e w1 ⟨rfl, hb1⟩
   have z1 := hb1.size
   rw [hB] at z1
   obtain ⟨M, hM⟩ : ∃ M, w1.heap.size = M := ⟨_, rfl⟩
   go_wp2_with (at_make; refine wpList_make_own _ rfl _ _ 22 rfl B 5 i0 (.int .u8 0) 1 Tryz.underlying22 hi hz0 hz1 .i64 .i64 _ n rfl rfl (by simp) (by rw [hz2]; omega) (by simp only [maxLen]; omega) (by omega) ?_; intro w2 hown2 hg2; obtain ⟨N, hN⟩ : ∃ N, w2.heap.size = N := ⟨_, rfl⟩; obtain ⟨w3, hw3⟩ : ∃ w3, w2.alloc (.cells #[.slice (some ⟨M, 0, none⟩) 0 n] 22) = w3 := ⟨_, rfl⟩; have s3 : w3.heap.size = N + 1 := (by rw [← hw3, World.size_alloc, hN]); obtain ⟨w4, q0, q1, h4, b4, s4⟩ := lay_writer w3 (N + 1) (.func (.func 136) #[] #[.pointer (some ⟨N, 0, none⟩)]) (.func (.func 138) #[] #[.pointer (some ⟨N, 0, none⟩)]) rfl rfl s3; have x0 := h4.cell 0; have x1 := h4.cell 1; simp at x0 x1)
   have z2 := hg2.size
   have b3 : Below w2.heap.size w2 w3 := by rw [← hw3]; exact (Below.refl _ _).alloc (Nat.le_refl _) _
   have h3 : Held w3 N 22 #[.slice (some ⟨M, 0, none⟩) 0 n] := by rw [← hw3, ← hN]; exact heap_alloc_new w2 _
   rw [hM] at hown2
   have b2 : Below B w w2 := hb1.grown hg2 (by omega) (fun j e => by cases e)
   have hB4 : Below B w w4 := (b2.trans (b3.mono (by omega))).trans (b4.mono (by omega))
   have hs4 : SnkP w4 B N (.slice (some ⟨M, 0, none⟩) 0 n) [] := ⟨h3.below b4 (Nat.lt_succ_self N), by omega, by
    have := own_below (own_below hown2 b3) (by rw [s3]; exact b4)
    simpa using this⟩
   have HP := HPT.out w4 N _ hs4 hB4 (by omega)
   rw [List.nil_append] at HP
   have HP := hid HP
   have HB4 := hid hB4
   have HS4 := hid hs4
   clear h3 h4 b2 b3 b4 hs4 hB4 hb1 HT HBO HPT hown2 hg2 q0 q1 hw3
   refine HP.out.mono ?_
   rintro e w5 ⟨rfl, hk5⟩
   have hB5 := HB4.out.trans (hk5.low HS4.out (by omega))
   obtain ⟨v5, hs5, _, _⟩ := hk5
   have y0 := hs5.held.cell 0
   simp at y0
   obtain ⟨A5, c5, rfl⟩ := own_form hs5.own
   have HO5 := hid hs5.own
   clear hs5 x0 x1
   go_wp2_with fail
   go_ret2
   exact ⟨A5, c5, rfl, HO5.out, hB5⟩
 ·rw [if_neg h0] at HSZ ⊢
  have hne : (checkB (ds.map (·.p)) ps != 0) = true := bne_iff_ne.2 h0
  generalize checkB (ds.map (·.p)) ps = C at HSZ hne ⊢
  have HSZ := hid HSZ
  clear hrow ht h0
  go_enter Tryz.func100, Tryz.ntmps100
  go_wp2_with fail
  refine HSZ.out.mono ?_
  rintro e w1 ⟨rfl, hb1⟩
  go_wp2_with fail
  go_ret2
  exact ⟨none, 0, rfl, World.ownsRow_nil _ _ _ _, hb1⟩
end
end Go.Proofs.YtnlfcmbpocdpjaaGreat
