/-
  What the theorem of TopAny rests on, part 11 of 16.
-/
import Derived.LoopTactic
import Derived.Deep.LoopGhost
import Derived.ChangeKeysEq
import Derived.Stop.BytesEq
import Derived.Lib.SlBytesConst
import Derived.Lib.SmallJoins
import Derived.Deep.RegionHeld3
import Derived.Test.YtnlfcmbpocdpjaaGreatTopAnyZ10
set_option maxRecDepth 100000
set_option maxHeartbeats 16000000
namespace Go.Proofs.YtnlfcmbpocdpjaaGreat
open Lib (hid)
open Go.RowKit Go.ChangeShapes Go.WideShapes
set_option linter.unusedVariables false
theorem takeS_skip {g : Gp} {s : Sj} (hf : s.isf = false) : takeS g s = ⟨g.sig, g.isg, g.pts, g.sk + s.n, g.fr, g.rej⟩ := by unfold takeS; rw [if_pos hf]
theorem takeS_cnt {g : Gp} {s : Sj} (hf : s.isf = true) : takeS g s = cntG (frameG g s.kind s.pay).1 s.frm (frameG g s.kind s.pay).2 := by
 obtain ⟨c1, c2, c3⟩ := frameG_counts g s.kind s.pay
 unfold takeS cntG
 rw [if_neg (by rw [hf]; decide)]
 by_cases he : (frameG g s.kind s.pay).2 ≠ 0
 ·rw [if_pos he, if_pos he, frameG_kept he]
 ·rw [if_neg he, if_neg he, c1, c2, c3]
theorem frameG_other {g : Gp} {k : Int} {p : List Int} (h1 : k ≠ 1) (h2 : k ≠ 2) : frameG g k p = (g, 4) := by unfold frameG; rw [if_neg h1, if_pos h2]
theorem TkR.part {S : Nat → Prop} {w w' : World} {n t : Nat} {g : Gp} (h : TkR S w n t g w') : PartN S w w' := by
 obtain ⟨SA, Sc, es, PA, Pc, ps, RA, Rc, h1, h2, h3⟩ := h
 exact h2
theorem refuse_got {w : World} {n t : Nat} {g : Gp} {SA : Option Addr} {Sc : Nat} {es : List Pd} {PA : Option Addr} {Pc : Nat} {ps : List Pm} {RA : Option Addr} {Rc : Nat} (h : TAt w n t g SA Sc es PA Pc ps RA Rc) {k : Int} {p : List Int} (h1 : k ≠ 1) (h2 : k ≠ 2) (v : Value) :
  Calls Tryz.prog 37 #[v] w (TkGot w n t PA RA (frameG g k p)) := by
 rw [frameG_other h1 h2]
 refine (refuse_any w v).mono ?_
 rintro e w' ⟨rfl, rfl⟩
 exact ⟨rfl, h.left (Below.refl _ _)⟩
def TkLoop (S : Nat → Prop) (w : World) (n t m : Nat) (g : Gp) (l : List Sj) (gk : Nat) (iv : Value) (wr : World) : Prop :=
 ∃ k : Nat, iv = .int .i64 k ∧ k ≤ m ∧ Hid (m - k = gk) ∧ Hid (TkR S w n t (takeL g (l.take k)) wr)
theorem TkLoop.next {S S2 : Nat → Prop} {w wr w6 : World} {n t m k : Nat} {g g6 : Gp} {l : List Sj} (hp : PartN S w wr) (hs : ∀ j, S2 j → S j ∨ w.heap.size ≤ j) (h : TkR S2 wr n t g6 w6) (hg : takeL g (l.take (k + 1)) = g6) (hk : k < m) (h64 : m ≤ 1000000) :
  TkLoop S w n t m g l (m - (k + 1)) (.int .i64 ((k : Int) + 1)) w6 :=
 ⟨k + 1, by go_num, hk, hid rfl, hid (by rw [hg]; exact TkR.then hp hs h)⟩
section
variable {w : World} {n t : Nat} {g : Gp} {SA : Option Addr} {Sc : Nat} {es : List Pd} {PA : Option Addr} {Pc : Nat} {ps : List Pm} {RA : Option Addr} {Rc : Nat}
theorem rtake_any (h : TAt w n t g SA Sc es PA Pc ps RA Rc) (hig : Ig g) (hbd : Bd 0 g) (TA : Option Addr) (Tc : Nat) (ls : List Jm) (hJ : ∀ W', PartN (TS t PA RA) w W' → JRow W' W'.heap.size (.slice TA ls.length Tc) ls) (hls : ls.length ≤ 100000) :
  Calls Tryz.prog 16 #[.pointer (some ⟨t, 0, none⟩), .slice TA ls.length Tc] w fun e w' => e = .returned (.tuple #[]) ∧ TLeft w n t PA RA (takeL g (ls.map (·.s))) w' := by
 have hrow := hJ w (PartN.refl _ _)
 obtain ⟨-, hc1, hc2⟩ := hrow.1.len
 have HBD := hid (hbd.take (l := ls.map (·.s)) (fun s hs => by obtain ⟨x, hx, rfl⟩ := List.mem_map.1 hs; exact (hrow.2 x hx).2.2.2))
 have HIG := hid (fun k => hig.take (l := (ls.map (·.s)).take k) (fun s hs => by obtain ⟨x, hx, rfl⟩ := List.mem_map.1 (List.mem_of_mem_take hs); exact (hrow.2 x hx).2.1))
 have HK := hid (kinds_any w t)
 have HT := hid h
 have HJ := hid hJ
 obtain ⟨m, hm⟩ : ∃ m, ls.length = m := ⟨_, rfl⟩
 rw [hm] at hc1 hls HJ ⊢
 have HLN := hid hm
 have HNM := hid (show (ls.map (·.s)).length = m by rw [List.length_map, hm])
 obtain ⟨l, hl⟩ : ∃ l, ls.map (·.s) = l := ⟨_, rfl⟩
 rw [hl] at HBD HNM HIG ⊢
 have HL := hid hl
 clear h hig hbd hJ hrow hm hl
 go_enter Tryz.func16, Tryz.ntmps16
 go_wp2_with fail
 refine HK.out.mono ?_
 rintro e w1 ⟨rfl, hk1, hb1⟩
 have HKM := hid hk1
 have HB1 := hid hb1
 have hz1 := hb1.size
 have hkl := hk1.lt
 obtain ⟨r, hr⟩ : ∃ r, w.heap.size = r := ⟨_, rfl⟩
 rw [hr] at HKM hkl ⊢
 have HR := hid hr
 have hts := fun j => HT.out.lt (j := j)
 have HTS := hid hts
 clear hk1 hb1 hr hts
 go_wp2_with fail
 go_loopg [13] m (fun gk iv wr => TkLoop (TS t PA RA) w1 n t m g l gk iv wr)
 case atStart => exact ⟨0, rfl, Nat.zero_le _, hid rfl, hid ⟨SA, Sc, es, PA, Pc, ps, RA, Rc, HT.out.below HB1.out, PartN.refl _ _, fun j hj => .inl hj⟩⟩
 case round =>
  obtain ⟨k, rfl, hk, HGK, HTR⟩ := hrel
  obtain ⟨SA1, Sc1, es1, PA1, Pc1, ps1, RA1, Rc1, ht, hp, hq⟩ := HTR.out
  by_cases hlt : k < m
  ·obtain ⟨x, hx⟩ : ∃ x, ls[k]? = some x := ⟨_, List.getElem?_eq_getElem (by rw [HLN.out]; exact hlt)⟩
   obtain ⟨gq, hgq⟩ : ∃ gq, takeL g (l.take k) = gq := ⟨_, rfl⟩
   have hbd := HBD.out k (by rw [HNM.out]; exact hk)
   have hig := HIG.out k
   have hsu : takeL g (l.take (k + 1)) = takeS gq x.s := by rw [← hgq]; exact takeL_succ (by rw [← HL.out, List.getElem?_map, hx]; rfl)
   rw [hgq] at ht hbd hig
   have hp0 : PartN (TS t PA RA) w wr := (PartN.of_below HB1.out).trans hp
   have hj := HJ.out wr hp0
   have hxr := (hj.2 x (List.mem_of_getElem? hx))
   obtain ⟨b, o, rfl, hbl, v0, v1, v2, v3, v4⟩ := hj.at hx
   obtain ⟨y0, y1, y2, y3, y4⟩ := ht.cells
   have hlt1 := ht.held.lt
   have hpz := hp.size
   have HSU := hid hsu
   have HXR := hid hxr
   have HT1 := hid ht
   have HP := hid hp
   have HQ := hid hq
   have HIQ := hid hig.isg
   have HKW : Hid (KMap wr r t) := hid (HKM.out.same (hp.block r hkl (fun e => by have := (HTS.out r e).2; have := HR.out; omega)))
   clear hsu hgq hx hxr hj hp0 ht hp hq hig HTR
   cases hf : x.s.isf with
   | false =>
    rw [hf] at v2
    have hwr : IntKind.i64.wrap (gq.sk + x.s.n) = gq.sk + x.s.n := by
     have h1 := hbd.sk
     have h2 := HXR.out.2.2.2
     exact IntWalk.i64_in _ (by omega)
    have HF := hid hf
    obtain ⟨u, hu⟩ : ∃ u, wr.alloc (.cells #[.int .i64 x.s.frm, .int .i64 x.s.n, .bool false, .int .i64 x.s.kind, .slice x.A x.s.pay.length x.c] 46) = u := ⟨_, rfl⟩
    have bu : Below wr.heap.size wr u := by rw [← hu]; exact (Below.refl _ _).alloc (Nat.le_refl _) _
    have hh : Held u wr.heap.size 46 #[.int .i64 x.s.frm, .int .i64 x.s.n, .bool false, .int .i64 x.s.kind, .slice x.A x.s.pay.length x.c] := by rw [← hu]; exact heap_alloc_new wr _
    have q1 := hh.cell 1
    have q2 := hh.cell 2
    simp at q1 q2
    have htu := HT1.out.below bu
    obtain ⟨u0, u1, u2, u3, u4⟩ := htu.cells
    have f2 := htu.held.frozen 2
    have hltu := htu.held.lt
    have HTU := hid htu
    have HBU := hid bu
    clear hf hbd hh htu bu
    go_wp2_with fail
    go_region
    all_goals (
    go_wp2_with fail
    go_roundg (m - (k + 1))
    case measure => have := HGK.out; omega
    case rel => exact TkLoop.next HP.out HQ.out ⟨SA1, Sc1, es1, PA1, Pc1, ps1, RA1, Rc1, (HTU.out.putSk (gq.sk + x.s.n)).below (Below.refl _ _).drew, ((PartN.of_below HBU.out).trans (PartN.put (.inl rfl) 2 _)).tail (Below.refl _ _).drew, fun j hj => .inl hj⟩ (HSU.out.trans (takeS_skip HF.out)) hlt (by omega))
   | true =>
    rw [hf] at v2
    have HF := hid hf
    have hpl := HT1.out.ptsp
    have hpb : ps1.length ≤ 1000000000 := by
     have h1 := hbd.pts
     rw [← hpl, List.length_map] at h1
     omega
    have HBQ := hid (show (gq.rej.length ≤ 1000000000 ∧ -4611686018427387904 ≤ gq.fr ∧ gq.fr ≤ 4611686018427387904) from by
     have h1 := hbd.rej
     have h2 := hbd.fr
     exact ⟨by omega, by omega, by omega⟩)
    clear hf hbd hpl
    by_cases k1 : x.s.kind = 1
    ·rw [k1] at v3
     have HK1 := hid k1
     clear k1
     obtain ⟨u, hu⟩ : ∃ u, wr.alloc (.cells #[.int .i64 x.s.frm, .int .i64 x.s.n, .bool true, .int .i64 1, .slice x.A x.s.pay.length x.c] 46) = u := ⟨_, rfl⟩
     have bu : Below wr.heap.size wr u := by rw [← hu]; exact (Below.refl _ _).alloc (Nat.le_refl _) _
     have su : u.heap.size = wr.heap.size + 1 := by rw [← hu, World.size_alloc]
     have hh : Held u wr.heap.size 46 #[.int .i64 x.s.frm, .int .i64 x.s.n, .bool true, .int .i64 1, .slice x.A x.s.pay.length x.c] := by rw [← hu]; exact heap_alloc_new wr _
     have q0 := hh.cell 0
     have q2 := hh.cell 2
     have q3 := hh.cell 3
     have q4 := hh.cell 4
     simp at q0 q2 q3 q4
     have HKU := HKW.out.below bu (by have := HKW.out.lt; exact this)
     have hlk := kinds_one HKU
     have HV := hid (fun W (hW : PartN (TS t PA1 RA1) u W) => show W.cell? ⟨wr.heap.size, 0, none⟩ = some (.int .i64 x.s.frm) ∧ W.cell? ⟨wr.heap.size, 4, none⟩ = some (.slice x.A x.s.pay.length x.c) from by
      have hb := hW.block wr.heap.size (by omega) (fun e => by have := (HT1.out.lt e).2; omega)
      have hh2 : Held W wr.heap.size 46 #[.int .i64 x.s.frm, .int .i64 x.s.n, .bool true, .int .i64 1, .slice x.A x.s.pay.length x.c] := hb.trans hh
      exact ⟨hh2.cell 0, hh2.cell 4⟩)
     have HTU := hid (HT1.out.below bu)
     have HCL := hid (fun W (hW : Below u.heap.size u W) => tkSchema_any (HTU.out.below hW) HIQ.out x.A x.c x.s.pay ((HXR.out.1.below (bu.trans (hW.mono bu.size))).more (Nat.le_trans bu.size hW.size)) HXR.out.2.1 HXR.out.2.2.1)
     have HGE := hid (show takeL g (l.take (k + 1)) = cntG (frameG gq 1 x.s.pay).1 x.s.frm (frameG gq 1 x.s.pay).2 from by rw [HSU.out, takeS_cnt HF.out, HK1.out])
     have HCN := hid (frameG_counts gq 1 x.s.pay)
     obtain ⟨G, hG⟩ : ∃ G, frameG gq 1 x.s.pay = G := ⟨_, rfl⟩
     rw [hG] at HCL HGE HCN
     have HBU := hid bu
     clear hG hh bu HKU
     go_wp2_with fail
     go_region_held3 (fun W => W.cell? ⟨wr.heap.size, 0, none⟩ = some (.int .i64 x.s.frm) ∧ W.cell? ⟨wr.heap.size, 4, none⟩ = some (.slice x.A x.s.pay.length x.c))
      (first | exact HV.out _ (PartN.refl _ _) | exact HV.out _ (PartN.of_below (Below.refl _ _).drew) | exact HV.out _ p6 | exact HV.out _ p5)
      (first
       | (go_at_call 65; (with_reducible refine (HCL.out _ (Below.refl _ _).drew).mono ?_); rintro e w5 ⟨rfl, SA5, Sc5, es5, PA5, Pc5, ps5, RA5, Rc5, h5, hp5, hs5⟩; have p5 : PartN (TS t PA1 RA1) u w5 := (PartN.of_below (Below.refl _ _).drew).trans hp5; have HC5 := hid (rcount_any18 h5 x.s.frm G.2 (by rw [HCN.out.2.2]; exact HBQ.out.1) (by rw [HCN.out.2.1]; exact HBQ.out.2)))
       | (go_at_call 38; (with_reducible refine HC5.out.mono ?_); rintro e w6 ⟨rfl, h6⟩; have p6 : PartN (TS t PA1 RA1) u w6 := p5.then (TkR.part h6) hs5))
     go_wp2_with fail
     go_roundg (m - (k + 1))
     case measure => have := HGK.out; omega
     case rel => exact TkLoop.next HP.out HQ.out (TkR.then ((PartN.of_below HBU.out).trans p5) (fun j hj => (hs5 j hj).imp id (fun e => Nat.le_trans HBU.out.size e)) h6) HGE.out hlt (by omega)
    ·by_cases k2 : x.s.kind = 2
     ·rw [k2] at v3
      have HK1 := hid k2
      clear k1 k2
      obtain ⟨u, hu⟩ : ∃ u, wr.alloc (.cells #[.int .i64 x.s.frm, .int .i64 x.s.n, .bool true, .int .i64 2, .slice x.A x.s.pay.length x.c] 46) = u := ⟨_, rfl⟩
      have bu : Below wr.heap.size wr u := by rw [← hu]; exact (Below.refl _ _).alloc (Nat.le_refl _) _
      have su : u.heap.size = wr.heap.size + 1 := by rw [← hu, World.size_alloc]
      have hh : Held u wr.heap.size 46 #[.int .i64 x.s.frm, .int .i64 x.s.n, .bool true, .int .i64 2, .slice x.A x.s.pay.length x.c] := by rw [← hu]; exact heap_alloc_new wr _
      have q0 := hh.cell 0
      have q2 := hh.cell 2
      have q3 := hh.cell 3
      have q4 := hh.cell 4
      simp at q0 q2 q3 q4
      have HKU := HKW.out.below bu (by have := HKW.out.lt; exact this)
      have hlk := kinds_two HKU
      have HV := hid (fun W (hW : PartN (TS t PA1 RA1) u W) => show W.cell? ⟨wr.heap.size, 0, none⟩ = some (.int .i64 x.s.frm) ∧ W.cell? ⟨wr.heap.size, 4, none⟩ = some (.slice x.A x.s.pay.length x.c) from by
       have hb := hW.block wr.heap.size (by omega) (fun e => by have := (HT1.out.lt e).2; omega)
       have hh2 : Held W wr.heap.size 46 #[.int .i64 x.s.frm, .int .i64 x.s.n, .bool true, .int .i64 2, .slice x.A x.s.pay.length x.c] := hb.trans hh
       exact ⟨hh2.cell 0, hh2.cell 4⟩)
      have HTU := hid (HT1.out.below bu)
      have HCL := hid (fun W (hW : Below u.heap.size u W) => tkEvents_any (HTU.out.below hW) HIQ.out x.A x.c x.s.pay ((HXR.out.1.below (bu.trans (hW.mono bu.size))).more (Nat.le_trans bu.size hW.size)) HXR.out.2.1 HXR.out.2.2.1 hpb)
      have HGE := hid (show takeL g (l.take (k + 1)) = cntG (frameG gq 2 x.s.pay).1 x.s.frm (frameG gq 2 x.s.pay).2 from by rw [HSU.out, takeS_cnt HF.out, HK1.out])
      have HCN := hid (frameG_counts gq 2 x.s.pay)
      obtain ⟨G, hG⟩ : ∃ G, frameG gq 2 x.s.pay = G := ⟨_, rfl⟩
      rw [hG] at HCL HGE HCN
      have HBU := hid bu
      clear hG hh bu HKU
      go_wp2_with fail
      go_region_held3 (fun W => W.cell? ⟨wr.heap.size, 0, none⟩ = some (.int .i64 x.s.frm) ∧ W.cell? ⟨wr.heap.size, 4, none⟩ = some (.slice x.A x.s.pay.length x.c))
       (first | exact HV.out _ (PartN.refl _ _) | exact HV.out _ (PartN.of_below (Below.refl _ _).drew) | exact HV.out _ p6 | exact HV.out _ p5)
       (first
        | (go_at_call 66; (with_reducible refine (HCL.out _ (Below.refl _ _).drew).mono ?_); rintro e w5 ⟨rfl, SA5, Sc5, es5, PA5, Pc5, ps5, RA5, Rc5, h5, hp5, hs5⟩; have p5 : PartN (TS t PA1 RA1) u w5 := (PartN.of_below (Below.refl _ _).drew).trans hp5; have HC5 := hid (rcount_any18 h5 x.s.frm G.2 (by rw [HCN.out.2.2]; exact HBQ.out.1) (by rw [HCN.out.2.1]; exact HBQ.out.2)))
        | (go_at_call 38; (with_reducible refine HC5.out.mono ?_); rintro e w6 ⟨rfl, h6⟩; have p6 : PartN (TS t PA1 RA1) u w6 := p5.then (TkR.part h6) hs5))
      go_wp2_with fail
      go_roundg (m - (k + 1))
      case measure => have := HGK.out; omega
      case rel => exact TkLoop.next HP.out HQ.out (TkR.then ((PartN.of_below HBU.out).trans p5) (fun j hj => (hs5 j hj).imp id (fun e => Nat.le_trans HBU.out.size e)) h6) HGE.out hlt (by omega)
     ·obtain ⟨K, hK⟩ : ∃ K, x.s.kind = K := ⟨_, rfl⟩
      rw [hK] at v3 k1 k2
      have HK1 := hid hK
      clear hK
      obtain ⟨u, hu⟩ : ∃ u, wr.alloc (.cells #[.int .i64 x.s.frm, .int .i64 x.s.n, .bool true, .int .i64 K, .slice x.A x.s.pay.length x.c] 46) = u := ⟨_, rfl⟩
      have bu : Below wr.heap.size wr u := by rw [← hu]; exact (Below.refl _ _).alloc (Nat.le_refl _) _
      have su : u.heap.size = wr.heap.size + 1 := by rw [← hu, World.size_alloc]
      have hh : Held u wr.heap.size 46 #[.int .i64 x.s.frm, .int .i64 x.s.n, .bool true, .int .i64 K, .slice x.A x.s.pay.length x.c] := by rw [← hu]; exact heap_alloc_new wr _
      have q0 := hh.cell 0
      have q2 := hh.cell 2
      have q3 := hh.cell 3
      have q4 := hh.cell 4
      simp at q0 q2 q3 q4
      have HKU := HKW.out.below bu (by have := HKW.out.lt; exact this)
      have hlk := kinds_none HKU k1 k2
      have HV := hid (fun W (hW : PartN (TS t PA1 RA1) u W) => show W.cell? ⟨wr.heap.size, 0, none⟩ = some (.int .i64 x.s.frm) ∧ W.cell? ⟨wr.heap.size, 4, none⟩ = some (.slice x.A x.s.pay.length x.c) from by
       have hb := hW.block wr.heap.size (by omega) (fun e => by have := (HT1.out.lt e).2; omega)
       have hh2 : Held W wr.heap.size 46 #[.int .i64 x.s.frm, .int .i64 x.s.n, .bool true, .int .i64 K, .slice x.A x.s.pay.length x.c] := hb.trans hh
       exact ⟨hh2.cell 0, hh2.cell 4⟩)
      have HTU := hid (HT1.out.below bu)
      have HCL := hid (fun W (hW : Below u.heap.size u W) => refuse_got (HTU.out.below hW) k1 k2 (.slice x.A x.s.pay.length x.c) (p := x.s.pay))
      have HGE := hid (show takeL g (l.take (k + 1)) = cntG (frameG gq K x.s.pay).1 x.s.frm (frameG gq K x.s.pay).2 from by rw [HSU.out, takeS_cnt HF.out, HK1.out])
      have HCN := hid (frameG_counts gq K x.s.pay)
      obtain ⟨G, hG⟩ : ∃ G, frameG gq K x.s.pay = G := ⟨_, rfl⟩
      rw [hG] at HCL HGE HCN
      have HBU := hid bu
      clear hG hh bu HKU
      go_wp2_with fail
      go_region_held3 (fun W => W.cell? ⟨wr.heap.size, 0, none⟩ = some (.int .i64 x.s.frm) ∧ W.cell? ⟨wr.heap.size, 4, none⟩ = some (.slice x.A x.s.pay.length x.c))
       (first | exact HV.out _ (PartN.refl _ _) | exact HV.out _ (PartN.of_below (Below.refl _ _).drew) | exact HV.out _ p6 | exact HV.out _ p5)
       (first
        | (go_at_call 37; (with_reducible refine (HCL.out _ (Below.refl _ _).drew).mono ?_); rintro e w5 ⟨rfl, SA5, Sc5, es5, PA5, Pc5, ps5, RA5, Rc5, h5, hp5, hs5⟩; have p5 : PartN (TS t PA1 RA1) u w5 := (PartN.of_below (Below.refl _ _).drew).trans hp5; have HC5 := hid (rcount_any18 h5 x.s.frm G.2 (by rw [HCN.out.2.2]; exact HBQ.out.1) (by rw [HCN.out.2.1]; exact HBQ.out.2)))
        | (go_at_call 38; (with_reducible refine HC5.out.mono ?_); rintro e w6 ⟨rfl, h6⟩; have p6 : PartN (TS t PA1 RA1) u w6 := p5.then (TkR.part h6) hs5))
      go_wp2_with fail
      go_roundg (m - (k + 1))
      case measure => have := HGK.out; omega
      case rel => exact TkLoop.next HP.out HQ.out (TkR.then ((PartN.of_below HBU.out).trans p5) (fun j hj => (hs5 j hj).imp id (fun e => Nat.le_trans HBU.out.size e)) h6) HGE.out hlt (by omega)
  ·obtain rfl : m = k := by omega
   have hnk : takeL g (l.take m) = takeL g l := by rw [List.take_of_length_le (by rw [HNM.out]; exact Nat.le_refl _)]
   rw [hnk] at HTR
   go_wp2_with fail
   go_end0
   exact ⟨rfl, TkR.then (PartN.of_below HB1.out) (fun j hj => .inl hj) HTR.out⟩
end
open Go.RowKit
theorem sclone_own (A : Option Addr) (c : Nat) (ds : List Pd) (w : World) (hrow : PredRow w w.heap.size (.slice A ds.length c) ds) (hlen : ds.length ≤ 1000000000) (hargs : ∀ d ∈ ds, d.p.args.length ≤ 1000000000) :
  Calls Tryz.prog 39 #[.slice A ds.length c] w fun e w' => ∃ A' c' es, e = .returned (.slice A' es.length c') ∧ OwnP w' w.heap.size (.slice A' es.length c') es ∧ es.map (·.p) = ds.map (·.p) ∧ Below w.heap.size w w' := by
 obtain ⟨i0, hi, hz0, hz1, hz2⟩ := info_parts Tryz.infoIntB
 obtain ⟨i1, hi1, hy0, hy1, hy2⟩ := info_parts Tryz.infoPred
 obtain ⟨_, hc1, hc2⟩ : ∃ _ : True, ds.length ≤ c ∧ c ≤ 9223372036854775807 := by
  obtain ⟨A', c', hv, q1, q2⟩ := hrow.form
  injection hv with _ _ e3
  exact ⟨trivial, by omega, by omega⟩
 have HROW := hid hrow
 have HAR := hid hargs
 clear hrow hargs
 obtain ⟨n, hn⟩ : ∃ n, w.heap.size = n := ⟨_, rfl⟩
 rw [hn] at HROW ⊢
 have HN := hid hn
 clear hn
 go_enter Tryz.func39, Tryz.ntmps39
 go_wp2_with fail
 go_loopg [8, 3] ds.length (fun gk i v wr => ∃ (k : Nat) (A1 : Option Addr) (cc : Nat) (es : List Pd), k ≤ ds.length ∧ i = .int .i64 k ∧ v = .slice A1 es.length cc ∧ Hid (ds.length - k = gk) ∧ Hid (OwnP wr n (.slice A1 es.length cc) es) ∧ Hid (es.map (·.p) = (ds.take k).map (·.p)) ∧ Hid (Below n w wr))
 case atStart => exact ⟨0, none, 0, [], Nat.zero_le _, rfl, rfl, hid rfl, hid (OwnP.nil _ _), hid rfl, hid (Below.refl _ _)⟩
 case round =>
  obtain ⟨k, A1, cc, es, hk, rfl, rfl, HGK, HOW, HES, HBR⟩ := hrel
  by_cases hlt : k < ds.length
  ·obtain ⟨d, hd⟩ : ∃ d, ds[k]? = some d := ⟨_, List.getElem?_eq_getElem hlt⟩
   have HTK := hid (show (ds.take (k + 1)).map (·.p) = (ds.take k).map (·.p) ++ [d.p] by rw [List.take_add_one, hd, List.map_append]; rfl)
   have HEL := hid (show es.length = k by have := congrArg List.length HES.out; simp at this; omega)
   obtain ⟨b, o, rfl, hb, x0, x1, hir, hfit, ha1, ha2⟩ := (HROW.out.below HBR.out).at hd
   have hda := HAR.out d (List.mem_of_getElem? hd)
   have hnw : n ≤ wr.heap.size := by rw [← HN.out]; exact HBR.out.size
   obtain ⟨⟨nm, ts⟩, dA, dc⟩ := d
   simp only at x0 x1 hir hfit ha1 ha2 hda
   obtain ⟨w1, hw1⟩ : ∃ w1, wr.alloc (.cells #[.string (strOfNums nm), .slice dA ts.length dc] 58) = w1 := ⟨_, rfl⟩
   have s1 : w1.heap.size = wr.heap.size + 1 := by rw [← hw1]; simp
   have b1 : Below wr.heap.size wr w1 := by rw [← hw1]; exact (Below.refl _ _).alloc (Nat.le_refl _) _
   have h1 : Held w1 wr.heap.size 58 #[.string (strOfNums nm), .slice dA ts.length dc] := by rw [← hw1]; exact heap_alloc_new wr _
   have HP1 := hid h1
   have HO1 := hid (HOW.out.below b1)
   have HB1 := hid (HBR.out.trans (b1.mono hnw))
   have HIB := hid (fun W (h : Below w1.heap.size w1 W) => hir.below ((b1.trans (h.mono (by omega))).mono hnw))
   have HFT := hid hfit
   have hall : ∀ W, Below w1.heap.size w1 W → W.cell? ⟨wr.heap.size, 0, none⟩ = some (.string (strOfNums nm)) ∧ W.cell? ⟨wr.heap.size, 1, none⟩ = some (.slice dA ts.length dc) := fun W h => by
    have g1 := h1.below h (by omega)
    obtain ⟨e0, e1⟩ := cC2 g1
    exact ⟨by simpa using e0, by simpa using e1⟩
   have HALL := hid hall
   have HNE := hid (show some wr.heap.size ≠ (Value.slice A1 es.length cc).ownBlock from fun e => by have := (World.ownsRow.lt HOW.out.1 _ e.symm).2; omega)
   clear h1 b1 hir hfit hd hall
   go_wp2_with fail
   go_region_held3 (fun W => W.cell? ⟨wr.heap.size, 0, none⟩ = some (.string (strOfNums nm)) ∧ W.cell? ⟨wr.heap.size, 1, none⟩ = some (.slice dA ts.length dc))
    (first | exact HALL.out _ (Below.refl _ _) | exact HALL.out _ (Below.refl _ _).drew | exact HALL.out _ b2 | exact HALL.out _ (b2.alloc b2.size _) | exact ⟨(hg4.cell_far ⟨wr.heap.size, 0, none⟩ (by have := b2.size; simp; omega) HNE.out).trans (HALL.out _ (b2.alloc b2.size _)).1, (hg4.cell_far ⟨wr.heap.size, 1, none⟩ (by have := b2.size; simp; omega) HNE.out).trans (HALL.out _ (b2.alloc b2.size _)).2⟩)
    (first
     | (refine step_append_ints (by rfl) (.const (.slice none 0 0)) (.tmp 16) 56 (by rfl) n i0 _ Tryz.underlying56 hi hz0 hz1 hz2 rfl rfl n _ ts (by rfl) (HIB.out _ (by first | exact Below.refl _ _ | exact (Below.refl _ _).drew)) hda (by (try simp) <;> omega) ts.length rfl ?_; intro dA2 dc2 w2 hOA hb2; have b2 : Below w1.heap.size w1 w2 := (Below.refl _ _).drew.trans hb2)
     | (refine step_append_pred (by rfl) (.tmp 12) (.tmp 19) 24 (by rfl) i1 _ Tryz.underlying24 hi1 hy0 hy1 hy2 rfl n (.slice A1 es.length cc) es (by rfl) ((HO1.out.below b2).below ((Below.refl _ _).alloc (Nat.le_refl _) _)) ⟨w2.heap.size, 0, none⟩ 1 ⟨⟨nm, ts⟩, dA2, dc2⟩ (by rfl) (by go_simp) (by go_simp) (World.ownsRow.alloc hOA _) HFT.out (by have := HEL.out; omega) (by have := b2.size; simp; omega) ?_; intro v4 w4 hO4 hg4))
   have hlow : ∀ j, (Value.slice A1 es.length cc).ownBlock = some j → n ≤ j := fun j e => (World.ownsRow.lt HOW.out.1 j e).1
   have b3 := (HB1.out.trans (b2.mono (by omega))).alloc (Nat.le_trans hnw (by have := b2.size; omega)) (.cells #[.string (strOfNums nm), .slice dA2 ts.length dc2] 58)
   have b4 : Below n w w4 := b3.grown hg4 (by have := b2.size; simp; omega) hlow
   obtain ⟨A4, c4, ev, _, _⟩ := hO4.form
   have HO4 := hid hO4
   have HB4 := hid b4
   have HES4 := hid (show (es ++ [(⟨⟨nm, ts⟩, dA2, dc2⟩ : Pd)]).map (·.p) = (ds.take (k + 1)).map (·.p) by rw [HTK.out, List.map_append, HES.out]; rfl)
   subst ev
   clear hOA hb2 b2 hO4 hg4 hlow b3 b4 hw1 s1 x0 x1
   generalize es ++ [(⟨⟨nm, ts⟩, dA2, dc2⟩ : Pd)] = es4 at HO4 HES4 ⊢
   go_wp2_with fail
   go_roundg (ds.length - (k + 1))
   case measure => have := HGK.out; omega
   case rel => exact ⟨k + 1, A4, c4, es4, by omega, by go_num, rfl, hid rfl, HO4, HES4, HB4⟩
  ·obtain rfl : k = ds.length := by omega
   go_wp2_with fail
   go_ret
   exact ⟨A1, cc, es, rfl, HOW.out, by rw [HES.out, List.take_length], HBR.out⟩
theorem held_put5 {w : World} {B : Nat} {t : TypeId} {a b c d e : Value} (h : Held w B t #[a, b, c, d, e]) (a' b' c' d' e' : Value) :
  Held (((((w.setCell ⟨B, 0, none⟩ a').setCell ⟨B, 1, none⟩ b').setCell ⟨B, 2, none⟩ c').setCell ⟨B, 3, none⟩ d').setCell ⟨B, 4, none⟩ e') B t #[a', b', c', d', e'] := by
 simpa using ((((h.put 0 a').put 1 b').put 2 c').put 3 d').put 4 e'
theorem grown_put5 (w : World) (B : Nat) (a' b' c' d' e' : Value) :
  w.grownBy (((((w.setCell ⟨B, 0, none⟩ a').setCell ⟨B, 1, none⟩ b').setCell ⟨B, 2, none⟩ c').setCell ⟨B, 3, none⟩ d').setCell ⟨B, 4, none⟩ e') (some B) :=
 grown_trans (grown_trans (grown_trans (grown_trans (grown_put _ _ _ _) (grown_put _ _ _ _)) (grown_put _ _ _ _)) (grown_put _ _ _ _)) (grown_put _ _ _ _)
structure GOwn (w : World) (m : Nat) (g : Gp) (SA : Option Addr) (Sc : Nat) (es : List Pd) (PA : Option Addr) (Pc : Nat) (ps : List Pm) (RA : Option Addr) (Rc : Nat) : Prop where
 sig : OwnP w m (.slice SA es.length Sc) es
 sigp : es.map (·.p) = g.sig
 pts : OwnT w m (.slice PA ps.length Pc) ps
 ptsp : ps.map (·.p) = g.pts
 rej : w.ownsRow m 38 2 (.slice RA g.rej.length Rc) g.rej.length (flatJ g.rej)
section
variable {w w' : World} {m k : Nat} {g : Gp} {SA : Option Addr} {Sc : Nat} {es : List Pd} {PA : Option Addr} {Pc : Nat} {ps : List Pm} {RA : Option Addr} {Rc : Nat}
theorem GOwn.below (h : GOwn w m g SA Sc es PA Pc ps RA Rc) (hb : Below w.heap.size w w') : GOwn w' m g SA Sc es PA Pc ps RA Rc := ⟨h.sig.below hb, h.sigp, h.pts.below hb, h.ptsp, own_below h.rej hb⟩
theorem GOwn.base (h : GOwn w m g SA Sc es PA Pc ps RA Rc) (hk : k ≤ m) : GOwn w k g SA Sc es PA Pc ps RA Rc := ⟨h.sig.base hk, h.sigp, h.pts.base hk, h.ptsp, own_base h.rej hk⟩
theorem GOwn.kept {r : Nat} (h : GOwn w m g SA Sc es PA Pc ps RA Rc) (hg : w.grownBy w' (some r)) (hr : r < m) : GOwn w' m g SA Sc es PA Pc ps RA Rc := by
 have hne : ∀ {e : TypeId} {sz k : Nat} {v : Value} {us : List Value}, w.ownsRow m e sz v k us → w'.ownsRow m e sz v k us := fun h => h.kept hg (.inr (fun e => by have := (World.ownsRow.lt h r e).1; omega))
 exact ⟨⟨hne h.sig.1, fun d hd => ⟨hne (h.sig.2 d hd).1, (h.sig.2 d hd).2⟩⟩, h.sigp, ⟨hne h.pts.1, fun d hd => ⟨⟨hne (h.pts.2 d hd).1.1, fun x hx => ⟨hne ((h.pts.2 d hd).1.2 x hx).1, ((h.pts.2 d hd).1.2 x hx).2⟩⟩, (h.pts.2 d hd).2⟩⟩, h.ptsp, hne h.rej⟩
theorem GOwn.row (h : GOwn w m g SA Sc es PA Pc ps RA Rc) : GAt w w.heap.size g SA Sc es PA Pc ps RA Rc := ⟨h.sig.row, h.sigp, h.pts.row, h.ptsp, ERow.of_own h.rej⟩
end
theorem trfit_of {sig : List Pr} {l : List Pm} (h : (checkT sig (l.map (·.p))).1 = 0) (hl : l.length ≤ 1000000000) : TrFit l := by
 obtain ⟨hs, hw⟩ := checkT_zero.1 h
 have he := checkT_events h
 refine ⟨by omega, fun d hd => ⟨?_, fun x hx => ?_⟩⟩
 ·obtain ⟨i, hi⟩ := List.mem_iff_getElem?.1 hd
  have hil := (List.getElem?_eq_some_iff.1 hi).1
  have := hw i (by rw [List.length_map]; exact hil)
  unfold whyT at this
  rw [getD_of (at_pn hi)] at this
  split at this
  ·cases this
  ·unfold whyE at this
   split at this
   ·cases this
   ·rename_i h1
    rw [List.length_map] at h1
    omega
 ·have h1 := he d hd x hx
  by_cases hn : x.e.p < 0 ∨ (sig.length : Int) ≤ x.e.p
  ·rw [eventT_name hn] at h1
   cases h1
  ·obtain ⟨k, hk⟩ : ∃ k : Nat, x.e.p = (k : Int) := ⟨x.e.p.toNat, by omega⟩
   obtain ⟨p, hp⟩ : ∃ p, sig[k]? = some p := ⟨_, List.getElem?_eq_getElem (by omega)⟩
   rw [eventT_has hk hp] at h1
   split at h1
   ·cases h1
   ·rename_i h2
    have h3 := (sig_args hs p (List.mem_of_getElem? hp)).1
    have h4 : x.e.args.length = x.args.length := rfl
    omega
theorem rnew_any (w : World) :
  Calls Tryz.prog 15 #[] w fun e w' => e = .returned (.pointer (some ⟨w.heap.size, 0, none⟩)) ∧ TAt w' w.heap.size w.heap.size noG none 0 [] none 0 [] none 0 ∧ Below w.heap.size w w' := by
 obtain ⟨u, hu⟩ : ∃ u, w.alloc (.cells #[.slice none 0 0, .slice none 0 0, .int .i64 0, .int .i64 0, .slice none 0 0] 93) = u := ⟨_, rfl⟩
 have HB := hid (show Below w.heap.size w u from by rw [← hu]; exact (Below.refl _ _).alloc (Nat.le_refl _) _)
 have HH := hid (show Held u w.heap.size 93 #[.slice none 0 0, .slice none 0 0, .int .i64 0, .int .i64 0, .slice none 0 0] from by rw [← hu]; exact heap_alloc_new w _)
 go_enter Tryz.func15, Tryz.ntmps15
 go_wp2_with fail
 go_ret
 exact ⟨rfl, ⟨HH.out, Nat.le_refl _, OwnP.nil _ _, rfl, OwnT.nil _ _, rfl, World.ownsRow_nil _ _ _ _⟩, HB.out⟩
theorem jclone_any (w : World) (C : Option Addr) (cc : Nat) (bs : List (Int × Int)) (hrow : ERow w w.heap.size (.slice C bs.length cc) bs.length (flatJ bs)) (hl : bs.length ≤ 1000000000) :
  Calls Tryz.prog 41 #[.slice C bs.length cc] w fun e w' => ∃ C2 c2, e = .returned (.slice C2 bs.length c2) ∧ w'.ownsRow w.heap.size 38 2 (.slice C2 bs.length c2) bs.length (flatJ bs) ∧ Below w.heap.size w w' := by
 obtain ⟨i1, hi1, hy0, hy1, hy2⟩ := info_parts Tryz.infoReject
 obtain ⟨-, l1, l2⟩ := hrow.len
 have h1 := oneJ bs
 have hlen := flatJ_length bs
 rcases C with _ | ad
 ·have h0 : bs.length = 0 := by
   obtain ⟨A', c', hv, q1, q2, q3, q4⟩ := hrow
   injection hv with e1 e2 e3
   subst e1 e3
   have := q3 rfl
   omega
  obtain rfl : cc = 0 := by
   obtain ⟨A', c', hv, q1, q2, q3, q4⟩ := hrow
   injection hv with e1 e2 e3
   subst e1 e3
   exact q3 rfl
  rw [List.length_eq_zero_iff.1 h0]
  clear hrow
  have hnl := Lib.run_eql_slice_nil (P := Tryz.prog) w 26 38 none 0 0 0 0 Tryz.underlying26
  go_enter Tryz.func41, Tryz.ntmps41
  go_wp2_with fail
  go_ret
  exact ⟨none, 0, rfl, World.ownsRow_nil _ _ _ _, Below.refl _ _⟩
 ·have ba := (Below.refl w.heap.size w).alloc (Nat.le_refl _) (.cells #[] 38)
  have hno := own_none (w := w) (base := w.heap.size) (e := 38) (size := 2) (Nat.le_refl _)
  have HR2 := hid (hrow.below ba)
  have HNO := hid hno
  have HB := hid ba
  clear hrow hno ba
  generalize bs.length = k at *
  have hnl := Lib.run_eql_slice_nil (P := Tryz.prog) w 26 38 (some ad) k cc 0 0 Tryz.underlying26
  go_enter Tryz.func41, Tryz.ntmps41
  go_wp2_with (at_builtin; refine wpList_append_erow _ rfl _ _ 26 38 rfl w.heap.size i1 (.agg #[.int .i64 0, .int .i64 0]) 2 16 Tryz.underlying26 hi1 hy0 hy1 hy2 rfl (by decide) (.slice (some ⟨w.heap.size, 0, none⟩) 0 0) 0 [] (by rfl) HNO.out _ _ k (flatJ bs) (by rfl) HR2.out (by omega) h1 (by unfold maxLen; omega) (by omega) (by rw [World.size_alloc]; omega) k (by omega) (flatJ bs) (by simp) ?_; intro A6 c6 w6 hown6 hg6 hat6; have HO6 := hid hown6; have HG6 := hid hg6; clear hown6 hg6 hat6)
  go_ret
  have hlow : ∀ j, (Value.slice (some (⟨w.heap.size, 0, none⟩ : Addr)) 0 0).ownBlock = some j → w.heap.size ≤ j := fun j e => Nat.le_of_eq (by simpa [Value.ownBlock] using e)
  exact ⟨A6, c6, rfl, HO6.out, HB.out.grown HG6.out (by rw [World.size_alloc]; omega) hlow⟩
section
variable {w : World} {R : Nat} {a b c d e : Value} {T : Array Value}
theorem res_got (h : T[2]?.getD undef = .pointer (some ⟨R, 0, none⟩)) (hz : Held w R 28 #[a, b, c, d, e]) :
  (results Tryz.f17 T).run Tryz.prog w = .ok (.agg #[a, b, c, d, e]) w := by
 obtain ⟨z0, z1, z2, z3, z4⟩ := cC5 hz
 simp at z0 z1 z2 z3 z4
 simp [results, Tryz.results17, go_sem, h, z0, z1, z2, z3, z4]
end
section
variable {w : World} {n t : Nat} {g : Gp} {SA : Option Addr} {Sc : Nat} {es : List Pd} {PA : Option Addr} {Pc : Nat} {ps : List Pm} {RA : Option Addr} {Rc : Nat}
def GtGot (w : World) (g : Gp) (e : Ending) (w' : World) : Prop := ∃ SA Sc es PA Pc ps RA Rc, e = .returned (GW g SA Sc es PA Pc ps RA Rc) ∧ GOwn w' w.heap.size g SA Sc es PA Pc ps RA Rc ∧ Below w.heap.size w w'
theorem rgot_any (h : TAt w n t g SA Sc es PA Pc ps RA Rc) (htr : (checkT g.sig g.pts).1 = 0) (hP : ps.length ≤ 1000000000) (hR : g.rej.length ≤ 1000000000) :
  Calls Tryz.prog 17 #[.pointer (some ⟨t, 0, none⟩)] w (GtGot w g) := by
 have hsg := checkT_p htr
 have hsl : es.length ≤ 1000000000 := by
  have := (checkP_zero.1 hsg).1
  rw [← h.sigp, List.length_map] at this
  omega
 have hsa : ∀ d ∈ es, d.p.args.length ≤ 1000000000 := fun d hd => by
  have := (sig_args hsg d.p (by rw [← h.sigp]; exact List.mem_map_of_mem hd)).1
  omega
 have hfit : TrFit ps := trfit_of (sig := g.sig) (by rw [h.ptsp]; exact htr) hP
 have HCS := hid (fun W (hW : Below w.heap.size w W) => sclone_own SA Sc es W (h.below hW).sig.row hsl hsa)
 have HCT := hid (fun W (hW : Below w.heap.size w W) => tclone_any PA Pc ps W (h.below hW).pts.row hfit)
 have HCJ := hid (fun W (hW : Below w.heap.size w W) => jclone_any W RA Rc g.rej (ERow.of_own (h.below hW).rej) hR)
 rw [h.sigp] at HCS
 rw [h.ptsp] at HCT
 obtain ⟨N, hN⟩ : ∃ N, w.heap.size = N := ⟨_, rfl⟩
 have hlt := h.held.lt
 obtain ⟨u0, hu0⟩ : ∃ u, w.alloc (.cells #[.slice none 0 0, .slice none 0 0, .int .i64 0, .int .i64 0, .slice none 0 0] 28) = u := ⟨_, rfl⟩
 have s0 : u0.heap.size = N + 1 := by rw [← hu0, World.size_alloc, hN]
 have b0 : Below w.heap.size w u0 := by rw [← hu0]; exact (Below.refl _ _).alloc (Nat.le_refl _) _
 have k0 : Held u0 N 28 #[.slice none 0 0, .slice none 0 0, .int .i64 0, .int .i64 0, .slice none 0 0] := by rw [← hu0, ← hN]; exact heap_alloc_new w _
 obtain ⟨u1, hu1⟩ : ∃ u, u0.alloc (.cells #[.slice SA es.length Sc, .slice PA ps.length Pc, .int .i64 g.sk, .int .i64 g.fr, .slice RA g.rej.length Rc] 28) = u := ⟨_, rfl⟩
 have s1 : u1.heap.size = N + 2 := by rw [← hu1, World.size_alloc, s0]
 have b1 : Below u0.heap.size u0 u1 := by rw [← hu1]; exact (Below.refl _ _).alloc (Nat.le_refl _) _
 have k1 : Held u1 (N + 1) 28 #[.slice SA es.length Sc, .slice PA ps.length Pc, .int .i64 g.sk, .int .i64 g.fr, .slice RA g.rej.length Rc] := by rw [← hu1, ← s0]; exact heap_alloc_new u0 _
 have bb : Below w.heap.size w u1 := b0.trans (b1.mono (by omega))
 obtain ⟨x0, x1, x2, x3, x4⟩ := (h.below b0).cells
 have y0 := k1.cell 0
 simp at y0
 have HK0 := hid (k0.below b1 (by omega))
 have HK1 := hid k1
 have HC1 := hid (HCS.out u1 bb)
 have HB1 := hid bb
 have HN := hid hN
 clear h htr hsg hsl hsa hfit k0 k1 b0 b1 bb HCS
 unfold GtGot
 go_enter Tryz.func17, Tryz.ntmps17
 go_wp2_with fail
 refine HC1.out.mono ?_
 rintro e w2 ⟨A2, c2, es2, rfl, ho2, he2, hb2⟩
 have z2 := hb2.size
 have q2 := HK1.out.below hb2 HK1.out.lt
 have f0 := q2.frozen 0
 have y0 := q2.cell 0
 have l2 := q2.lt
 simp at y0
 obtain ⟨v2, hv2⟩ : ∃ v, w2.setCell ⟨N + 1, 0, none⟩ (.slice A2 es2.length c2) = v := ⟨_, rfl⟩
 have q2' : Held v2 (N + 1) 28 #[.slice A2 es2.length c2, .slice PA ps.length Pc, .int .i64 g.sk, .int .i64 g.fr, .slice RA g.rej.length Rc] := by rw [← hv2]; simpa using q2.put 0 (.slice A2 es2.length c2)
 have p2 : w2.grownBy v2 (some (N + 1)) := by rw [← hv2]; exact grown_put _ _ _ _
 have t2 : v2.heap.size = w2.heap.size := by rw [← hv2]; exact World.size_setCell _ _ _
 have b2 : Below w.heap.size w v2 := (HB1.out.trans (hb2.mono HB1.out.size)).grown p2 (by omega) (fun j e => by injection e with e; omega)
 have HQ2 := hid q2'
 have HZ2 := hid (show Held v2 N 28 #[.slice none 0 0, .slice none 0 0, .int .i64 0, .int .i64 0, .slice none 0 0] from (HK0.out.below hb2 (by omega)).grown p2 (by simp))
 have HO2 := hid (show OwnP v2 (N + 2) (.slice A2 es2.length c2) es2 from (ho2.base (by omega)).kept p2 (by omega))
 have HE2 := hid he2
 have HB2 := hid b2
 have HC2 := hid (HCT.out v2 b2)
 have y1 := q2'.cell 1
 simp at y1
 clear hb2 q2 q2' p2 b2 ho2 he2
 go_wp2_with fail
 refine HC2.out.mono ?_
 rintro e w3 ⟨A3, c3, qs, rfl, ho3, he3, hb3⟩
 have z3 := hb3.size
 have q3 := HQ2.out.below hb3 HQ2.out.lt
 have f1 := q3.frozen 1
 have y1 := q3.cell 1
 have l3 := q3.lt
 simp at y1
 obtain ⟨v3, hv3⟩ : ∃ v, w3.setCell ⟨N + 1, 1, none⟩ (.slice A3 qs.length c3) = v := ⟨_, rfl⟩
 have q3' : Held v3 (N + 1) 28 #[.slice A2 es2.length c2, .slice A3 qs.length c3, .int .i64 g.sk, .int .i64 g.fr, .slice RA g.rej.length Rc] := by rw [← hv3]; simpa using q3.put 1 (.slice A3 qs.length c3)
 have p3 : w3.grownBy v3 (some (N + 1)) := by rw [← hv3]; exact grown_put _ _ _ _
 have t3 : v3.heap.size = w3.heap.size := by rw [← hv3]; exact World.size_setCell _ _ _
 have b3 : Below w.heap.size w v3 := (HB2.out.trans (hb3.mono HB2.out.size)).grown p3 (by omega) (fun j e => by injection e with e; omega)
 have HQ3 := hid q3'
 have HZ3 := hid (show Held v3 N 28 #[.slice none 0 0, .slice none 0 0, .int .i64 0, .int .i64 0, .slice none 0 0] from (HZ2.out.below hb3 HZ2.out.lt).grown p3 (by simp))
 have HO3 := hid (show OwnP v3 (N + 2) (.slice A2 es2.length c2) es2 from (HO2.out.below hb3).kept p3 (by omega))
 have HT3 := hid (show OwnT v3 (N + 2) (.slice A3 qs.length c3) qs from (ho3.base (by omega)).nott (NotT.of_held q3 (by decide)) (NotT.of_held q3 (by decide)) ((NotT.of_held q3 (by decide)).ne ho3.1) p3)
 have HE3 := hid he3
 have HB3 := hid b3
 have HC3 := hid (HCJ.out v3 b3)
 have y4 := q3'.cell 4
 simp at y4
 clear hb3 q3 q3' p3 b3 ho3 he3
 go_wp2_with fail
 refine HC3.out.mono ?_
 rintro e w4 ⟨A4, c4, rfl, ho4, hb4⟩
 have z4 := hb4.size
 have q4 := HQ3.out.below hb4 HQ3.out.lt
 have f4 := q4.frozen 4
 have y4 := q4.cell 4
 have l4 := q4.lt
 simp at y4
 obtain ⟨v4, hv4⟩ : ∃ v, w4.setCell ⟨N + 1, 4, none⟩ (.slice A4 g.rej.length c4) = v := ⟨_, rfl⟩
 have q4' : Held v4 (N + 1) 28 #[.slice A2 es2.length c2, .slice A3 qs.length c3, .int .i64 g.sk, .int .i64 g.fr, .slice A4 g.rej.length c4] := by rw [← hv4]; simpa using q4.put 4 (.slice A4 g.rej.length c4)
 have p4 : w4.grownBy v4 (some (N + 1)) := by rw [← hv4]; exact grown_put _ _ _ _
 have t4 : v4.heap.size = w4.heap.size := by rw [← hv4]; exact World.size_setCell _ _ _
 have b4 : Below w.heap.size w v4 := (HB3.out.trans (hb4.mono HB3.out.size)).grown p4 (by omega) (fun j e => by injection e with e; omega)
 have hz4 : Held v4 N 28 #[.slice none 0 0, .slice none 0 0, .int .i64 0, .int .i64 0, .slice none 0 0] := (HZ3.out.below hb4 HZ3.out.lt).grown p4 (by simp)
 have HOO := hid (show GOwn v4 (N + 2) g A2 c2 es2 A3 c3 qs A4 c4 from
  ⟨(HO3.out.below hb4).kept p4 (by omega), HE2.out, (HT3.out.below hb4).nott (NotT.of_held q4 (by decide)) (NotT.of_held q4 (by decide)) ((NotT.of_held q4 (by decide)).ne (HT3.out.below hb4).1) p4, HE3.out, own_nott (own_base ho4 (by omega)) (NotT.of_held q4 (by decide)) p4⟩)
 obtain ⟨a0, a1, a2, a3, a4⟩ := cC5 q4'
 obtain ⟨⟨g0, g1, g2, g3, g4⟩, c0, c1, d2, d3, d4⟩ := cG5 hz4
 have lN := hz4.lt
 simp at a0 a1 a2 a3 a4 c0 c1 d2 d3 d4
 have HZ4 := hid hz4
 have HB4 := hid b4
 clear hb4 q4 q4' p4 b4 ho4 hz4
 go_wp2_with fail
 refine bodyPost_ret (v := GW g A2 c2 es2 A3 c3 qs A4 c4) ?_ rfl ?_
 ·exact res_got (R := N) (by simp only [pV]) (held_put5 HZ4.out _ _ _ _ _)
 ·refine ⟨A2, c2, es2, A3, c3, qs, A4, c4, rfl, ?_, ?_⟩
  ·exact (HOO.out.kept (grown_put5 v4 N _ _ _ _ _) (by omega)).base (by have := HN.out; omega)
  ·exact HB4.out.grown (grown_put5 v4 N _ _ _ _ _) (by have := HB4.out.size; omega) (fun j e => by injection e with e; have := HN.out; omega)
end
theorem known_yes {n : Int} (h : n = 1 ∨ n = 2) (w : World) : Calls Tryz.prog 123 #[.int .i64 n] w fun e w' => e = .returned (.bool true) ∧ w = w' := by
 rcases h with rfl | rfl
 all_goals
  go_enter Tryz.func123, Tryz.ntmps123
  go_wp2
  go_ret
  exact ⟨rfl, rfl⟩
theorem known_no {n : Int} (h : ¬ (n = 1 ∨ n = 2)) (w : World) : Calls Tryz.prog 123 #[.int .i64 n] w fun e w' => e = .returned (.bool false) ∧ w = w' := by
 have h1 : (n == 1) = false := beq_eq_false_iff_ne.2 (by omega)
 have h2 : (n == 2) = false := beq_eq_false_iff_ne.2 (by omega)
 clear h
 go_enter Tryz.func123, Tryz.ntmps123
 go_wp2
 go_ret
 exact ⟨rfl, rfl⟩
def sizeI (n : Int) : Int := if 0 ≤ n ∧ n ≤ 4096 then 9 + (encI n.toNat).length + n else 0
theorem sizeI_ok {n : Nat} (h : n ≤ 4096) : sizeI n = ((9 + (encI n).length + n : Nat) : Int) := by
 unfold sizeI
 rw [if_pos ⟨by omega, by omega⟩, Int.toNat_natCast]
 omega
theorem sizeI_no {n : Int} (h : n < 0 ∨ 4096 < n) : sizeI n = 0 := by
 unfold sizeI
 rw [if_neg (by omega)]
theorem fsize_any (n : Int) (h1 : -9223372036854775808 ≤ n) (h2 : n ≤ 9223372036854775807) (w : World) :
  Calls Tryz.prog 121 #[.int .i64 n] w fun e w' => e = .returned (.int .i64 (sizeI n)) ∧ Below w.heap.size w w' := by
 by_cases hn : n < 0
 ·rw [sizeI_no (.inl hn)]
  go_enter Tryz.func121, Tryz.ntmps121
  go_wp2_with fail
  go_ret
  exact ⟨rfl, Below.refl _ _⟩
 by_cases hg : 4096 < n
 ·rw [sizeI_no (.inr hg)]
  have h0 : 0 ≤ n := by omega
  go_enter Tryz.func121, Tryz.ntmps121
  go_wp2_with fail
  go_ret
  exact ⟨rfl, Below.refl _ _⟩
 obtain ⟨m, rfl⟩ := Int.eq_ofNat_of_zero_le (show 0 ≤ n by omega)
 have hm : m ≤ 4096 := by omega
 have hl := encI_ten (n := m) (by omega)
 have hs := fun W => size_any m (by omega) W
 rw [sizeI_ok hm]
 generalize (encI m).length = L at hl hs ⊢
 have HS := hid hs
 obtain ⟨l1, l2⟩ := hl
 clear hs hn hg h1 h2
 go_enter Tryz.func121, Tryz.ntmps121
 go_wp2_with fail
 refine (HS.out _).mono ?_
 rintro e w1 ⟨rfl, hb1⟩
 go_wp2_with fail
 go_ret
 refine ⟨?_, hb1⟩
 show Ending.returned (.int .i64 (5 + (L : Int) + (m : Int) + 4)) = _
 rw [show 5 + (L : Int) + (m : Int) + 4 = ((9 + L + m : Nat) : Int) by omega]
theorem markL_byte : ∀ x ∈ markL, 0 ≤ x ∧ x < 256 := by decide
theorem lenI_take : ∀ (m i : Nat) (xs : List Int), 10 ≤ i + m → lenI i (xs.take m) = lenI i xs
 | 0, i, xs, h => by
  cases xs with
  | nil => simp
  | cons x r =>
   simp only [List.take_zero, lenI]
   rw [if_neg (by omega), if_pos (by omega)]
 | m + 1, i, [], h => by simp
 | m + 1, i, x :: r, h => by
  simp only [List.take_succ_cons, lenI]
  rw [lenI_take m (i + 1) r (by omega)]
theorem getI_take {m : Nat} (hm : 10 ≤ m) (xs : List Int) (hb : ∀ x ∈ xs, 0 ≤ x ∧ x < 256) : getI (xs.take m) = getI xs := by
 have h := lenI_take m 0 xs (by omega)
 unfold getI
 rw [h]
 by_cases he : (lenI 0 xs).2 = 0
 ·obtain ⟨_, _, h3, _⟩ := getI_back xs hb he
  rw [if_pos he, if_pos he, List.take_take, Nat.min_eq_left (by omega)]
 ·rw [if_neg he, if_neg he]
def takeK (zs : List Int) : Int × Nat × Int := tk 0 0 0 (getB zs)
def errK (zs : List Int) : Int := if (takeK zs).1 = 1 ∨ (takeK zs).1 = 2 then (takeK zs).2.2 else stopI (takeK zs).2.2 4
def takeP (zs : List Int) : List Int × Nat × Int := tk [] (takeK zs).2.1 (errK zs) (getT 4096 (zs.drop (takeK zs).2.1))
def takeB (zs : List Int) (p : Nat) (e : Int) : Int × Nat × Int := tk 0 p e (getB (zs.drop p))
def at4 (zs : List Int) (p : Nat) (e : Int) : Nat → Nat × Int
 | 0 => (p, e)
 | j + 1 => (takeB zs (at4 zs p e j).1 (at4 zs p e j).2).2
def four (zs : List Int) (p : Nat) (e : Int) (j : Nat) : Int := (takeB zs (at4 zs p e j).1 (at4 zs p e j).2).1
def fourL (zs : List Int) (p : Nat) (e : Int) : List Int := [four zs p e 0, four zs p e 1, four zs p e 2, four zs p e 3]
def errS (zs : List Int) (p : Nat) (e : Int) (body : List Int) : Int :=
 if fourL zs p e = le4 (sumX body) then (at4 zs p e 4).2 else stopI (at4 zs p e 4).2 5
theorem at4_stopped {zs : List Int} {p : Nat} {e : Int} (h : e ≠ 0) : ∀ j, at4 zs p e j = (p, e)
 | 0 => rfl
 | j + 1 => by
  simp only [at4, at4_stopped h j]
  unfold takeB
  rw [tk_stopped h]
theorem errS_stopped {zs : List Int} {p : Nat} {e : Int} {body : List Int} (h : e ≠ 0) : errS zs p e body = e := by
 unfold errS
 rw [at4_stopped h]
 split
 ·rfl
 ·exact stopI_kept h 5
theorem takeB_ok {zs : List Int} {p : Nat} (h : p < zs.length) : takeB zs p 0 = (zs[p], p + 1, 0) := by
 unfold takeB
 rw [List.drop_eq_getElem_cons h]
 rw [tk_ok (by rfl)]
 rfl
theorem takeB_end {zs : List Int} {p : Nat} (h : zs.length ≤ p) : takeB zs p 0 = (0, p, 2) := by
 unfold takeB
 rw [List.drop_of_length_le h, tk_err (by simp [getB])]
 rfl
theorem at4_ok {zs : List Int} {p : Nat} : ∀ j, p + j ≤ zs.length → at4 zs p 0 j = (p + j, 0)
 | 0, _ => rfl
 | j + 1, h => by
  have ih := at4_ok (zs := zs) (p := p) j (by omega)
  show (takeB zs (at4 zs p 0 j).1 (at4 zs p 0 j).2).2 = _
  rw [ih]
  show (takeB zs (p + j) 0).2 = _
  rw [takeB_ok (by omega)]
  rfl
theorem at4_end {zs : List Int} {p : Nat} (h : zs.length < p + 4) (hp : p ≤ zs.length) : (at4 zs p 0 4).2 = 2 := by
 have key : ∀ j, zs.length < p + j → (at4 zs p 0 j).2 = 2 := by
  intro j
  induction j with
  | zero => intro h; omega
  | succ j ih =>
   intro h
   by_cases hj : zs.length < p + j
   ·have := ih hj
    simp only [at4]
    unfold takeB
    rw [this, tk_stopped (by simp)]
   ·have hj := at4_ok (zs := zs) (p := p) j (by omega)
    show (takeB zs (at4 zs p 0 j).1 (at4 zs p 0 j).2).2.2 = _
    rw [hj]
    show (takeB zs (p + j) 0).2.2 = _
    rw [takeB_end (by omega)]
 exact key 4 h
theorem four_ok {zs : List Int} {p : Nat} (h : p + 4 ≤ zs.length) : fourL zs p 0 = (zs.drop p).take 4 := by
 unfold fourL four
 rw [at4_ok 0 (by omega), at4_ok 1 (by omega), at4_ok 2 (by omega), at4_ok 3 (by omega)]
 simp only
 rw [takeB_ok (by omega), takeB_ok (by omega), takeB_ok (by omega), takeB_ok (by omega)]
 rw [List.drop_eq_getElem_cons (show p < zs.length by omega), List.drop_eq_getElem_cons (show p + 1 < zs.length by omega), List.drop_eq_getElem_cons (show p + 1 + 1 < zs.length by omega), List.drop_eq_getElem_cons (show p + 1 + 1 + 1 < zs.length by omega)]
 rfl
theorem taken (ys : List Int) (hb : ∀ x ∈ ys, 0 ≤ x ∧ x < 256) (zs : List Int) (hz : zs = ys.take 4103) (e : Int) (he : e = errS zs (takeP zs).2.1 (takeP zs).2.2 (ys.take (takeP zs).2.1)) :
  (takeP zs).2.1 ≤ zs.length ∧
  getFr (markL ++ ys) = if e ≠ 0 then noFr e else (((takeK zs).1, (takeP zs).1), 4 + (at4 zs (takeP zs).2.1 (takeP zs).2.2 4).1, 0) := by
 rw [getFr_mark]
 cases ys with
 | nil =>
  subst hz
  have hk : takeK (([] : List Int).take 4103) = (0, 0, 2) := by decide
  have hek : errK (([] : List Int).take 4103) = 2 := by unfold errK; rw [hk]; decide
  have hp : takeP (([] : List Int).take 4103) = ([], 0, 2) := by unfold takeP; rw [hk, hek, tk_stopped (by simp)]
  rw [hp] at he ⊢
  rw [errS_stopped (by simp)] at he
  subst he
  exact ⟨Nat.zero_le _, by simp⟩
 | cons k r =>
  have hbr : ∀ x ∈ r, 0 ≤ x ∧ x < 256 := fun x hx => hb x (by simp [hx])
  rw [List.take_succ_cons] at hz
  have hzl : zs.length = min 4102 r.length + 1 := by rw [hz]; simp
  have hk : takeK zs = (k, 1, 0) := by rw [hz]; unfold takeK; rw [tk_ok (by rfl)]; rfl
  simp only
  by_cases hkk : k = 1 ∨ k = 2
  ·rw [if_pos hkk]
   have hek : errK zs = 0 := by unfold errK; rw [hk, if_pos hkk]
   have hd1 : zs.drop 1 = r.take 4102 := by rw [hz]; rfl
   have hg := getI_take (show 10 ≤ 4102 by omega) r hbr
   by_cases her : (getI r).2.2 = 0
   ·obtain ⟨n, s, hgi, h1, h2, h3, h4, h5⟩ := getI_ok r hbr her
    have hgt : getI (r.take 4102) = ((n : Int), s, 0) := hg.trans hgi
    by_cases hl : 4096 < n
    ·have hT := getT_limit (most := 4096) hgt (by omega)
     have hp : takeP zs = ([], 1, 6) := by unfold takeP; rw [hk, hek, hd1, hT, tk_err (by simp)]
     rw [hp] at he ⊢
     rw [errS_stopped (by simp)] at he
     subst he
     exact ⟨by simp only; omega, by rw [getBody_limit hgi hl]; simp⟩
    ·have hs2 : s ≤ 2 := by
      have hle := (encI_length 1 n (by omega)).2
      rw [h4, List.length_take] at hle
      omega
     by_cases hs : r.length - s < n
     ·have hT := getT_short (most := 4096) hgt (by omega) (by simp; omega)
      have hp : takeP zs = ([], 1, 2) := by unfold takeP; rw [hk, hek, hd1, hT, tk_err (by simp)]
      rw [hp] at he ⊢
      rw [errS_stopped (by simp)] at he
      subst he
      exact ⟨by simp only; omega, by rw [getBody_short hgi (by omega) (by omega)]; simp⟩
     ·have hT := getT_ok (most := 4096) hgt (by omega) (by simp; omega)
      have hp : takeP zs = (((r.take 4102).drop s).take n, 1 + (s + n), 0) := by unfold takeP; rw [hk, hek, hd1, hT, tk_ok (by rfl)]
      have hpay : ((r.take 4102).drop s).take n = (r.drop s).take n := by
       rw [List.drop_take, List.take_take, Nat.min_eq_left (by omega)]
      rw [hp, hpay] at he ⊢
      simp only at he ⊢
      have hbody : (k :: r).take (1 + (s + n)) = k :: r.take (s + n) := by rw [Nat.add_comm 1, List.take_succ_cons]
      rw [hbody] at he
      by_cases h4r : r.length < s + n + 4
      ·have hend : zs.length < 1 + (s + n) + 4 := by omega
       have hE := at4_end hend (by omega)
       have he2 : e = 2 := by
        rw [he]
        unfold errS
        rw [hE]
        split <;> rfl
       subst he2
       exact ⟨by omega, by rw [getBody_short hgi (by omega) h4r]; simp⟩
      ·have hA := at4_ok (zs := zs) (p := 1 + (s + n)) 4 (by omega)
       have hF := four_ok (zs := zs) (p := 1 + (s + n)) (by omega)
       have hdz : (zs.drop (1 + (s + n))).take 4 = (r.drop (s + n)).take 4 := by
        rw [hz, Nat.add_comm 1, List.drop_succ_cons, List.drop_take, List.take_take, Nat.min_eq_left (by omega)]
       rw [hdz] at hF
       unfold errS at he
       rw [hF, hA] at he
       rw [hA]
       by_cases hq : (r.drop (s + n)).take 4 = le4 (sumX (k :: r.take (s + n)))
       ·rw [if_pos hq] at he
        subst he
        refine ⟨by omega, ?_⟩
        rw [getBody_ok hgi (by omega) h4r hq, if_neg (by simp), hk]
        simp only [Prod.mk.injEq, true_and, and_true]
        omega
       ·rw [if_neg hq] at he
        simp only [stopI] at he
        subst he
        exact ⟨by omega, by rw [getBody_sum hgi (by omega) h4r hq]; simp⟩
   ·have hT := getT_err (most := 4096) (xs := r.take 4102) (by rw [hg]) her
    have hp : takeP zs = ([], 1, (getI r).2.2) := by unfold takeP; rw [hk, hek, hd1, hT]; exact tk_err (r := (([] : List Int), 0, (getI r).2.2)) her
    rw [hp] at he ⊢
    rw [errS_stopped her] at he
    subst he
    exact ⟨by simp only; omega, by rw [getBody_err rfl her, if_pos her]⟩
  ·have hek : errK zs = 4 := by unfold errK; rw [hk, if_neg hkk]; rfl
   have hp : takeP zs = ([], 1, 4) := by unfold takeP; rw [hk, hek, tk_stopped (by simp)]
   rw [hp] at he ⊢
   rw [errS_stopped (by simp)] at he
   subst he
   exact ⟨by simp only; omega, by rw [if_neg hkk]; simp⟩
theorem markI_short : ∀ (ms xs : List Int), xs.length < ms.length → (∀ j, j < xs.length → xs.getD j 0 = ms.getD j 0) → markI ms xs = 2
 | [], xs, h, _ => by simp at h
 | m :: ms, [], _, _ => rfl
 | m :: ms, x :: xs, h, hj => by
  simp only [markI]
  rw [if_pos (by simpa using hj 0 (by simp))]
  exact markI_short ms xs (by simpa using h) (fun j hjl => by simpa using hj (j + 1) (by simpa using hjl))
theorem markI_all : ∀ (ms xs : List Int), ms.length ≤ xs.length → (∀ j, j < ms.length → xs.getD j 0 = ms.getD j 0) → markI ms xs = 0
 | [], xs, _, _ => rfl
 | m :: ms, [], h, _ => by simp at h
 | m :: ms, x :: xs, h, hj => by
  simp only [markI]
  rw [if_pos (by simpa using hj 0 (by simp))]
  exact markI_all ms xs (by simpa using h) (fun j hjl => by simpa using hj (j + 1) (by simpa using hjl))
theorem markI_other : ∀ (ms xs : List Int) (k : Nat), k < ms.length → k < xs.length → (∀ j, j < k → xs.getD j 0 = ms.getD j 0) → xs.getD k 0 ≠ ms.getD k 0 → markI ms xs = 4
 | [], _, k, h, _, _, _ => by simp at h
 | m :: ms, [], k, _, h, _, _ => by simp at h
 | m :: ms, x :: xs, 0, _, _, _, hne => by
  simp only [markI]
  rw [if_neg (by simpa using hne)]
 | m :: ms, x :: xs, k + 1, h1, h2, hj, hne => by
  simp only [markI]
  rw [if_pos (by simpa using hj 0 (by omega))]
  exact markI_other ms xs k (by simpa using h1) (by simpa using h2) (fun j hjl => by simpa using hj (j + 1) (by omega)) (by simpa using hne)
theorem marked_any (A : Option Addr) (c : Nat) (xs : List Int) (w : World) (hrow : Row w w.heap.size (.slice A xs.length c) xs) (hb : ∀ x ∈ xs, 0 ≤ x ∧ x < 256) :
  Calls Tryz.prog 81 #[.slice A xs.length c] w fun e w' => e = .returned (.int .i64 (markI markL xs)) ∧ ∃ n, w' = w.drewN n := by
 obtain ⟨A', c', hv, hlc, hcm, _, hcells⟩ := hrow
 injection hv with h1 h2 h3
 subst h1 h3
 unfold maxLen at hcm
 have hsz : xs.length ≤ 9223372036854775807 := by omega
 obtain ⟨M, hM, hM1, hM2, hM3⟩ : ∃ M : Nat, min (xs.length : Int) 4 = M ∧ M ≤ xs.length ∧ M ≤ 4 ∧ (M = xs.length ∨ M = 4) := by
  by_cases h : xs.length ≤ 4
  ·exact ⟨xs.length, by omega, by omega, by omega, .inl rfl⟩
  ·exact ⟨4, by omega, by omega, by omega, .inr rfl⟩
 have HM3 := hid hM3; clear hM3
 have HC := hid hcells; clear hcells
 have HB := hid hb; clear hb
 go_enter Tryz.func81, Tryz.ntmps81
 go_wp2
 have HM := hid hM; clear hM
 go_loopw [7] (fun i wr => ∃ k n : Nat, k ≤ M ∧ i = .int .i64 k ∧ wr = w.drewN n ∧ Hid (∀ j, j < k → xs.getD j 0 = markL.getD j 0)) (fun i _ => M - (intOf i).toNat)
 case atStart => exact ⟨0, 0, Nat.zero_le _, rfl, rfl, hid (fun j h => absurd h (Nat.not_lt_zero _))⟩
 case round =>
  obtain ⟨k, n, hk, rfl, rfl, HJ⟩ := hrel
  by_cases hlt : k < M
  ·obtain ⟨b, o, rfl, _, hc⟩ := HC.out (by omega)
   have hck := hc k (by omega)
   clear hc
   have hin : xs.getD k 0 ∈ xs := by rw [List.getD, List.getElem?_eq_getElem (by omega)]; simp
   obtain ⟨y0, y1⟩ := HB.out _ hin
   clear hin
   obtain ⟨y, hy⟩ : ∃ y, xs.getD k 0 = y := ⟨_, rfl⟩
   rw [hy] at hck y0 y1
   have HY := hid hy; clear hy
   have i2 : k < xs.length := by omega
   obtain ⟨z, hz⟩ : ∃ z, markL.getD k 0 = z := ⟨_, rfl⟩
   by_cases he : y = z
   ·have hj2 : ∀ j, j < k + 1 → xs.getD j 0 = markL.getD j 0 := fun j hj => by
     rcases Nat.lt_or_ge j k with h | h
     ·exact HJ.out j h
     ·obtain rfl : j = k := by omega
      rw [HY.out, hz, he]
    have HJ2 := hid hj2; clear hj2 HJ
    rcases (by omega : k = 0 ∨ k = 1 ∨ k = 2 ∨ k = 3) with rfl | rfl | rfl | rfl
    ·have i1 : (0 : Int) < (xs.length : Int) := by omega
     have hzv : z = 199 := hz.symm
     subst hzv
     subst he
     rw [Nat.add_zero] at hck
     clear hz
     go_wp2_with fail
     go_quiet (fail)
     go_wp2_with fail
     exact ⟨⟨1, n + nq, by omega, rfl, rfl, HJ2⟩, by simp [intOf]; omega⟩
    ·have i1 : (1 : Int) < (xs.length : Int) := by omega
     have hzv : z = 84 := hz.symm
     subst hzv
     subst he
     skip
     clear hz
     go_wp2_with fail
     go_quiet (fail)
     go_wp2_with fail
     exact ⟨⟨2, n + nq, by omega, rfl, rfl, HJ2⟩, by simp [intOf]; omega⟩
    ·have i1 : (2 : Int) < (xs.length : Int) := by omega
     have hzv : z = 71 := hz.symm
     subst hzv
     subst he
     skip
     clear hz
     go_wp2_with fail
     go_quiet (fail)
     go_wp2_with fail
     exact ⟨⟨3, n + nq, by omega, rfl, rfl, HJ2⟩, by simp [intOf]; omega⟩
    ·have i1 : (3 : Int) < (xs.length : Int) := by omega
     have hzv : z = 1 := hz.symm
     subst hzv
     subst he
     skip
     clear hz
     go_wp2_with fail
     go_quiet (fail)
     go_wp2_with fail
     exact ⟨⟨4, n + nq, by omega, rfl, rfl, HJ2⟩, by simp [intOf]; omega⟩
   ·have hfin : markI markL xs = 4 := markI_other markL xs k (by simp [markL]; omega) i2 HJ.out (by rw [HY.out, hz]; exact he)
    have HF := hid hfin; clear hfin HJ
    rcases (by omega : k = 0 ∨ k = 1 ∨ k = 2 ∨ k = 3) with rfl | rfl | rfl | rfl
    ·have i1 : (0 : Int) < (xs.length : Int) := by omega
     have hzv : z = 199 := hz.symm
     subst hzv
     have hne : (y != 199) = true := bne_iff_ne.2 he
     have hne2 : (y == 199) = false := beq_eq_false_iff_ne.2 he
     rw [Nat.add_zero] at hck
     clear hz
     go_wp2_with fail
     go_quiet (fail)
     go_wp2_with fail
     ·go_ret
      exact ⟨by rw [HF.out]; rfl, n + nq, by simp⟩
     ·rename_i hx
      simp [bne] at hx
      exact absurd hx he
    ·have i1 : (1 : Int) < (xs.length : Int) := by omega
     have hzv : z = 84 := hz.symm
     subst hzv
     have hne : (y != 84) = true := bne_iff_ne.2 he
     have hne2 : (y == 84) = false := beq_eq_false_iff_ne.2 he
     skip
     clear hz
     go_wp2_with fail
     go_quiet (fail)
     go_wp2_with fail
     ·go_ret
      exact ⟨by rw [HF.out]; rfl, n + nq, by simp⟩
     ·rename_i hx
      simp [bne] at hx
      exact absurd hx he
    ·have i1 : (2 : Int) < (xs.length : Int) := by omega
     have hzv : z = 71 := hz.symm
     subst hzv
     have hne : (y != 71) = true := bne_iff_ne.2 he
     have hne2 : (y == 71) = false := beq_eq_false_iff_ne.2 he
     skip
     clear hz
     go_wp2_with fail
     go_quiet (fail)
     go_wp2_with fail
     ·go_ret
      exact ⟨by rw [HF.out]; rfl, n + nq, by simp⟩
     ·rename_i hx
      simp [bne] at hx
      exact absurd hx he
    ·have i1 : (3 : Int) < (xs.length : Int) := by omega
     have hzv : z = 1 := hz.symm
     subst hzv
     have hne : (y != 1) = true := bne_iff_ne.2 he
     have hne2 : (y == 1) = false := beq_eq_false_iff_ne.2 he
     skip
     clear hz
     go_wp2_with fail
     go_quiet (fail)
     go_wp2_with fail
     ·go_ret
      exact ⟨by rw [HF.out]; rfl, n + nq, by simp⟩
     ·rename_i hx
      simp [bne] at hx
      exact absurd hx he
  ·obtain rfl : k = M := by omega
   by_cases h4 : xs.length < 4
   ·have hfin : markI markL xs = 2 := markI_short markL xs (by simpa [markL] using h4) (fun j hj => HJ.out j (by rcases HM3.out with h | h <;> omega))
    have HF := hid hfin; clear hfin
    have h4i : (xs.length : Int) < 4 := by omega
    go_wp2_with fail
    go_ret
    exact ⟨by rw [HF.out]; rfl, _, rfl⟩
   ·have hfin : markI markL xs = 0 := markI_all markL xs (by simp [markL]; omega) (fun j hj => HJ.out j (by simp [markL] at hj; rcases HM3.out with h | h <;> omega))
    have HF := hid hfin; clear hfin
    have h4i : (4 : Int) ≤ (xs.length : Int) := by omega
    go_wp2_with fail
    go_ret
    exact ⟨by rw [HF.out]; rfl, _, rfl⟩
theorem run_neq_four (w : World) (a0 a1 a2 a3 b0 b1 b2 b3 : Int) :
  (binOp .neq 208 (.agg #[.int .u8 a0, .int .u8 a1, .int .u8 a2, .int .u8 a3]) (.agg #[.int .u8 b0, .int .u8 b1, .int .u8 b2, .int .u8 b3])).run Tryz.prog w = .ok (.bool (!(a0 == b0 && (a1 == b1 && (a2 == b2 && a3 == b3))))) w := by
 have he : ∀ (W : World) (x y : Int), (Op.equalIn 9999 5 (.int .u8 x) (.int .u8 y)).run Tryz.prog W = .ok (x == y) W := fun W x y => by
  rw [run_equalIn_int W 9998 5 .u8 .u8 x y Tryz.underlying5]
 have hp : ∀ (W : World) (cs : Array Value) (i : Nat) (v : Value), cs[i]? = some v → (part 5 cs i).run Tryz.prog W = .ok v W := fun W cs i v hv => by
  simp [part, isAgg, run_underlying Tryz.underlying5, hv]
 have hc : Tryz.prog.cellsOf 5 = 1 := by kernel_rfl
 obtain ⟨i0, hi, hz0, hz1, hz2⟩ := info_parts Tryz.infoU8
 rw [run_neq_struct, run_equalIn_array w 9999 _ _ Tryz.underlying208 hi, hc]
 simp only [List.range, List.range.loop, Op.eqItems, Sem.run_bind]
 rw [hp w _ _ _ (by rfl : (#[Value.int .u8 a0, .int .u8 a1, .int .u8 a2, .int .u8 a3])[0 * 1]? = some (.int .u8 a0))]
 simp [hp, he]
 cases h0 : (a0 == b0) <;> cases h1 : (a1 == b1) <;> cases h2 : (a2 == b2) <;> cases h3 : (a3 == b3) <;> simp_all
def FreshT (w : World) (xs : List Int) (e : Ending) (W' : World) : Prop :=
 ∃ g, e = .returned (.agg #[.pointer (some ⟨g, 0, none⟩)]) ∧ w.heap.size ≤ g ∧ Cur 159 W' w.heap.size g xs 0 0 ∧ Below w.heap.size w W'
theorem Cur.lower {T : TypeId} {w : World} {K K' g : Nat} {xs : List Int} {p : Nat} {e : Int} (h : Cur T w K g xs p e) (hk : K' ≤ K) : Cur T w K' g xs p e := by
 obtain ⟨A, c, h1, h2, h3⟩ := h
 exact ⟨A, c, h1, h2, fun a ha => Nat.le_trans hk (h3 a ha)⟩
theorem sizeI_most : sizeI 4096 = 4107 := by
 have h : (encI 4096).length = 2 := by rw [encI_great (by omega), encI_small (by omega)]; rfl
 rw [show (4096 : Int) = ((4096 : Nat) : Int) from rfl, sizeI_ok (by omega), h]
 rfl
theorem newt_any (A : Option Addr) (c : Nat) (xs : List Int) (hsm : xs.length ≤ 9223372036854775807) (w : World) (hrow : Row w w.heap.size (.slice A xs.length c) xs) :
  Calls Tryz.prog 82 #[.slice A xs.length c] w (FreshT w (xs.take 4103)) := by
 have HS := hid (fun W => fsize_any 4096 (by omega) (by omega) W)
 rw [sizeI_most] at HS
 obtain ⟨M, hM, hM1⟩ : ∃ M : Nat, min (xs.length : Int) 4103 = M ∧ M = min xs.length 4103 := ⟨_, by omega, rfl⟩
 have htk : xs.take 4103 = xs.take M := by
  rw [hM1]
  by_cases h : xs.length ≤ 4103
  ·rw [Nat.min_eq_left h, List.take_of_length_le h, List.take_length]
  ·rw [Nat.min_eq_right (by omega)]
 have hMl : M ≤ xs.length := by omega
 obtain ⟨hlc, hcm⟩ : xs.length ≤ c ∧ c ≤ 9223372036854775807 := by
  obtain ⟨_, _, hv, q1, q2, _⟩ := hrow
  injection hv with _ _ e3
  subst e3
  unfold maxLen at q2
  exact ⟨q1, by omega⟩
 have hrow2 := hrow.take hMl
 rw [htk]
 have hl2 : (xs.take M).length = M := by simp; omega
 have hcn := fun W (h : Row W W.heap.size (.slice A (xs.take M).length c) (xs.take M)) => new_any A c (xs.take M) (by omega) W h
 rw [hl2] at hrow2 hcn
 generalize xs.take M = zs at hrow2 hcn ⊢
 have i1 : (M : Int) ≤ (xs.length : Int) := by omega
 have i2 : (M : Int) ≤ (c : Int) := by omega
 have i0 : (0 : Int) ≤ (M : Int) := by omega
 have HR := hid hrow2
 have HN := hid hcn
 clear hrow hrow2 hcn htk hM1 hl2
 go_enter Tryz.func82, Tryz.ntmps82
 go_wp2_with fail
 refine (HS.out _).mono ?_
 rintro e w1 ⟨rfl, hb1⟩
 go_wp2_with fail
 have hz1 : w.heap.size + 1 ≤ w1.heap.size := by have := hb1.size; simpa using this
 have b1 : Below w.heap.size w w1 := ((Below.refl _ _).alloc (Nat.le_refl _) _).trans (hb1.mono (by simp))
 refine (HN.out w1 ((HR.out.below b1).more (by omega))).mono ?_
 rintro e w2 ⟨g, rfl, hg, hcur, hb2⟩
 have hc2 : w2.cell? ⟨w.heap.size, 0, none⟩ = some (.pointer none) := (hb2.cell (p := ⟨w.heap.size, 0, none⟩) (by simp only; omega)).trans ((hb1.cell (p := ⟨w.heap.size, 0, none⟩) (by simp)).trans (by simp [World.cell?_alloc_new]))
 have hf2 : w2.frozen? ⟨w.heap.size, 0, none⟩ = false := (hb2.frozen (p := ⟨w.heap.size, 0, none⟩) (by simp only; omega)).trans ((hb1.frozen (p := ⟨w.heap.size, 0, none⟩) (by simp)).trans (by simp [World.frozen?_alloc_new]))
 have hz2 := hb2.size
 have HC := hid hcur
 clear hb1 hcur
 go_wp2_with fail
 refine bodyPost_ret (v := .agg #[.pointer (some ⟨g, 0, none⟩)]) (by simp [results, Tryz.results82, go_sem, hc2]) rfl ⟨g, rfl, by omega, ?_, ?_⟩
 ·exact (HC.out.grown (grown_put _ _ _ _) (by left; omega) hg).lower (by omega)
 ·exact (b1.trans (hb2.mono (by omega))).setCell (p := ⟨w.heap.size, 0, none⟩) (Nat.le_refl _) _
theorem conv_new {P : Program} (w : World) (src dst e : TypeId) (hs : P.underlying src = some .string) (hd : P.underlying dst = some (.slice e)) (he : P.underlying e = some (.int .u8))
  (xs : List Int) (hb : ∀ x ∈ xs, 0 ≤ x ∧ x < 256) (hl : xs.length ≤ 9223372036854775807) :
  ∃ A c W', (convert src dst (.string (strOfNums xs))).run P w = .ok (.slice A xs.length c) W' ∧ Row W' W'.heap.size (.slice A xs.length c) xs ∧ Below w.heap.size w W' ∧ ∀ a, A = some a → w.heap.size ≤ a.block := by
 obtain ⟨A, c, W', h, h2, h3⟩ := conv_bytes (P := P) w src dst e hs hd he xs hb hl
 refine ⟨A, c, W', h, h2, h3, fun a ha => ?_⟩
 rw [Lib.run_convert_string_bytes (P := P) w src dst e (strOfNums xs) hs hd he] at h
 injection h with e1 _
 injection e1 with e3 _ _
 rw [ha] at e3
 injection e3 with e4
 rw [← e4]
 exact Nat.le_refl _
section
variable {K g : Nat} {xs : List Int} {p : Nat} {e : Int} {w : World}
theorem Cur.boxed (h : Cur 159 w K g xs p e) (hK : K ≤ g) (o : Obj) : Cur 159 (w.alloc o) K g xs p e := h.below ((Below.refl _ _).alloc (Nat.le_refl _) o) hK
theorem tk_at_le (z : Int) {n p : Nat} {e : Int} {ys : List Int} (hp : p ≤ n) (hl : ys.length = n - p) : (tk z p e (getB ys)).2.1 ≤ n :=
 (tk_never (n := n) hp (fun h => by have := (getB_fits ys).1 h; omega)).2.1
theorem kind_any (h : Cur 159 w K g xs 0 0) (hK : K ≤ g) (hb : ∀ x ∈ xs, 0 ≤ x ∧ x < 256) :
  Calls Tryz.prog 83 #[.agg #[.pointer (some ⟨g, 0, none⟩)]] w fun r w' => r = .returned (.int .i64 (takeK xs).1) ∧ Cur 159 w' K g xs (takeK xs).2.1 (errK xs) ∧ w.grownBy w' (some g) := by
 have hg := h.lt
 have HC := hid h
 have HB := hid (byte_any (h.boxed hK (.cells #[.pointer (some ⟨g, 0, none⟩)] 156)) (Nat.zero_le _) hK hb)
 rw [List.drop_zero] at HB
 have hk0 : 0 ≤ (takeK xs).1 ∧ (takeK xs).1 < 256 := by
  unfold takeK
  cases xs with
  | nil => decide
  | cons x r => rw [tk_ok (by rfl)]; exact hb x (by simp)
 clear h hb
 change Hid (Calls Tryz.prog _ _ _ (Took u8V _ K g xs (takeK xs))) at HB
 obtain ⟨k0, k1⟩ := hk0
 unfold errK
 generalize takeK xs = t at HB k0 k1 ⊢
 obtain ⟨k, q, er⟩ := t
 simp only at k0 k1 ⊢
 by_cases hk : k = 1 ∨ k = 2
 ·rw [if_pos hk]
  have HK := hid (fun W => known_yes hk W)
  clear hk
  go_enter Tryz.func83, Tryz.ntmps83
  go_wp2_with fail
  refine HB.out.mono ?_
  rintro r w1 ⟨rfl, hc1, hg1⟩
  simp only [u8V]
  have HC1 := hid hc1; clear hc1
  go_wp2_with fail
  refine (HK.out _).mono ?_
  rintro r w2 ⟨rfl, rfl⟩
  go_wp2_with fail
  go_ret
  exact ⟨rfl, HC1.out, grown_trans (grown_alloc _ _ _) hg1⟩
 ·rw [if_neg hk]
  have HK := hid (fun W => known_no hk W)
  clear hk
  go_enter Tryz.func83, Tryz.ntmps83
  go_wp2_with fail
  refine HB.out.mono ?_
  rintro r w1 ⟨rfl, hc1, hg1⟩
  simp only [u8V]
  have hbox : w1.cell? ⟨w.heap.size, 0, none⟩ = some (.pointer (some ⟨g, 0, none⟩)) := (World.cell?_of_block (hg1.block w.heap.size (by simp) (fun e => by injection e with e; omega))).trans (by simp [World.cell?_alloc_new])
  have HC1 := hid hc1; clear hc1
  go_wp2_with fail
  refine (HK.out _).mono ?_
  rintro r w2 ⟨rfl, rfl⟩
  have HST := hid (stop_any 4 HC1.out)
  go_wp2_with fail
  refine HST.out.mono ?_
  rintro r w3 ⟨rfl, hc3, hg3⟩
  have HC3 := hid hc3; clear hc3
  go_wp2_with fail
  go_ret
  exact ⟨rfl, HC3.out, grown_trans (grown_trans (grown_alloc _ _ _) hg1) hg3⟩
theorem payload_any (h : Cur 159 w K g xs p e) (hp : p ≤ xs.length) (hK : K ≤ g) (hb : ∀ x ∈ xs, 0 ≤ x ∧ x < 256) (hl : xs.length ≤ 100000000000) :
  Calls Tryz.prog 84 #[.agg #[.pointer (some ⟨g, 0, none⟩)]] w fun r w' => ∃ A c, r = .returned (.slice A (tk [] p e (getT 4096 (xs.drop p))).1.length c) ∧ Row w' w'.heap.size (.slice A (tk [] p e (getT 4096 (xs.drop p))).1.length c) (tk [] p e (getT 4096 (xs.drop p))).1 ∧
   Cur 159 w' K g xs (tk [] p e (getT 4096 (xs.drop p))).2.1 (tk [] p e (getT 4096 (xs.drop p))).2.2 ∧ w.grownBy w' (some g) ∧ ∀ a, A = some a → w.heap.size ≤ a.block := by
 have hg := h.lt
 have HB := hid (text_any 4096 (by omega) (by omega) (h.boxed hK (.cells #[.pointer (some ⟨g, 0, none⟩)] 156)) hp hK hb)
 have hbt : (∀ x ∈ (tk [] p e (getT 4096 (xs.drop p))).1, 0 ≤ x ∧ x < 256) ∧ (tk [] p e (getT 4096 (xs.drop p))).1.length ≤ 100000000000 := by
  have hs := getT_size (most := 4096) (xs.drop p) (drop_bytes hb p)
  unfold tk
  split
  ·simp
  ·split
   ·simp
   ·exact ⟨hs.2.2, by show (getT 4096 (xs.drop p)).1.length ≤ _; have := hs.2.1; rw [List.length_drop] at this; omega⟩
 clear h hb
 generalize tk [] p e (getT 4096 (xs.drop p)) = t at HB hbt ⊢
 obtain ⟨s, q, er⟩ := t
 simp only at hbt ⊢
 obtain ⟨hbs, hls⟩ := hbt
 have HBS := hid hbs; clear hbs
 go_enter Tryz.func84, Tryz.ntmps84
 go_wp2_with fail
 refine HB.out.mono ?_
 rintro r w1 ⟨rfl, hc1, hg1⟩
 simp only [txtV]
 obtain ⟨A3, c3, w3, hcv3, hrow3, hb3, hn3⟩ := conv_new (P := Tryz.prog) w1 9 22 5 Tryz.underlying9 Tryz.underlying22 Tryz.underlying5 s HBS.out (by omega)
 have HR3 := hid hrow3
 have HN3 := hid (fun a e => Nat.le_trans (Nat.le_trans (by simp : w.heap.size ≤ (w.alloc (.cells #[.pointer (some ⟨g, 0, none⟩)] 156)).heap.size) hg1.size) (hn3 a e)); clear hn3
 have HC1 := hid hc1; clear hc1 hrow3
 go_wp2_with fail
 go_ret
 exact ⟨A3, c3, rfl, HR3.out, HC1.out.below hb3 hK, grown_trans (grown_trans (grown_alloc _ _ _) hg1) (grown_below hb3 _), HN3.out⟩
end
def cells4 (zs : List Int) (p : Nat) (e : Int) (j : Nat) : Array Value :=
 #[.int .u8 (if 0 < j then four zs p e 0 else 0), .int .u8 (if 1 < j then four zs p e 1 else 0), .int .u8 (if 2 < j then four zs p e 2 else 0), .int .u8 (if 3 < j then four zs p e 3 else 0)]
theorem at4_le {zs : List Int} {p : Nat} {e : Int} (hp : p ≤ zs.length) : ∀ j, (at4 zs p e j).1 ≤ zs.length
 | 0 => hp
 | j + 1 => tk_at_le 0 (at4_le hp j) (by rw [List.length_drop])
theorem tsum_any {K g : Nat} {zs : List Int} {p : Nat} {e : Int} {w : World} (h : Cur 159 w K g zs p e) (hp : p ≤ zs.length) (hK : K ≤ g) (hb : ∀ x ∈ zs, 0 ≤ x ∧ x < 256)
  (A : Option Addr) (c : Nat) (body : List Int) (hrow : Row w K (.slice A body.length c) body) (hbb : ∀ x ∈ body, 0 ≤ x ∧ x < 256) :
  Calls Tryz.prog 85 #[.agg #[.pointer (some ⟨g, 0, none⟩)], .slice A body.length c] w fun r w' => r = .returned (.tuple #[]) ∧ Cur 159 w' K g zs (at4 zs p e 4).1 (errS zs p e body) ∧ w.grownBy w' (some g) := by
 have hg := h.lt
 have HC := hid h
 have HZB := hid hb
 have HBB := hid hbb
 have HROW := hid hrow
 clear h hb hbb hrow
 go_enter Tryz.func85, Tryz.ntmps85
 go_wp2_with fail
 go_loopw [6] (fun i wr => ∃ j : Nat, j ≤ 4 ∧ i = .int .i64 j ∧ Hid (Cur 159 wr K g zs (at4 zs p e j).1 (at4 zs p e j).2) ∧ Hid (Held wr w.heap.size 156 #[.pointer (some ⟨g, 0, none⟩)]) ∧ Hid (Held wr (w.heap.size + 1) 208 (cells4 zs p e j)) ∧ Hid (w.grownBy wr (some g))) (fun i _ => 4 - (intOf i).toNat)
 case atStart =>
  refine ⟨0, by omega, rfl, hid ?_, hid ?_, hid ?_, hid ?_⟩
  ·exact (HC.out.boxed hK _).boxed hK _
  ·exact Below.heap_alloc (w.alloc _) _ w.heap.size (by simp) |>.trans (heap_alloc_new w _)
  ·have := heap_alloc_new (w.alloc (.cells #[.pointer (some ⟨g, 0, none⟩)] 156)) (.cells #[.int .u8 0, .int .u8 0, .int .u8 0, .int .u8 0] 208)
   rw [World.size_alloc] at this
   exact this
  ·exact grown_trans (grown_alloc _ _ _) (grown_alloc _ _ _)
 case round =>
  obtain ⟨j, hj, rfl, HCR, HBX, HAR, HGR⟩ := hrel
  by_cases hlt : j < 4
  ·have hbox := HBX.out.cell 0
   have hle := at4_le (zs := zs) (e := e) hp j
   have HBY := hid (byte_any HCR.out hle hK HZB.out)
   change Hid (Calls Tryz.prog _ _ _ (Took u8V _ K g zs (takeB zs (at4 zs p e j).1 (at4 zs p e j).2))) at HBY
   have hnext : at4 zs p e (j + 1) = (takeB zs (at4 zs p e j).1 (at4 zs p e j).2).2 := rfl
   have hf : four zs p e j = (takeB zs (at4 zs p e j).1 (at4 zs p e j).2).1 := rfl
   generalize takeB zs (at4 zs p e j).1 (at4 zs p e j).2 = t at HBY hnext hf
   obtain ⟨y, q2, e2⟩ := t
   simp only at hf
   have HNX := hid hnext
   have HF := hid hf
   clear hnext hf hle
   have j0 : (0 : Int) ≤ (j : Int) := by omega
   have j1 : (j : Int) < 4 := by omega
   go_wp2_with fail
   refine HBY.out.mono ?_
   rintro r w1 ⟨rfl, hc1, hg1⟩
   simp only [u8V]
   have har := HAR.out.grown hg1 (fun e => by injection e with e; omega)
   have hbx := HBX.out.grown hg1 (fun e => by injection e with e; omega)
   have hcell := har.cell j
   rw [show (cells4 zs p e j)[j]? = some ((cells4 zs p e j)[j]'(by simp [cells4]; omega)) from Array.getElem?_eq_getElem _] at hcell
   generalize (cells4 zs p e j)[j]'(by simp [cells4]; omega) = u0 at hcell
   have hfz := har.frozen j
   have hupd : (cells4 zs p e j).setIfInBounds j (.int .u8 y) = cells4 zs p e (j + 1) := by
    rw [← HF.out]
    rcases (by omega : j = 0 ∨ j = 1 ∨ j = 2 ∨ j = 3) with rfl | rfl | rfl | rfl <;> rfl
   have hput := har.put j (.int .u8 y)
   rw [hupd] at hput
   have HPUT := hid hput
   have HBX1 := hid hbx
   have HC1 := hid hc1
   have HG1 := hid (grown_trans HGR.out hg1)
   clear hput hbx hc1 hg1 har hupd
   go_wp2_with fail
   go_roundw
   case rel =>
    refine ⟨j + 1, by omega, by go_num, hid ?_, hid ?_, HPUT, hid ?_⟩
    ·rw [HNX.out]
     exact HC1.out.grown (grown_put _ _ _ _) (by right; omega) hK
    ·exact HBX1.out.grown (grown_put _ _ _ _) (fun e => by injection e with e; omega)
    ·exact ⟨HG1.out.os, HG1.out.tape, HG1.out.output, by simpa using HG1.out.size, fun k hk hn => (Below.heap_setCell w1 ⟨w.heap.size + 1, j, none⟩ _ k (by simp only; omega)).trans (HG1.out.block k hk hn)⟩
   case measure => simp [intOf]; omega
  ·obtain rfl : j = 4 := by omega
   have hrw : Row wr K (.slice A body.length c) body := HROW.out.keep (fun q hq => World.cell?_of_block (HGR.out.block q.block (by omega) (fun e => by injection e with e; omega)))
   have hs1 := fun W v h => sum_any v [body] W h (by intro l hl; simp at hl; subst hl; exact HBB.out)
   rw [show [body].flatten = body by simp] at hs1
   have hsl := sumX_lt HBB.out
   have HS1 := hid hs1
   have HF4 := hid (fun W => four_any (sumX body) hsl W)
   simp only [le4V] at HF4
   obtain ⟨hc0, hc1, hc2, hc3⟩ := cC4 HAR.out
   simp [cells4] at hc0 hc1 hc2 hc3
   have hlt2 := HBX.out.lt
   have hlt3 := HAR.out.lt
   have hgl := HGR.out.size
   have HRW := hid hrw
   clear hrw hs1
   have hne := fun W => run_neq_four W (four zs p e 0) (four zs p e 1) (four zs p e 2) (four zs p e 3) ((sumX body : Int) % 256) ((sumX body : Int) / 256 % 256) ((sumX body : Int) / 65536 % 256) ((sumX body : Int) / 16777216)
   by_cases hq : fourL zs p e = le4 (sumX body)
   ·have hbq : (four zs p e 0 == (sumX body : Int) % 256 && (four zs p e 1 == (sumX body : Int) / 256 % 256 && (four zs p e 2 == (sumX body : Int) / 65536 % 256 && four zs p e 3 == (sumX body : Int) / 16777216))) = true := by
     simp only [fourL, le4, List.cons.injEq, and_true] at hq
     simp only [Bool.and_eq_true, beq_iff_eq]
     exact hq
    have hfin : errS zs p e body = (at4 zs p e 4).2 := by unfold errS; rw [if_pos hq]
    simp only [hbq, Bool.not_true] at hne
    have HFIN := hid hfin
    clear hfin hbq hq
    generalize four zs p e 0 = f0 at hc0 hne
    generalize four zs p e 1 = f1 at hc1 hne
    generalize four zs p e 2 = f2 at hc2 hne
    generalize four zs p e 3 = f3 at hc3 hne
    generalize sumX body = sb at hne HS1 HF4 hsl
    go_wp2_with fail
    go_region_held3 (fun W => W.cell? ⟨w.heap.size + 1, 0, none⟩ = some (.int .u8 f0) ∧ W.cell? ⟨w.heap.size + 1, 1, none⟩ = some (.int .u8 f1) ∧ W.cell? ⟨w.heap.size + 1, 2, none⟩ = some (.int .u8 f2) ∧ W.cell? ⟨w.heap.size + 1, 3, none⟩ = some (.int .u8 f3))
     (first | go_keep | exact ⟨(b6.cell (p := ⟨w.heap.size + 1, 0, none⟩) hlt3).trans hc0, (b6.cell (p := ⟨w.heap.size + 1, 1, none⟩) hlt3).trans hc1, (b6.cell (p := ⟨w.heap.size + 1, 2, none⟩) hlt3).trans hc2, (b6.cell (p := ⟨w.heap.size + 1, 3, none⟩) hlt3).trans hc3⟩)
     (first
      | (go_at_call 125; (with_reducible refine (HS1.out _ _ (Parts.one (by simp) (by simp [World.cell?_alloc_new]) ((HRW.out.below ((Below.refl _ _).alloc (by omega) _).drew).more (by simp; omega)))).mono ?_); rintro r w5 ⟨rfl, rfl⟩)
      | (go_at_call 124; (with_reducible refine (HF4.out _).mono ?_); rintro r w6 ⟨rfl, hb6⟩; have b6 : Below wr.heap.size wr w6 := ((Below.refl _ _).alloc (Nat.le_refl _) _).drew.trans (hb6.mono (by simp))))
    go_wp2_with fail
    go_end0
    exact ⟨rfl, by rw [HFIN.out]; exact HCR.out.below b6 hK, grown_trans HGR.out (grown_below b6 _)⟩
   ·have hbq : (four zs p e 0 == (sumX body : Int) % 256 && (four zs p e 1 == (sumX body : Int) / 256 % 256 && (four zs p e 2 == (sumX body : Int) / 65536 % 256 && four zs p e 3 == (sumX body : Int) / 16777216))) = false := by
     rw [Bool.eq_false_iff]
     intro hh
     simp only [Bool.and_eq_true, beq_iff_eq] at hh
     exact hq (by simp only [fourL, le4, List.cons.injEq, and_true]; exact hh)
    have hfin : errS zs p e body = stopI (at4 zs p e 4).2 5 := by unfold errS; rw [if_neg hq]
    simp only [hbq, Bool.not_false] at hne
    have HFIN := hid hfin
    clear hfin hbq hq
    generalize four zs p e 0 = f0 at hc0 hne
    generalize four zs p e 1 = f1 at hc1 hne
    generalize four zs p e 2 = f2 at hc2 hne
    generalize four zs p e 3 = f3 at hc3 hne
    generalize sumX body = sb at hne HS1 HF4 hsl
    go_wp2_with fail
    go_region_held3 (fun W => W.cell? ⟨w.heap.size + 1, 0, none⟩ = some (.int .u8 f0) ∧ W.cell? ⟨w.heap.size + 1, 1, none⟩ = some (.int .u8 f1) ∧ W.cell? ⟨w.heap.size + 1, 2, none⟩ = some (.int .u8 f2) ∧ W.cell? ⟨w.heap.size + 1, 3, none⟩ = some (.int .u8 f3))
     (first | go_keep | exact ⟨(b6.cell (p := ⟨w.heap.size + 1, 0, none⟩) hlt3).trans hc0, (b6.cell (p := ⟨w.heap.size + 1, 1, none⟩) hlt3).trans hc1, (b6.cell (p := ⟨w.heap.size + 1, 2, none⟩) hlt3).trans hc2, (b6.cell (p := ⟨w.heap.size + 1, 3, none⟩) hlt3).trans hc3⟩)
     (first
      | (go_at_call 125; (with_reducible refine (HS1.out _ _ (Parts.one (by simp) (by simp [World.cell?_alloc_new]) ((HRW.out.below ((Below.refl _ _).alloc (by omega) _).drew).more (by simp; omega)))).mono ?_); rintro r w5 ⟨rfl, rfl⟩)
      | (go_at_call 124; (with_reducible refine (HF4.out _).mono ?_); rintro r w6 ⟨rfl, hb6⟩; have b6 : Below wr.heap.size wr w6 := ((Below.refl _ _).alloc (Nat.le_refl _) _).drew.trans (hb6.mono (by simp))))
    have hbox : w6.cell? ⟨w.heap.size, 0, none⟩ = some (.pointer (some ⟨g, 0, none⟩)) := (b6.cell (p := ⟨w.heap.size, 0, none⟩) hlt2).trans (HBX.out.cell 0)
    have HST := hid (stop_any 5 (HCR.out.below b6 hK))
    have HB6 := hid b6
    clear b6 hb6
    go_wp2_with fail
    refine HST.out.mono ?_
    rintro r w7 ⟨rfl, hc7, hg7⟩
    have HC7 := hid hc7; clear hc7
    go_wp2_with fail
    go_end0
    exact ⟨rfl, by rw [HFIN.out]; exact HC7.out, grown_trans HGR.out (grown_trans (grown_below HB6.out _) hg7)⟩
section
variable {K g : Nat} {xs : List Int} {p : Nat} {e : Int} {w : World}
theorem at_any (h : Cur 159 w K g xs p e) :
  Calls Tryz.prog 86 #[.pointer (some ⟨g, 0, none⟩)] w fun r w' => r = .returned (.int .i64 p) ∧ w = w' := by
 obtain ⟨A, c, c0, c1, c2, f1, f2, hr, _, _⟩ := h.cells
 clear h hr
 go_enter Tryz.func86, Tryz.ntmps86
 go_wp2_with fail
 go_ret
 exact ⟨rfl, rfl⟩
end
def FGot (w : World) (t : (Int × List Int) × Nat × Int) (r : Ending) (w' : World) : Prop :=
 ∃ A c, r = .returned (.tuple #[.agg #[.int .i64 t.1.1, .slice A t.1.2.length c], .int .i64 t.2.1, .int .i64 t.2.2]) ∧ Row w' w'.heap.size (.slice A t.1.2.length c) t.1.2 ∧ Below w.heap.size w w'
def FNew (w : World) (t : (Int × List Int) × Nat × Int) (r : Ending) (w' : World) : Prop :=
 ∃ A c, r = .returned (.tuple #[.agg #[.int .i64 t.1.1, .slice A t.1.2.length c], .int .i64 t.2.1, .int .i64 t.2.2]) ∧ Row w' w'.heap.size (.slice A t.1.2.length c) t.1.2 ∧ Below w.heap.size w w' ∧ ∀ a, A = some a → w.heap.size ≤ a.block
theorem FNew.got {w w' : World} {t : (Int × List Int) × Nat × Int} {r : Ending} (h : FNew w t r w') : FGot w t r w' := by
 obtain ⟨A, c, h1, h2, h3, _⟩ := h
 exact ⟨A, c, h1, h2, h3⟩
theorem drewN_size (w : World) (n : Nat) : (w.drewN n).heap.size = w.heap.size := rfl
theorem drewN_below (w : World) (n : Nat) : Below w.heap.size w (w.drewN n) := below_drewN (Below.refl _ _) n
theorem Row.keep_but {w w' : World} {B g : Nat} {v : Value} {xs : List Int} (h : Row w B v xs) (hk : ∀ k, k < B → k ≠ g → w'.heap[k]? = w.heap[k]?) (ha : ∀ (i : Nat) (n : Int), w.cell? ⟨g, i, none⟩ ≠ some (.int .u8 n)) : Row w' B v xs := by
 obtain ⟨A, c, hv, h1, h2, h3, h4⟩ := h
 refine ⟨A, c, hv, h1, h2, h3, fun hn => ?_⟩
 obtain ⟨b, o, e, hb, hc⟩ := h4 hn
 refine ⟨b, o, e, hb, fun i hi => ?_⟩
 have hne : b ≠ g := fun e => by
  subst e
  exact ha _ _ (hc 0 hn)
 exact (World.cell?_of_block (hk b hb hne)).trans (hc i hi)
theorem Cur.no_byte {T : TypeId} {w : World} {K g : Nat} {xs : List Int} {p : Nat} {e : Int} (h : Cur T w K g xs p e) (i : Nat) (n : Int) : w.cell? ⟨g, i, none⟩ ≠ some (.int .u8 n) := by
 obtain ⟨A, c, h1, _⟩ := h
 rw [h1.cell i]
 match i with
 | 0 => simp
 | 1 => simp
 | 2 => simp
 | i + 3 => simp
theorem Cur.drew1 {T : TypeId} {w : World} {K g : Nat} {xs : List Int} {p : Nat} {e : Int} (h : Cur T w K g xs p e) : Cur T w.drew K g xs p e := h
theorem Row.drew1 {w : World} {B : Nat} {v : Value} {xs : List Int} (h : Row w B v xs) : Row w.drew B v xs := h
theorem fget_new (A : Option Addr) (c : Nat) (xs : List Int) (hsm : xs.length ≤ 9223372036854775807) (w : World) (hrow : Row w w.heap.size (.slice A xs.length c) xs) (hb : ∀ x ∈ xs, 0 ≤ x ∧ x < 256) :
  Calls Tryz.prog 53 #[.slice A xs.length c] w (FNew w (getFr xs)) := by
 have HROW := hid hrow; clear hrow
 have HB := hid hb; clear hb
 have hmk := fun W (h : Row W W.heap.size (.slice A xs.length c) xs) => marked_any A c xs W h HB.out
 by_cases hm : markI markL xs = 0
 ·rw [hm] at hmk
  have HMK := hid hmk; clear hmk
  have hx := markI_back hm
  have hbr : ∀ x ∈ xs.drop 4, 0 ≤ x ∧ x < 256 := drop_bytes HB.out 4
  have hl4 : 4 ≤ xs.length := by rw [hx]; simp [markL]
  have hcs : xs.length ≤ c ∧ c ≤ 9223372036854775807 := by
   obtain ⟨_, _, hv, q1, q2, _⟩ := HROW.out
   injection hv with _ _ e3
   subst e3
   unfold maxLen at q2
   exact ⟨q1, by omega⟩
  obtain ⟨hlc, hcm⟩ := hcs
  have hrr := HROW.out.drop hl4
  have hrl : (xs.drop 4).length = xs.length - 4 := by simp
  obtain ⟨hpl, hget⟩ := taken (xs.drop 4) hbr ((xs.drop 4).take 4103) rfl _ rfl
  rw [← hx] at hget
  have hzb : ∀ x ∈ (xs.drop 4).take 4103, 0 ≤ x ∧ x < 256 := fun x hx => hbr x (List.mem_of_mem_take hx)
  have hzl : ((xs.drop 4).take 4103).length ≤ xs.length - 4 := by simp; omega
  have hzm : ((xs.drop 4).take 4103).length ≤ 4103 := by simp only [List.length_take]; omega
  have hnt := fun W A c (h : Row W W.heap.size (.slice A (xs.drop 4).length c) (xs.drop 4)) => newt_any A c (xs.drop 4) (by omega) W h
  rw [hrl] at hrr hnt
  have HGET := hid hget; clear hget hx hm
  have HRR := hid hrr; clear hrr
  have HNT := hid hnt; clear hnt
  have HBR := hid hbr; clear hbr
  have HRL := hid hrl; clear hrl
  have HZB := hid hzb; clear hzb
  generalize (xs.drop 4).take 4103 = zs at HGET HNT HZB hpl hzl hzm
  have i4 : (4 : Int) ≤ (xs.length : Int) := by omega
  have i5 : (xs.length : Int) ≤ (c : Int) := by omega
  obtain ⟨b, o, rfl⟩ : ∃ b o, A = some ⟨b, o, none⟩ := by
   obtain ⟨_, _, hv, _, _, _, h4⟩ := HROW.out
   injection hv with e1 _ e3
   obtain ⟨b, o, e2, _⟩ := h4 (by omega)
   exact ⟨b, o, e1.trans e2⟩
  by_cases hc4 : c = 4
  ·subst hc4
   have hx4 : xs.length = 4 := by omega
   have hr3 := HRR.out
   simp only [if_true, hx4, Nat.sub_self] at hr3
   simp only [hx4, Nat.sub_self] at HRL HNT hzl
   have HR3 := hid hr3
   clear HRR hr3 hx4
   go_enter Tryz.func53, Tryz.ntmps53
   go_wp2_with fail
   refine (HMK.out _ ((HROW.out.below ((Below.refl _ _).alloc (Nat.le_refl _) _)).more (by simp))).mono ?_
   rintro e w1' ⟨rfl, n1, rfl⟩
   go_wp2_with fail
   refine (HNT.out _ _ _ ((HR3.out.below ((((Below.refl _ _).alloc (Nat.le_refl _) _)).trans ((drewN_below _ _).mono (by simp)))).more (by simp))).mono ?_
   rintro e w2 ⟨g, rfl, hg, hcur, hb2⟩
   have hgl := hcur.lt
   rw [drewN_size, World.size_alloc] at hg hcur hb2
   have hz2 := hb2.size
   have hz2' : w.heap.size + 1 ≤ w2.heap.size := by simpa using hz2
   have bw2 : Below w.heap.size w w2 := (((Below.refl _ _).alloc (Nat.le_refl _) _).trans ((drewN_below _ _).mono (by simp))).trans (hb2.mono (by simp))
   have hres : Held w2 w.heap.size 44 #[.int .i64 0, .slice none 0 0] := (hb2.block w.heap.size (by simp)).trans (heap_alloc_new w _)
   obtain ⟨N1, hN1⟩ : ∃ N1, w2.heap.size = N1 := ⟨_, rfl⟩
   obtain ⟨N0, hN0⟩ : ∃ N0, w.heap.size = N0 := ⟨_, rfl⟩
   have hcur3 := hcur.boxed (by omega) (.cells #[.pointer (some ⟨g, 0, none⟩)] 156)
   have ht3 : Held (w2.alloc (.cells #[.pointer (some ⟨g, 0, none⟩)] 156)) N1 156 #[.pointer (some ⟨g, 0, none⟩)] := by rw [← hN1]; exact heap_alloc_new w2 _
   have hres3 : Held (w2.alloc (.cells #[.pointer (some ⟨g, 0, none⟩)] 156)) N0 44 #[.int .i64 0, .slice none 0 0] := by rw [← hN0]; exact hres.below ((Below.refl _ _).alloc (Nat.le_refl _) _) (by omega)
   have bw3 : Below w.heap.size w (w2.alloc (.cells #[.pointer (some ⟨g, 0, none⟩)] 156)) := bw2.alloc (by omega) _
   rw [hN0] at hcur3 hg hz2'
   rw [hN1] at hgl hz2'
   have HC3 := hid hcur3
   have HT3 := hid ht3
   have HRES3 := hid hres3
   have HBW3 := hid bw3
   have HN1 := hid hN1
   have HN0 := hid hN0
   clear hb2 hz2 hcur bw2 hres hcur3 ht3 hres3 bw3
   try simp only [hN0]
   go_wp2_with fail
   try simp only [hN1]
   clear hN0 hN1
   obtain ⟨w3, hw3⟩ : ∃ w3, w2.alloc (.cells #[.pointer (some ⟨g, 0, none⟩)] 156) = w3 := ⟨_, rfl⟩
   rw [hw3] at HC3 HT3 HRES3 HBW3 ⊢
   have hN1lt : N1 < w3.heap.size := HT3.out.lt
   clear hw3
   have HK := hid (kind_any HC3.out (by omega) HZB.out)
   refine HK.out.mono ?_
   rintro r w4 ⟨rfl, hc4', hg4⟩
   have HT4 := hid (HT3.out.grown hg4 (fun e => by injection e with e; omega))
   have HRES4 := hid (HRES3.out.grown hg4 (fun e => by injection e with e; omega))
   have hkp : (takeK zs).2.1 ≤ zs.length := tk_at_le 0 (Nat.zero_le _) (by simp)
   have HP := payload_any hc4' hkp (by omega) HZB.out (by omega)
   change Calls Tryz.prog _ _ _ (fun r w' => ∃ A c, r = .returned (.slice A (takeP zs).1.length c) ∧ Row w' w'.heap.size (.slice A (takeP zs).1.length c) (takeP zs).1 ∧ Cur 159 w' (N0 + 1) g zs (takeP zs).2.1 (takeP zs).2.2 ∧ w4.grownBy w' (some g) ∧ ∀ a, A = some a → w4.heap.size ≤ a.block) at HP
   have HP2 := hid HP
   have HG4 := hid hg4
   have ht4 := HT4.out.cell 0
   simp at ht4
   clear HP hc4' hg4 hkp
   go_wp2_with fail
   refine HP2.out.mono ?_
   rintro r w5 ⟨A5, c5, rfl, hr5, hc5, hg5, hn5⟩
   have HN5 := hid (fun a e => Nat.le_trans (Nat.le_trans HBW3.out.size HG4.out.size) (hn5 a e)); clear hn5
   have HT5 := hid (HT4.out.grown hg5 (fun e => by injection e with e; omega))
   have HRES5 := hid (HRES4.out.grown hg5 (fun e => by injection e with e; omega))
   have hlt5 := HT5.out.lt
   have ht5 := HT5.out.cell 0
   simp at ht5
   have HR5 := hid hr5
   have HC5 := hid hc5
   have HG5 := hid (grown_trans HG4.out hg5)
   clear ht4 hr5 hc5 hg5
   have hrb := HR3.out.take (k := (takeP zs).2.1) (by rw [HRL.out]; omega)
   have hbl : ((xs.drop 4).take (takeP zs).2.1).length = (takeP zs).2.1 := by rw [List.length_take, HRL.out]; omega
   have hbb : ∀ x ∈ (xs.drop 4).take (takeP zs).2.1, 0 ≤ x ∧ x < 256 := fun x hx => HBR.out x (List.mem_of_mem_take hx)
   have hrb5 : Row w5 (N0 + 1) (.slice (some ⟨b, o, none⟩) ((xs.drop 4).take (takeP zs).2.1).length (0)) ((xs.drop 4).take (takeP zs).2.1) := by
    refine Row.more (B := w.heap.size) (Row.keep (hrb.below (HBW3.out)) (fun q hq => World.cell?_of_block (HG5.out.block q.block ?_ (fun e => ?_)))) ?_
    ·have := HBW3.out.size; omega
    ·injection e with e; have := HN0.out; omega
    ·have := HN0.out; omega
   have hsum := fun W h1 h2 => tsum_any (w := W) (K := N0 + 1) (g := g) (zs := zs) (p := (takeP zs).2.1) (e := (takeP zs).2.2) h1 hpl (by omega) HZB.out (some ⟨b, o, none⟩) (0) ((xs.drop 4).take (takeP zs).2.1) h2 hbb
   rw [hbl] at hsum hrb5
   generalize errS zs (takeP zs).2.1 (takeP zs).2.2 ((xs.drop 4).take (takeP zs).2.1) = er at HGET hsum
   generalize (xs.drop 4).take (takeP zs).2.1 = body at hsum hrb5
   have hqa := at4_le (zs := zs) (e := (takeP zs).2.2) hpl 4
   generalize (at4 zs (takeP zs).2.1 (takeP zs).2.2 4).1 = qa at HGET hsum hqa
   generalize (takeK zs).1 = kk at HGET ⊢
   generalize takeP zs = tp at HGET HR5 HC5 hsum hrb5 hpl ⊢
   obtain ⟨pp, q, e2⟩ := tp
   simp only at hpl hsum hrb5
   obtain rfl : q = 0 := by omega
   have HRB5 := hid hrb5
   have HSUM := hid hsum
   clear hrb hbl hbb hrb5 hsum
   simp only
   go_wp2_with fail
   go_region_held3 (fun W => W.cell? ⟨N1, 0, none⟩ = some (.pointer (some ⟨g, 0, none⟩)))
    (first | go_keep | exact (World.cell?_of_block (hg6.block N1 (by simpa using hlt5) (fun e => by injection e with e; omega))).trans ht5)
    (first
     | (go_at_call 86; (with_reducible refine (at_any (w := _) (Cur.drew1 HC5.out)).mono ?_); rintro r w6 ⟨rfl, rfl⟩)
     | (go_at_call 85; (with_reducible refine (HSUM.out _ (Cur.drew1 HC5.out) (Row.drew1 HRB5.out)).mono ?_); rintro r w6 ⟨rfl, hc6, hg6⟩))
   have hg6' : w5.grownBy w6 (some g) := grown_drew hg6
   have HT6 := hid (HT5.out.grown hg6' (fun e => by injection e with e; omega))
   have HRES6 := hid (HRES5.out.grown hg6' (fun e => by injection e with e; omega))
   have ht6 := HT6.out.cell 0
   simp at ht6
   obtain ⟨hr0, hr1⟩ := cC2 HRES6.out
   simp at hr0 hr1
   obtain ⟨hf0, hf1⟩ := cF2 HRES6.out
   have hR6 : Row w6 w6.heap.size (.slice A5 pp.length c5) pp := (HR5.out.keep_but (g := g) (fun k hk hn => hg6'.block k hk (fun e => by injection e with e; exact hn e)) (HC5.out.no_byte)).more hg6'.size
   have HR6 := hid hR6
   have bw6 : Below w.heap.size w w6 := ((HBW3.out.grown HG5.out HBW3.out.size (fun k hk => by injection hk with hk; have := HN0.out; omega))).grown hg6' (by have := HBW3.out.size; have := HG5.out.size; omega) (fun k hk => by injection hk with hk; have := HN0.out; omega)
   have HBW6 := hid bw6
   have HC6 := hid hc6
   clear hc6 hg6 hg6' ht5 hR6 bw6
   have HER := hid (err_any HC6.out)
   have HAT := hid (at_any HC6.out)
   by_cases her : er = 0
   ·subst her
    have hget : getFr xs = ((kk, pp), 4 + qa, 0) := by rw [HGET.out, if_neg (by simp)]
    have HG7 := hid hget; clear hget
    go_wp2_with fail
    refine HER.out.mono ?_
    rintro r w7 ⟨rfl, rfl⟩
    go_wp2_with fail
    refine HAT.out.mono ?_
    rintro r w8 ⟨rfl, rfl⟩
    go_wp2_with fail
    have hfin := (HRES6.out.put 0 (.int .i64 kk)).put 1 (.slice A5 pp.length c5)
    obtain ⟨e0, e1⟩ := cC2 hfin
    simp at e0 e1
    refine bodyPost_ret (v := .tuple #[.agg #[.int .i64 kk, .slice A5 pp.length c5], .int .i64 (4 + (qa : Int)), .int .i64 0]) (by simp [results, Tryz.results53, go_sem, e0, e1]) rfl ?_
    rw [HG7.out]
    refine ⟨A5, c5, by rw [show (((4 + qa : Nat) : Nat) : Int) = 4 + (qa : Int) by omega], ?_, ?_, HN5.out⟩
    ·refine (HR6.out.keep_but (g := N0) (fun k _ hn => ?_) (fun i n => ?_)).more (by simp)
     ·exact (Below.heap_setCell _ ⟨N0, 1, none⟩ _ k (by simp only; exact hn)).trans (Below.heap_setCell _ ⟨N0, 0, none⟩ _ k (by simp only; exact hn))
     ·rw [HRES6.out.cell i]
      match i with
      | 0 => simp
      | 1 => simp
      | i + 2 => simp
    ·exact (HBW6.out.setCell (p := ⟨N0, 0, none⟩) (Nat.le_of_eq HN0.out) _).setCell (p := ⟨N0, 1, none⟩) (Nat.le_of_eq HN0.out) _
   ·have hne : (er != 0) = true := bne_iff_ne.2 her
    have hne2 : (er == 0) = false := beq_eq_false_iff_ne.2 her
    have hget : getFr xs = noFr er := by rw [HGET.out, if_pos her]
    have HG7 := hid hget; clear hget
    go_wp2_with fail
    refine HER.out.mono ?_
    rintro r w7 ⟨rfl, rfl⟩
    go_wp2_with fail
    have hfin := (HRES6.out.put 0 (.int .i64 0)).put 1 (.slice none 0 0)
    obtain ⟨e0, e1⟩ := cC2 hfin
    simp at e0 e1
    refine bodyPost_ret (v := .tuple #[.agg #[.int .i64 0, .slice none 0 0], .int .i64 0, .int .i64 er]) (by simp [results, Tryz.results53, go_sem, e0, e1]) rfl ?_
    rw [HG7.out]
    exact ⟨none, 0, rfl, Row.nil _ _, (HBW6.out.setCell (p := ⟨N0, 0, none⟩) (Nat.le_of_eq HN0.out) _).setCell (p := ⟨N0, 1, none⟩) (Nat.le_of_eq HN0.out) _, fun a e => by cases e⟩
  ·have hr3 := HRR.out
   rw [if_neg hc4, Option.map_some, Go.WideShapes.add_plain] at hr3
   have HR3 := hid hr3
   clear HRR hr3
   have hc40 : 4 < c := by omega
   go_enter Tryz.func53, Tryz.ntmps53
   go_wp2_with fail
   refine (HMK.out _ ((HROW.out.below ((Below.refl _ _).alloc (Nat.le_refl _) _)).more (by simp))).mono ?_
   rintro e w1' ⟨rfl, n1, rfl⟩
   go_wp2_with fail
   refine (HNT.out _ _ _ ((HR3.out.below ((((Below.refl _ _).alloc (Nat.le_refl _) _)).trans ((drewN_below _ _).mono (by simp)))).more (by simp))).mono ?_
   rintro e w2 ⟨g, rfl, hg, hcur, hb2⟩
   have hgl := hcur.lt
   rw [drewN_size, World.size_alloc] at hg hcur hb2
   have hz2 := hb2.size
   have hz2' : w.heap.size + 1 ≤ w2.heap.size := by simpa using hz2
   have bw2 : Below w.heap.size w w2 := (((Below.refl _ _).alloc (Nat.le_refl _) _).trans ((drewN_below _ _).mono (by simp))).trans (hb2.mono (by simp))
   have hres : Held w2 w.heap.size 44 #[.int .i64 0, .slice none 0 0] := (hb2.block w.heap.size (by simp)).trans (heap_alloc_new w _)
   obtain ⟨N1, hN1⟩ : ∃ N1, w2.heap.size = N1 := ⟨_, rfl⟩
   obtain ⟨N0, hN0⟩ : ∃ N0, w.heap.size = N0 := ⟨_, rfl⟩
   have hcur3 := hcur.boxed (by omega) (.cells #[.pointer (some ⟨g, 0, none⟩)] 156)
   have ht3 : Held (w2.alloc (.cells #[.pointer (some ⟨g, 0, none⟩)] 156)) N1 156 #[.pointer (some ⟨g, 0, none⟩)] := by rw [← hN1]; exact heap_alloc_new w2 _
   have hres3 : Held (w2.alloc (.cells #[.pointer (some ⟨g, 0, none⟩)] 156)) N0 44 #[.int .i64 0, .slice none 0 0] := by rw [← hN0]; exact hres.below ((Below.refl _ _).alloc (Nat.le_refl _) _) (by omega)
   have bw3 : Below w.heap.size w (w2.alloc (.cells #[.pointer (some ⟨g, 0, none⟩)] 156)) := bw2.alloc (by omega) _
   rw [hN0] at hcur3 hg hz2'
   rw [hN1] at hgl hz2'
   have HC3 := hid hcur3
   have HT3 := hid ht3
   have HRES3 := hid hres3
   have HBW3 := hid bw3
   have HN1 := hid hN1
   have HN0 := hid hN0
   clear hb2 hz2 hcur bw2 hres hcur3 ht3 hres3 bw3
   try simp only [hN0]
   go_wp2_with fail
   try simp only [hN1]
   clear hN0 hN1
   obtain ⟨w3, hw3⟩ : ∃ w3, w2.alloc (.cells #[.pointer (some ⟨g, 0, none⟩)] 156) = w3 := ⟨_, rfl⟩
   rw [hw3] at HC3 HT3 HRES3 HBW3 ⊢
   have hN1lt : N1 < w3.heap.size := HT3.out.lt
   clear hw3
   have HK := hid (kind_any HC3.out (by omega) HZB.out)
   refine HK.out.mono ?_
   rintro r w4 ⟨rfl, hc4', hg4⟩
   have HT4 := hid (HT3.out.grown hg4 (fun e => by injection e with e; omega))
   have HRES4 := hid (HRES3.out.grown hg4 (fun e => by injection e with e; omega))
   have hkp : (takeK zs).2.1 ≤ zs.length := tk_at_le 0 (Nat.zero_le _) (by simp)
   have HP := payload_any hc4' hkp (by omega) HZB.out (by omega)
   change Calls Tryz.prog _ _ _ (fun r w' => ∃ A c, r = .returned (.slice A (takeP zs).1.length c) ∧ Row w' w'.heap.size (.slice A (takeP zs).1.length c) (takeP zs).1 ∧ Cur 159 w' (N0 + 1) g zs (takeP zs).2.1 (takeP zs).2.2 ∧ w4.grownBy w' (some g) ∧ ∀ a, A = some a → w4.heap.size ≤ a.block) at HP
   have HP2 := hid HP
   have HG4 := hid hg4
   have ht4 := HT4.out.cell 0
   simp at ht4
   clear HP hc4' hg4 hkp
   go_wp2_with fail
   refine HP2.out.mono ?_
   rintro r w5 ⟨A5, c5, rfl, hr5, hc5, hg5, hn5⟩
   have HN5 := hid (fun a e => Nat.le_trans (Nat.le_trans HBW3.out.size HG4.out.size) (hn5 a e)); clear hn5
   have HT5 := hid (HT4.out.grown hg5 (fun e => by injection e with e; omega))
   have HRES5 := hid (HRES4.out.grown hg5 (fun e => by injection e with e; omega))
   have hlt5 := HT5.out.lt
   have ht5 := HT5.out.cell 0
   simp at ht5
   have HR5 := hid hr5
   have HC5 := hid hc5
   have HG5 := hid (grown_trans HG4.out hg5)
   clear ht4 hr5 hc5 hg5
   have hrb := HR3.out.take (k := (takeP zs).2.1) (by rw [HRL.out]; omega)
   have hbl : ((xs.drop 4).take (takeP zs).2.1).length = (takeP zs).2.1 := by rw [List.length_take, HRL.out]; omega
   have hbb : ∀ x ∈ (xs.drop 4).take (takeP zs).2.1, 0 ≤ x ∧ x < 256 := fun x hx => HBR.out x (List.mem_of_mem_take hx)
   have hrb5 : Row w5 (N0 + 1) (.slice (some ⟨b, o + 4, none⟩) ((xs.drop 4).take (takeP zs).2.1).length (c - 4)) ((xs.drop 4).take (takeP zs).2.1) := by
    refine Row.more (B := w.heap.size) (Row.keep (hrb.below (HBW3.out)) (fun q hq => World.cell?_of_block (HG5.out.block q.block ?_ (fun e => ?_)))) ?_
    ·have := HBW3.out.size; omega
    ·injection e with e; have := HN0.out; omega
    ·have := HN0.out; omega
   have hsum := fun W h1 h2 => tsum_any (w := W) (K := N0 + 1) (g := g) (zs := zs) (p := (takeP zs).2.1) (e := (takeP zs).2.2) h1 hpl (by omega) HZB.out (some ⟨b, o + 4, none⟩) (c - 4) ((xs.drop 4).take (takeP zs).2.1) h2 hbb
   rw [hbl] at hsum hrb5
   generalize errS zs (takeP zs).2.1 (takeP zs).2.2 ((xs.drop 4).take (takeP zs).2.1) = er at HGET hsum
   generalize (xs.drop 4).take (takeP zs).2.1 = body at hsum hrb5
   have hqa := at4_le (zs := zs) (e := (takeP zs).2.2) hpl 4
   generalize (at4 zs (takeP zs).2.1 (takeP zs).2.2 4).1 = qa at HGET hsum hqa
   generalize (takeK zs).1 = kk at HGET ⊢
   generalize takeP zs = tp at HGET HR5 HC5 hsum hrb5 hpl ⊢
   obtain ⟨pp, q, e2⟩ := tp
   simp only at hpl hsum hrb5
   have i6 : (0 : Int) ≤ (q : Int) := by omega
   have i7 : (q : Int) ≤ ((c - 4 : Nat) : Int) := by omega
   have i8 : (q : Int) ≤ ((xs.length - 4 : Nat) : Int) := by omega
   have HRB5 := hid hrb5
   have HSUM := hid hsum
   clear hrb hbl hbb hrb5 hsum
   simp only
   go_wp2_with fail
   go_region_held3 (fun W => W.cell? ⟨N1, 0, none⟩ = some (.pointer (some ⟨g, 0, none⟩)))
    (first | go_keep | exact (World.cell?_of_block (hg6.block N1 (by simpa using hlt5) (fun e => by injection e with e; omega))).trans ht5)
    (first
     | (go_at_call 86; (with_reducible refine (at_any (w := _) (Cur.drew1 HC5.out)).mono ?_); rintro r w6 ⟨rfl, rfl⟩)
     | (go_at_call 85; (with_reducible refine (HSUM.out _ (Cur.drew1 HC5.out) (Row.drew1 HRB5.out)).mono ?_); rintro r w6 ⟨rfl, hc6, hg6⟩))
   have hg6' : w5.grownBy w6 (some g) := grown_drew hg6
   have HT6 := hid (HT5.out.grown hg6' (fun e => by injection e with e; omega))
   have HRES6 := hid (HRES5.out.grown hg6' (fun e => by injection e with e; omega))
   have ht6 := HT6.out.cell 0
   simp at ht6
   obtain ⟨hr0, hr1⟩ := cC2 HRES6.out
   simp at hr0 hr1
   obtain ⟨hf0, hf1⟩ := cF2 HRES6.out
   have hR6 : Row w6 w6.heap.size (.slice A5 pp.length c5) pp := (HR5.out.keep_but (g := g) (fun k hk hn => hg6'.block k hk (fun e => by injection e with e; exact hn e)) (HC5.out.no_byte)).more hg6'.size
   have HR6 := hid hR6
   have bw6 : Below w.heap.size w w6 := ((HBW3.out.grown HG5.out HBW3.out.size (fun k hk => by injection hk with hk; have := HN0.out; omega))).grown hg6' (by have := HBW3.out.size; have := HG5.out.size; omega) (fun k hk => by injection hk with hk; have := HN0.out; omega)
   have HBW6 := hid bw6
   have HC6 := hid hc6
   clear hc6 hg6 hg6' ht5 hR6 bw6
   have HER := hid (err_any HC6.out)
   have HAT := hid (at_any HC6.out)
   by_cases her : er = 0
   ·subst her
    have hget : getFr xs = ((kk, pp), 4 + qa, 0) := by rw [HGET.out, if_neg (by simp)]
    have HG7 := hid hget; clear hget
    go_wp2_with fail
    refine HER.out.mono ?_
    rintro r w7 ⟨rfl, rfl⟩
    go_wp2_with fail
    refine HAT.out.mono ?_
    rintro r w8 ⟨rfl, rfl⟩
    go_wp2_with fail
    have hfin := (HRES6.out.put 0 (.int .i64 kk)).put 1 (.slice A5 pp.length c5)
    obtain ⟨e0, e1⟩ := cC2 hfin
    simp at e0 e1
    refine bodyPost_ret (v := .tuple #[.agg #[.int .i64 kk, .slice A5 pp.length c5], .int .i64 (4 + (qa : Int)), .int .i64 0]) (by simp [results, Tryz.results53, go_sem, e0, e1]) rfl ?_
    rw [HG7.out]
    refine ⟨A5, c5, by rw [show (((4 + qa : Nat) : Nat) : Int) = 4 + (qa : Int) by omega], ?_, ?_, HN5.out⟩
    ·refine (HR6.out.keep_but (g := N0) (fun k _ hn => ?_) (fun i n => ?_)).more (by simp)
     ·exact (Below.heap_setCell _ ⟨N0, 1, none⟩ _ k (by simp only; exact hn)).trans (Below.heap_setCell _ ⟨N0, 0, none⟩ _ k (by simp only; exact hn))
     ·rw [HRES6.out.cell i]
      match i with
      | 0 => simp
      | 1 => simp
      | i + 2 => simp
    ·exact (HBW6.out.setCell (p := ⟨N0, 0, none⟩) (Nat.le_of_eq HN0.out) _).setCell (p := ⟨N0, 1, none⟩) (Nat.le_of_eq HN0.out) _
   ·have hne : (er != 0) = true := bne_iff_ne.2 her
    have hne2 : (er == 0) = false := beq_eq_false_iff_ne.2 her
    have hget : getFr xs = noFr er := by rw [HGET.out, if_pos her]
    have HG7 := hid hget; clear hget
    go_wp2_with fail
    refine HER.out.mono ?_
    rintro r w7 ⟨rfl, rfl⟩
    go_wp2_with fail
    have hfin := (HRES6.out.put 0 (.int .i64 0)).put 1 (.slice none 0 0)
    obtain ⟨e0, e1⟩ := cC2 hfin
    simp at e0 e1
    refine bodyPost_ret (v := .tuple #[.agg #[.int .i64 0, .slice none 0 0], .int .i64 0, .int .i64 er]) (by simp [results, Tryz.results53, go_sem, e0, e1]) rfl ?_
    rw [HG7.out]
    exact ⟨none, 0, rfl, Row.nil _ _, (HBW6.out.setCell (p := ⟨N0, 0, none⟩) (Nat.le_of_eq HN0.out) _).setCell (p := ⟨N0, 1, none⟩) (Nat.le_of_eq HN0.out) _, fun a e => by cases e⟩
 ·have hget : getFr xs = noFr (markI markL xs) := by unfold getFr; rw [if_pos hm]
  generalize markI markL xs = er at hget hmk hm
  have hne : (er != 0) = true := bne_iff_ne.2 hm
  have hne2 : (er == 0) = false := beq_eq_false_iff_ne.2 hm
  have HMK := hid hmk; clear hmk
  have HG7 := hid hget; clear hget
  go_enter Tryz.func53, Tryz.ntmps53
  go_wp2_with fail
  refine (HMK.out _ ((HROW.out.below ((Below.refl _ _).alloc (Nat.le_refl _) _)).more (by simp))).mono ?_
  rintro e w1' ⟨rfl, n1, rfl⟩
  go_wp2_with fail
  refine bodyPost_ret (v := .tuple #[.agg #[.int .i64 0, .slice none 0 0], .int .i64 0, .int .i64 er]) (by simp [results, Tryz.results53, go_sem]) rfl ?_
  rw [HG7.out]
  exact ⟨none, 0, rfl, Row.nil _ _, ((((Below.refl _ _).alloc (Nat.le_refl _) _).trans ((drewN_below _ _).mono (by simp))).setCell (p := ⟨w.heap.size, 0, none⟩) (Nat.le_refl _) _).setCell (p := ⟨w.heap.size, 1, none⟩) (Nat.le_refl _) _, fun a e => by cases e⟩
end Go.Proofs.YtnlfcmbpocdpjaaGreat
