/-
  What the theorem of TopAny rests on, part 10 of 16.
-/
import Derived.Deep.RegionHeld3
import Derived.Test.YtnlfcmbpocdpjaaGreatTopAnyZ9
set_option maxRecDepth 100000
set_option maxHeartbeats 16000000
namespace Go.Proofs.YtnlfcmbpocdpjaaGreat
open Lib (hid)
open Go.RowKit
set_option linter.unusedVariables false
section
variable {K g G n : Nat} {xs : List Int} {D : List (List Int)} {p : Nat} {e : Int} {w : World} {vt : Value}
structure EvAt (w : World) (N0 K g E : Nat) (xs : List Int) (k : Int) (A : Option Addr) (c : Nat) (r : List Ag × Nat × Int) (wr : World) : Prop where
 cur : Cur 159 wr K g xs r.2.1 r.2.2
 box : Held wr E 91 #[.int .i64 k, .slice A r.1.length c]
 own : wr.ownsRow N0 135 3 (.slice A r.1.length c) r.1.length (flatG r.1)
 res : Held wr N0 91 #[.int .i64 0, .slice none 0 0]
 but : w.grownBy wr (some g)
theorem EvAt.more {N0 E : Nat} {k : Int} {A A5 : Option Addr} {c c5 : Nat} {r : List Ag × Nat × Int} {a : Ag} {q : Nat} {e2 : Int} {wr w1 w5 : World} (h : EvAt w N0 K g E xs k A c r wr) (hN0 : N0 = w.heap.size) (hE : N0 < E) (hg : g < N0) (hK : K ≤ g)
  (hc1 : Cur 159 w1 K g xs q e2) (hg1 : wr.grownBy w1 (some g)) (ho : w5.ownsRow N0 135 3 (.slice A5 (r.1 ++ [a]).length c5) (r.1 ++ [a]).length (flatG (r.1 ++ [a])))
  (hg5 : (w1.alloc (.cells #[.int .i64 a.t, .int .i64 a.n, .string (strOfNums a.s)] 135)).grownBy w5 (Value.slice A r.1.length c).ownBlock) :
  EvAt w N0 K g E xs k A5 c5 (r.1 ++ [a], q, e2) (w5.setCell ⟨E, 1, none⟩ (.slice A5 (r.1 ++ [a]).length c5)) ∧ Held w5 E 91 #[.int .i64 k, .slice A r.1.length c] := by
 obtain ⟨h1, h2, h3, h4, h5⟩ := h
 have ho1 := World.ownsRow.kept h3 hg1 (.inr (own_low h3 hg))
 have hlow : ∀ i, (Value.slice A r.1.length c).ownBlock = some i → N0 ≤ i := fun i e => (World.ownsRow.lt ho1 i e).1
 have hb2 : Held w1 E 91 #[.int .i64 k, .slice A r.1.length c] := h2.grown hg1 (fun e => by injection e with e; omega)
 have hr2 : Held w1 N0 91 #[.int .i64 0, .slice none 0 0] := h4.grown hg1 (fun e => by injection e with e; omega)
 have al := (Below.refl w1.heap.size w1).alloc (Nat.le_refl _) (.cells #[.int .i64 a.t, .int .i64 a.n, .string (strOfNums a.s)] 135)
 have hb5 : Held w5 E 91 #[.int .i64 k, .slice A r.1.length c] := (hb2.below al hb2.lt).grown hg5 (fun e => own_not_held ho1 hb2 (by decide) e)
 have hr5 : Held w5 N0 91 #[.int .i64 0, .slice none 0 0] := (hr2.below al hr2.lt).grown hg5 (fun e => own_not_held ho1 hr2 (by decide) e)
 refine ⟨⟨?_, ?_, ?_, ?_, ?_⟩, hb5⟩
 ·exact ((hc1.below al hK).past hg5 hlow hg hK).grown (grown_put w5 E 1 _) (.inr (by omega)) hK
 ·have := hb5.put 1 (.slice A5 (r.1 ++ [a]).length c5)
  simpa using this
 ·exact World.ownsRow.kept ho (grown_put w5 E 1 _) (.inr (fun e => own_not_held ho hb5 (by decide) e.symm))
 ·exact hr5.other_put (by omega) _
 ·have hg15 : w.grownBy (w1.alloc (.cells #[.int .i64 a.t, .int .i64 a.n, .string (strOfNums a.s)] 135)) (some g) := grown_trans (grown_trans h5 hg1) (grown_below al (some g))
  exact put_past (grown_past hg15 hg5 (fun j e => by have := hlow j e; omega)) (by omega) 1 _
theorem uevent_any {ds : List Pd} (A : Option Addr) (c : Nat) (h : Cur 159 w K g xs p e) (hp : p ≤ xs.length) (hK : K ≤ g) (hb : ∀ x ∈ xs, 0 ≤ x ∧ x < 256) (hh : Held w G 127 #[.pointer (some ⟨g, 0, none⟩), .slice A ds.length c, vt]) (hgG : g ≠ G)
  (ht : w.ownsRow n 9 1 vt D.length (strVs D)) (hgn : g < n) (hDl : D.length ≤ 4096) (hD : Tx200 D) (hsig : PredRow w K (.slice A ds.length c) ds) (hck : checkP (ds.map (·.p)) = 0) :
  Calls Tryz.prog 98 #[.pointer (some ⟨G, 0, none⟩)] w fun r w' => (∃ A2 c2, r = .returned (.agg #[.int .i64 (evU (ds.map (·.p)) D xs p e).1.p, .slice A2 (evU (ds.map (·.p)) D xs p e).1.args.length c2]) ∧ OwnG w' w.heap.size ⟨(evU (ds.map (·.p)) D xs p e).1.p, (evU (ds.map (·.p)) D xs p e).1.args, A2, c2⟩) ∧
   Cur 159 w' K g xs (evU (ds.map (·.p)) D xs p e).2.1 (evU (ds.map (·.p)) D xs p e).2.2 ∧ w.grownBy w' (some g) := by
 obtain ⟨hsl, hsm⟩ := check_small hck
 rw [List.length_map] at hsl
 obtain ⟨w0, hw0⟩ : ∃ w0, w.alloc (.cells #[.int .i64 0, .slice none 0 0] 91) = w0 := ⟨_, rfl⟩
 have b0 : Below w.heap.size w w0 := by rw [← hw0]; exact (Below.refl _ _).alloc (Nat.le_refl _) _
 have h0 : Held w0 w.heap.size 91 #[.int .i64 0, .slice none 0 0] := by rw [← hw0]; exact heap_alloc_new w _
 have hh0 := hh.below b0 hh.lt
 have HNUM := hid (unum_any (h.below b0 hK) hp hK hb)
 obtain ⟨⟨N, hN, _, hN64⟩, _, hq⟩ := nx_range (e := e) hb (m := m64) (by decide) hp
 unfold evU
 generalize nx m64 xs p e = t at HNUM hN hq ⊢
 obtain ⟨Ni, q, e2⟩ := t
 simp only at hN hq ⊢
 subst hN
 rw [Int.toNat_natCast, List.length_map]
 have x0 := hh0.cell 0
 simp at x0
 have HH := hid hh
 have HH0 := hid hh0
 have HR0 := hid h0
 have HG0 := hid (grown_below b0 (some g))
 have HGL := hid h.lt
 have HGG := hid hgG
 have HKW : Hid (K ≤ w.heap.size) := hid (by have := h.lt; omega)
 obtain ⟨hsc1, hsc2⟩ : ds.length ≤ c ∧ c ≤ 9223372036854775807 := by
  obtain ⟨A', c', hv, q1, q2⟩ := hsig.form
  injection hv with _ _ e3
  exact ⟨by omega, by omega⟩
 by_cases hlt : ds.length ≤ N
 ·rw [if_pos (by omega)]
  have hli : (ds.length : Int) ≤ (N : Int) := by omega
  have hcv : IntKind.u64.wrap (ds.length : Int) = (ds.length : Int) := IntWalk.u64_in _ (by omega)
  generalize ds.length = m at *
  clear h hb hp hq hh hgG ht hgn hsig hck hsm hlt hh0 h0 b0
  go_enter Tryz.func98, Tryz.ntmps98
  go_wp2_with fail
  refine HNUM.out.mono ?_
  rintro r w1 ⟨rfl, hc1, hg1⟩
  simp only [u64V]
  have hh1 := HH0.out.grown hg1 (fun e => by injection e with e; exact HGG.out e.symm)
  obtain ⟨y0, y1⟩ := cC2 hh1
  simp at y0 y1
  have HST := hid (stop_any 9 hc1)
  have HG1 := hid (grown_trans HG0.out hg1)
  have HR1 := hid (HR0.out.grown hg1 (fun e => by have := HGL.out; injection e with e; omega))
  clear hc1 hg1 x0 hh1
  go_wp2_with fail
  refine HST.out.mono ?_
  rintro r w2 ⟨rfl, hc2, hg2⟩
  have hr2 := HR1.out.grown hg2 (fun e => by have := HGL.out; injection e with e; omega)
  obtain ⟨⟨f0, f1⟩, c0, c1⟩ := cG2 hr2
  simp at c0 c1
  have hs : ∀ u0 u1, Held ((w2.setCell ⟨w.heap.size, 0, none⟩ u0).setCell ⟨w.heap.size, 1, none⟩ u1) w.heap.size 91 #[u0, u1] := fun u0 u1 => by simpa using (hr2.put 0 u0).put 1 u1
  have HCF := hid (fun u0 u1 => ((hc2.grown (grown_put w2 w.heap.size 0 u0) (.inr HGL.out) hK).grown (grown_put (w2.setCell ⟨w.heap.size, 0, none⟩ u0) w.heap.size 1 u1) (.inr HGL.out) hK))
  have HGF := hid (fun u0 u1 => put_past (put_past (grown_trans HG1.out hg2) (Nat.le_refl _) 0 u0) (Nat.le_refl _) 1 u1)
  obtain ⟨z0, z1⟩ := cC2 (hs (.int .i64 0) (.slice none 0 0))
  simp at z0 z1
  clear hc2 hg2 hr2
  go_wp2_with fail
  exact bodyPost_ret (v := .agg #[.int .i64 0, .slice none 0 0]) (by simp [results, Tryz.results98, go_sem, z0, z1]) rfl ⟨⟨none, 0, rfl, ⟨World.ownsRow_nil _ _ _ _, by simp, by simp [Em.Fits]⟩⟩, HCF.out _ _, HGF.out _ _⟩
 ·rw [if_neg (by omega)]
  have hltn : N < ds.length := by omega
  obtain ⟨d, hd⟩ : ∃ d, ds[N]? = some d := ⟨_, List.getElem?_eq_getElem hltn⟩
  have hdp : (ds.map (·.p)).getD N default = d.p := by simp [List.getD, hd]
  rw [hdp]
  obtain ⟨_, hargs, _, _⟩ := hsm d.p (List.mem_map.2 ⟨d, List.mem_of_getElem? hd, rfl⟩)
  obtain ⟨b, o, rfl, _, _, _, _, hfit, _, _⟩ := hsig.at hd
  have hrg := fun j => argsU_range (p := q) (e := e2) (D := D) (ts := d.p.args) hb hfit.2.2 hD hq j
  have hli : ¬ (ds.length : Int) ≤ (N : Int) := by omega
  have hli2 : (N : Int) < (ds.length : Int) := by omega
  have hcv : IntKind.u64.wrap (ds.length : Int) = (ds.length : Int) := IntWalk.u64_in _ (by omega)
  have hcv2 : IntKind.i64.wrap (N : Int) = (N : Int) := IntWalk.i64_in _ (by omega)
  have HAT := hid (fun (W : World) (hb : Below K w W) => ((hsig.below hb).at hd))
  have HHT := hid ht
  have HBY := hid hb
  obtain ⟨F, hF⟩ : ∃ F : Nat → List Ag × Nat × Int, argsU D d.p.args xs (q, e2) = F := ⟨_, rfl⟩
  have HF0 := hid (show F 0 = ([], q, e2) by rw [← hF]; rfl)
  have HFS := hid (fun j => show F (j + 1) = ((F j).1 ++ [(argU D (d.p.args.getD j 0) xs (F j).2.1 (F j).2.2).1], (argU D (d.p.args.getD j 0) xs (F j).2.1 (F j).2.2).2) by rw [← hF]; rfl)
  have HFL := hid (fun j => show (F j).1.length = j by rw [← hF]; exact stepsU_length j)
  have HFP := hid (fun j => show (F j).2.1 ≤ xs.length by rw [← hF]; exact (hrg j).2)
  have HFF := hid (fun j => show ∀ a ∈ (F j).1, a.Fits by rw [← hF]; exact (hrg j).1)
  rw [hF]
  obtain ⟨m, hm⟩ : ∃ m, d.p.args.length = m := ⟨_, rfl⟩
  have HM := hid hm
  rw [hm] at hargs ⊢
  obtain ⟨N0, hN0⟩ : ∃ N0, w.heap.size = N0 := ⟨_, rfl⟩
  have HN0 := hid hN0
  rw [hN0] at HR0 HGL HKW ⊢
  obtain ⟨i3, hi, hz0, hz1, hz2⟩ := info_parts Tryz.infoArg
  have hln := hlt
  clear h hb hp hq hh hgG ht hsig hck hsm hlt hh0 h0 b0 hF hrg hdp hm hfit hd
  go_enter Tryz.func98, Tryz.ntmps98
  go_wp2_with fail
  refine HNUM.out.mono ?_
  rintro r w1 ⟨rfl, hc1, hg1⟩
  simp only [u64V]
  have hg01 := grown_trans HG0.out hg1
  have hzw := hg01.size
  have hh1 := HH0.out.grown hg1 (fun e => by injection e with e; exact HGG.out e.symm)
  have hr1 := HR0.out.grown hg1 (fun e => by have := HGL.out; injection e with e; omega)
  obtain ⟨E, hE⟩ : ∃ E, w1.heap.size = E := ⟨_, rfl⟩
  have hNE : N0 < E := by have := hr1.lt; omega
  have hkb : Below K w w1 := (Below.refl K w).grown hg01 (by rw [HN0.out]; exact HKW.out) (fun j e => by injection e with e; omega)
  obtain ⟨b', o', hbo, _, _, q2, q3, _, q5, q6⟩ := HAT.out w1 hkb
  obtain ⟨rfl, rfl⟩ : b = b' ∧ o = o' := by injection hbo with h; injection h with h1 h2 _; exact ⟨h1, h2⟩
  rw [HM.out] at q2
  obtain ⟨dA, hdA⟩ : ∃ x, d.A = x := ⟨_, rfl⟩
  rw [hdA] at q2
  have HDA := hid hdA
  clear hdA
  obtain ⟨w2, hw2⟩ : ∃ w2, w1.alloc (.cells #[.int .i64 N, .slice none 0 0] 91) = w2 := ⟨_, rfl⟩
  have b2 : Below w1.heap.size w1 w2 := by rw [← hw2]; exact (Below.refl _ _).alloc (Nat.le_refl _) _
  have hb2 : Held w2 E 91 #[.int .i64 N, .slice none 0 0] := by rw [← hw2, ← hE]; exact heap_alloc_new w1 _
  have hh2 := hh1.below b2 hh1.lt
  obtain ⟨y0, y1⟩ := cC2 hh1
  simp at y0 y1
  have hGl := hh1.lt
  have hGE : G < E := by rw [← hE]; exact hGl
  have qb : b < w1.heap.size := World.block_lt_of_cell? w1 ⟨b, o + N * 2 + 1, none⟩ q2
  have qE : b < E := by rw [← hE]; exact qb
  have HEV := hid (show EvAt w N0 K g E xs N none 0 (F 0) w2 by
   rw [HF0.out]
   exact ⟨hc1.below b2 hK, hb2, World.ownsRow_nil _ _ _ _, hr1.below b2 hr1.lt, grown_trans hg01 (grown_below b2 _)⟩)
  have HE := hid hE
  have HNE := hid hNE
  clear hc1 hg1 x0 hh1 hg01 hr1 hkb b2 hh2 hb2 hbo q3
  subst hw2
  go_wp2_with fail
  generalize w1.alloc (.cells #[.int .i64 N, .slice none 0 0] 91) = w2 at HEV ⊢
  clear y0 y1 hGl hGE qb qE q2 hE
  go_loopg [38] m (fun gk i wr => ∃ (j : Nat) (A : Option Addr) (c : Nat), j ≤ m ∧ i = .int .i64 j ∧ Hid (m - j = gk) ∧ Hid (EvAt w N0 K g E xs N A c (F j) wr))
  case atStart => exact ⟨0, none, 0, Nat.zero_le _, rfl, hid rfl, HEV⟩
  case round =>
   obtain ⟨j, A3, c3, hj, rfl, HGK, HEV⟩ := hrel
   by_cases hlt : j < m
   ·have hev := HEV.out
    have hhr := HH.out.grown hev.but (fun e => by injection e with e; exact HGG.out e.symm)
    have htr := World.ownsRow.kept HHT.out hev.but (.inr (own_low HHT.out hgn))
    have hkb : Below K w wr := (Below.refl K w).grown hev.but (by rw [HN0.out]; exact HKW.out) (fun j e => by injection e with e; omega)
    obtain ⟨bx, ox, hbx, _, _, _, q4, _⟩ := HAT.out wr hkb
    clear hbx
    obtain ⟨b2, o2, hA2, _, hct⟩ := q4.at (i := j) (by rw [HM.out]; exact hlt)
    rw [HDA.out] at hA2
    subst hA2
    obtain ⟨t, htv⟩ : ∃ t, d.p.args.getD j 0 = t := ⟨_, rfl⟩
    have hnext := HFS.out j
    rw [htv] at hct hnext
    have HARG := hid (fun W (hb : Below wr.heap.size wr W) => uarg_any t (hev.cur.below hb hK) (HFP.out j) hK HBY.out (hhr.below hb hhr.lt) HGG.out (own_below htr hb) hgn hDl)
    have HBOX := hid (fun W (hb : Below wr.heap.size wr W) => hev.box.below hb hev.box.lt)
    have has : (F j).1.length ≤ 8 := by rw [HFL.out]; omega
    have hsz := hev.but.size
    rw [HN0.out] at hsz
    generalize argU D t xs (F j).2.1 (F j).2.2 = u at HARG hnext
    obtain ⟨a, q3, e3⟩ := u
    simp only at hnext
    have HNX := hid hnext
    clear hnext hhr htr hkb q4 htv hev
    generalize F j = r at HEV HARG HBOX HNX has
    go_wp2_with fail
    refine wp_region_held_drew (S := fun _ => True) (by kernel_rfl) trivial (fun _ => ?_)
    refine wpAnyH_take (i := 0) (v := .pointer (some ⟨E, 1, none⟩)) rfl (by kernel_rfl) (by kernel_rfl) (by kernel_rfl) (fun _ _ _ h => h) (Or.inl ⟨by rfl, fun W _ => by go_simp⟩) trivial ?_
    try simp only [pU]
    refine wpAnyH_take (i := 2) (v := .pointer (some ⟨G, 0, none⟩)) rfl (by kernel_rfl) (by kernel_rfl) (by kernel_rfl) (fun _ _ _ h => h) (Or.inl ⟨by rfl, fun W _ => by go_simp⟩) trivial ?_
    try simp only [pU]
    refine wpAnyH_take (i := 3) (v := .int .i64 t) rfl (by kernel_rfl) (by kernel_rfl) (by kernel_rfl) (fun _ _ _ h => h) (Or.inl ⟨by rfl, fun W _ => by go_simp⟩) trivial ?_
    try simp only [pU]
    refine wpAnyH_ready (rs := [1, 4]) (by kernel_rfl) (by simp) ?_
    refine AllReadyH.cons rfl (fun Kq hKq => ?_) (AllReadyH.cons rfl (fun Kq hKq => ?_) AllReadyH.nil)
    ·skip
     have y0 := (HBOX.out _ (Below.refl _ _).drew).cell 1
     simp at y0
     go_simp
     refine hKq.out _ _ trivial (fun _ => ?_)
     clear hKq Kq
     try simp only [pU]
     refine wpAnyH_ready (rs := [4]) (by kernel_rfl) (by simp) ?_
     refine AllReadyH.cons rfl (fun Kq hKq => ?_) AllReadyH.nil
     go_simp
     refine (HARG.out _ (Below.refl _ _).drew).mono ?_
     rintro rr w4 ⟨rfl, hc4, hg4⟩
     dsimp only [Ag.val]
     refine hKq.out _ _ trivial (fun _ => ?_)
     clear hKq Kq
     try simp only [pU]
     refine wpAnyH_ready (rs := [5]) (by kernel_rfl) (by simp) ?_
     refine AllReadyH.cons rfl (fun Kq hKq => ?_) AllReadyH.nil
     go_simp
     refine hKq.out _ _ trivial (fun _ => ?_)
     clear hKq Kq
     try simp only [pU]
     refine wpAnyH_ready (rs := [6]) (by kernel_rfl) (by simp) ?_
     refine AllReadyH.cons rfl (fun Kq hKq => ?_) AllReadyH.nil
     have ho4 := own_below (World.ownsRow.kept HEV.out.own (grown_drew hg4) (.inr (own_low HEV.out.own HGL.out))) ((Below.refl _ _).alloc (Nat.le_refl _) (.cells #[.int .i64 a.t, .int .i64 a.n, .string (strOfNums a.s)] 135))
     have hs4 := (grown_drew hg4).size
     refine step_append_erow_at (by rfl) (.tmp 43) (.tmp 47) 89 135 (by rfl) N0 i3 _ 3 32 Tryz.underlying89 hi hz0 hz1 hz2 rfl (by decide) (.slice A3 r.1.length c3) r.1.length (flatG r.1) (by rfl) ho4 (w4.heap.size + 1) (.slice (some ⟨w4.heap.size, 0, none⟩) 1 1) 1 (flatG [a]) (by rfl) (ERow.held (t := 135) (heap_alloc_new w4 _) (by omega) (by unfold maxLen; omega)) (flatG_length _) (oneG _) (by unfold maxLen; omega) (by omega) (by simp; omega) (r.1 ++ [a]).length (by simp) (flatG (r.1 ++ [a])) (by rw [flatG_append]) ?_
     intro A5 c5 w5 hO5 hg5 _
     obtain ⟨hmore, hE5⟩ := HEV.out.more HN0.out.symm HNE.out HGL.out hK hc4 (grown_drew hg4) hO5 hg5
     have HMORE := hid hmore
     refine hKq.out _ _ trivial (fun _ => ?_)
     clear hKq Kq
     try simp only [pU]
     refine wpAnyH_take (i := 7) (v := .pointer (some ⟨E, 1, none⟩)) rfl (by kernel_rfl) (by kernel_rfl) (by kernel_rfl) (fun _ _ _ h => h) (Or.inl ⟨by rfl, fun W _ => by go_simp⟩) trivial ?_
     try simp only [pU]
     refine wpAnyH_ready (rs := [8]) (by kernel_rfl) (by simp) ?_
     refine AllReadyH.cons rfl (fun Kq hKq => ?_) AllReadyH.nil
     have y0 := hE5.cell 1
     have yf := hE5.frozen 1
     simp at y0
     go_simp
     refine hKq.out _ _ trivial (fun _ => ?_)
     clear hKq Kq
     try simp only [pU]
     refine wpAnyH_done (by kernel_rfl) ?_ _
     clear y0 yf hE5 hmore hO5 hg5 ho4 hc4 hg4
     go_wp2_with fail
     go_roundg (m - (j + 1))
     case measure => have := HGK.out; omega
     case rel => exact ⟨j + 1, A5, c5, by omega, by go_num, hid rfl, hid (by rw [HNX.out]; have h := HMORE.out; simp only [pW] at h; exact h)⟩
    ·skip
     go_simp
     refine (HARG.out _ (Below.refl _ _).drew).mono ?_
     rintro rr w4 ⟨rfl, hc4, hg4⟩
     dsimp only [Ag.val]
     refine hKq.out _ _ trivial (fun _ => ?_)
     clear hKq Kq
     try simp only [pU]
     refine wpAnyH_ready (rs := [1, 5]) (by kernel_rfl) (by simp) ?_
     refine AllReadyH.cons rfl (fun Kq hKq => ?_) (AllReadyH.cons rfl (fun Kq hKq => ?_) AllReadyH.nil)
     ·skip
      have y0 := ((HBOX.out _ (Below.refl _ _)).grown (grown_drew hg4) (fun e => by have := HGL.out; have := HNE.out; injection e with e; omega)).cell 1
      simp at y0
      go_simp
      refine hKq.out _ _ trivial (fun _ => ?_)
      clear hKq Kq
      try simp only [pU]
      refine wpAnyH_ready (rs := [5]) (by kernel_rfl) (by simp) ?_
      refine AllReadyH.cons rfl (fun Kq hKq => ?_) AllReadyH.nil
      go_simp
      refine hKq.out _ _ trivial (fun _ => ?_)
      clear hKq Kq
      try simp only [pU]
      refine wpAnyH_ready (rs := [6]) (by kernel_rfl) (by simp) ?_
      refine AllReadyH.cons rfl (fun Kq hKq => ?_) AllReadyH.nil
      have ho4 := own_below (World.ownsRow.kept HEV.out.own (grown_drew hg4) (.inr (own_low HEV.out.own HGL.out))) ((Below.refl _ _).alloc (Nat.le_refl _) (.cells #[.int .i64 a.t, .int .i64 a.n, .string (strOfNums a.s)] 135))
      have hs4 := (grown_drew hg4).size
      refine step_append_erow_at (by rfl) (.tmp 43) (.tmp 47) 89 135 (by rfl) N0 i3 _ 3 32 Tryz.underlying89 hi hz0 hz1 hz2 rfl (by decide) (.slice A3 r.1.length c3) r.1.length (flatG r.1) (by rfl) ho4 (w4.heap.size + 1) (.slice (some ⟨w4.heap.size, 0, none⟩) 1 1) 1 (flatG [a]) (by rfl) (ERow.held (t := 135) (heap_alloc_new w4 _) (by omega) (by unfold maxLen; omega)) (flatG_length _) (oneG _) (by unfold maxLen; omega) (by omega) (by simp; omega) (r.1 ++ [a]).length (by simp) (flatG (r.1 ++ [a])) (by rw [flatG_append]) ?_
      intro A5 c5 w5 hO5 hg5 _
      obtain ⟨hmore, hE5⟩ := HEV.out.more HN0.out.symm HNE.out HGL.out hK hc4 (grown_drew hg4) hO5 hg5
      have HMORE := hid hmore
      refine hKq.out _ _ trivial (fun _ => ?_)
      clear hKq Kq
      try simp only [pU]
      refine wpAnyH_take (i := 7) (v := .pointer (some ⟨E, 1, none⟩)) rfl (by kernel_rfl) (by kernel_rfl) (by kernel_rfl) (fun _ _ _ h => h) (Or.inl ⟨by rfl, fun W _ => by go_simp⟩) trivial ?_
      try simp only [pU]
      refine wpAnyH_ready (rs := [8]) (by kernel_rfl) (by simp) ?_
      refine AllReadyH.cons rfl (fun Kq hKq => ?_) AllReadyH.nil
      have y0 := hE5.cell 1
      have yf := hE5.frozen 1
      simp at y0
      go_simp
      refine hKq.out _ _ trivial (fun _ => ?_)
      clear hKq Kq
      try simp only [pU]
      refine wpAnyH_done (by kernel_rfl) ?_ _
      clear y0 yf hE5 hmore hO5 hg5 ho4 hc4 hg4
      go_wp2_with fail
      go_roundg (m - (j + 1))
      case measure => have := HGK.out; omega
      case rel => exact ⟨j + 1, A5, c5, by omega, by go_num, hid rfl, hid (by rw [HNX.out]; have h := HMORE.out; simp only [pW] at h; exact h)⟩
     ·skip
      go_simp
      refine hKq.out _ _ trivial (fun _ => ?_)
      clear hKq Kq
      try simp only [pU]
      refine wpAnyH_ready (rs := [1]) (by kernel_rfl) (by simp) ?_
      refine AllReadyH.cons rfl (fun Kq hKq => ?_) AllReadyH.nil
      have y0 := (((HBOX.out _ (Below.refl _ _)).grown (grown_drew hg4) (fun e => by have := HGL.out; have := HNE.out; injection e with e; omega)).below ((Below.refl w4.heap.size w4).alloc (Nat.le_refl _) (.cells #[.int .i64 a.t, .int .i64 a.n, .string (strOfNums a.s)] 135)) ((HBOX.out _ (Below.refl _ _)).grown (grown_drew hg4) (fun e => by have := HGL.out; have := HNE.out; injection e with e; omega)).lt).cell 1
      simp at y0
      go_simp
      refine hKq.out _ _ trivial (fun _ => ?_)
      clear hKq Kq
      try simp only [pU]
      refine wpAnyH_ready (rs := [6]) (by kernel_rfl) (by simp) ?_
      refine AllReadyH.cons rfl (fun Kq hKq => ?_) AllReadyH.nil
      have ho4 := own_below (World.ownsRow.kept HEV.out.own (grown_drew hg4) (.inr (own_low HEV.out.own HGL.out))) ((Below.refl _ _).alloc (Nat.le_refl _) (.cells #[.int .i64 a.t, .int .i64 a.n, .string (strOfNums a.s)] 135))
      have hs4 := (grown_drew hg4).size
      refine step_append_erow_at (by rfl) (.tmp 43) (.tmp 47) 89 135 (by rfl) N0 i3 _ 3 32 Tryz.underlying89 hi hz0 hz1 hz2 rfl (by decide) (.slice A3 r.1.length c3) r.1.length (flatG r.1) (by rfl) ho4 (w4.heap.size + 1) (.slice (some ⟨w4.heap.size, 0, none⟩) 1 1) 1 (flatG [a]) (by rfl) (ERow.held (t := 135) (heap_alloc_new w4 _) (by omega) (by unfold maxLen; omega)) (flatG_length _) (oneG _) (by unfold maxLen; omega) (by omega) (by simp; omega) (r.1 ++ [a]).length (by simp) (flatG (r.1 ++ [a])) (by rw [flatG_append]) ?_
      intro A5 c5 w5 hO5 hg5 _
      obtain ⟨hmore, hE5⟩ := HEV.out.more HN0.out.symm HNE.out HGL.out hK hc4 (grown_drew hg4) hO5 hg5
      have HMORE := hid hmore
      refine hKq.out _ _ trivial (fun _ => ?_)
      clear hKq Kq
      try simp only [pU]
      refine wpAnyH_take (i := 7) (v := .pointer (some ⟨E, 1, none⟩)) rfl (by kernel_rfl) (by kernel_rfl) (by kernel_rfl) (fun _ _ _ h => h) (Or.inl ⟨by rfl, fun W _ => by go_simp⟩) trivial ?_
      try simp only [pU]
      refine wpAnyH_ready (rs := [8]) (by kernel_rfl) (by simp) ?_
      refine AllReadyH.cons rfl (fun Kq hKq => ?_) AllReadyH.nil
      have y0 := hE5.cell 1
      have yf := hE5.frozen 1
      simp at y0
      go_simp
      refine hKq.out _ _ trivial (fun _ => ?_)
      clear hKq Kq
      try simp only [pU]
      refine wpAnyH_done (by kernel_rfl) ?_ _
      clear y0 yf hE5 hmore hO5 hg5 ho4 hc4 hg4
      go_wp2_with fail
      go_roundg (m - (j + 1))
      case measure => have := HGK.out; omega
      case rel => exact ⟨j + 1, A5, c5, by omega, by go_num, hid rfl, hid (by rw [HNX.out]; have h := HMORE.out; simp only [pW] at h; exact h)⟩
   ·obtain rfl : j = m := by omega
    have hev := HEV.out
    obtain ⟨c0, c1⟩ := cC2 hev.box
    obtain ⟨⟨f0, f1⟩, d0, d1⟩ := cG2 hev.res
    simp at c0 c1 d0 d1
    have hs : ∀ u0 u1, Held ((wr.setCell ⟨N0, 0, none⟩ u0).setCell ⟨N0, 1, none⟩ u1) N0 91 #[u0, u1] := fun u0 u1 => by simpa using (hev.res.put 0 u0).put 1 u1
    have HCF := hid (fun u0 u1 => (hev.cur.grown (grown_put wr N0 0 u0) (.inr HGL.out) hK).grown (grown_put (wr.setCell ⟨N0, 0, none⟩ u0) N0 1 u1) (.inr HGL.out) hK)
    have HGF := hid (fun u0 u1 => put_past (put_past hev.but (by rw [HN0.out]; exact Nat.le_refl _) 0 u0) (by rw [HN0.out]; exact Nat.le_refl _) 1 u1)
    have HOF := hid (fun u0 u1 => show ((wr.setCell ⟨N0, 0, none⟩ u0).setCell ⟨N0, 1, none⟩ u1).ownsRow N0 135 3 (.slice A3 (F j).1.length c3) (F j).1.length (flatG (F j).1) from
     World.ownsRow.kept (World.ownsRow.kept hev.own (grown_put wr N0 0 u0) (.inr (fun e => own_not_held hev.own hev.res (by decide) e.symm))) (grown_put _ N0 1 u1) (.inr (fun e => own_not_held hev.own hev.res (by decide) e.symm)))
    obtain ⟨z0, z1⟩ := cC2 (hs (.int .i64 N) (.slice A3 (F j).1.length c3))
    simp at z0 z1
    have HFIN := hid (HFF.out j)
    have hN9 : N < 64 := by omega
    clear hev hs
    go_wp2_with fail
    exact bodyPost_ret (v := .agg #[.int .i64 N, .slice A3 (F j).1.length c3]) (by simp [results, Tryz.results98, go_sem, z0, z1]) rfl ⟨⟨A3, c3, rfl, ⟨HOF.out _ _, HFIN.out, by unfold Em.Fits; constructor <;> (simp only; omega)⟩⟩, HCF.out _ _, HGF.out _ _⟩
end
section
variable {w w' w1 w5 : World} {n m g K : Nat} {xs : List Int}
theorem OwnG.kept {d : Em} (h : OwnG w n d) (hg : w.grownBy w' (some g)) (hgn : g < n) : OwnG w' n d := ⟨World.ownsRow.kept h.1 hg (.inr (own_low h.1 hgn)), h.2⟩
theorem OwnE.kept {v : Value} {es : List Em} (h : OwnE w n v es) (hg : w.grownBy w' (some g)) (hgn : g < n) : OwnE w' n v es := ⟨World.ownsRow.kept h.1 hg (.inr (own_low h.1 hgn)), fun d hd => (h.2 d hd).kept hg hgn⟩
theorem OwnT.kept {v : Value} {ps : List Pm} (h : OwnT w n v ps) (hg : w.grownBy w' (some g)) (hgn : g < n) : OwnT w' n v ps := ⟨World.ownsRow.kept h.1 hg (.inr (own_low h.1 hgn)), fun d hd => ⟨(h.2 d hd).1.kept hg hgn, (h.2 d hd).2⟩⟩
structure PxAt (w : World) (NR K g P : Nat) (xs : List Int) (tm : Int) (A : Option Addr) (c : Nat) (es : List Em) (r : List Ev × Nat × Int) (wr : World) : Prop where
 cur : Cur 159 wr K g xs r.2.1 r.2.2
 box : Held wr P 55 #[.int .u64 tm, .slice A es.length c]
 own : OwnE wr NR (.slice A es.length c) es
 say : es.map (·.e) = r.1
 but : w.grownBy wr (some g)
theorem PxAt.more {w wr w4 : World} {NR P : Nat} {tm : Int} {A A2 A5 : Option Addr} {c c2 c5 : Nat} {es : List Em} {r : List Ev × Nat × Int} {v : Ev} {q : Nat} {e2 : Int} (h : PxAt w NR K g P xs tm A c es r wr) (hNR : NR = w.heap.size) (hP : NR ≤ P) (hg : g < NR) (hK : K ≤ g)
  (hc4 : Cur 159 w4 K g xs q e2) (hg4 : wr.grownBy w4 (some g)) (hd : OwnG w4 NR ⟨v.p, v.args, A2, c2⟩) (ho : w5.ownsRow NR 91 2 (.slice A5 (es ++ [(⟨v.p, v.args, A2, c2⟩ : Em)]).length c5) (es ++ [(⟨v.p, v.args, A2, c2⟩ : Em)]).length (flatE (es ++ [(⟨v.p, v.args, A2, c2⟩ : Em)])))
  (hg5 : (w4.alloc (.cells #[.int .i64 v.p, .slice A2 v.args.length c2] 91)).grownBy w5 (Value.slice A es.length c).ownBlock) :
  PxAt w NR K g P xs tm A5 c5 (es ++ [(⟨v.p, v.args, A2, c2⟩ : Em)]) (r.1 ++ [v], q, e2) (w5.setCell ⟨P, 1, none⟩ (.slice A5 (es ++ [(⟨v.p, v.args, A2, c2⟩ : Em)]).length c5)) ∧ Held w5 P 55 #[.int .u64 tm, .slice A es.length c] := by
 obtain ⟨h1, h2, h3, h4, h5⟩ := h
 have ho1 := h3.kept hg4 hg
 have hlow : ∀ i, (Value.slice A es.length c).ownBlock = some i → NR ≤ i := fun i e => (World.ownsRow.lt ho1.1 i e).1
 have hb2 : Held w4 P 55 #[.int .u64 tm, .slice A es.length c] := h2.grown hg4 (fun e => by injection e with e; omega)
 have al := (Below.refl w4.heap.size w4).alloc (Nat.le_refl _) (.cells #[.int .i64 v.p, .slice A2 v.args.length c2] 91)
 have hb5 : Held w5 P 55 #[.int .u64 tm, .slice A es.length c] := (hb2.below al hb2.lt).grown hg5 (fun e => own_not_held ho1.1 hb2 (by decide) e)
 have hoa := ho1.below al
 have hda := hd.below al
 have hall : ∀ x ∈ es ++ [(⟨v.p, v.args, A2, c2⟩ : Em)], OwnG w5 NR x := fun x hx => by
  rcases List.mem_append.1 hx with hx | hx
  ·exact (hoa.2 x hx).grown hoa.1 (by decide) hg5
  ·rw [List.mem_singleton.1 hx]
   exact hda.grown hoa.1 (by decide) hg5
 refine ⟨⟨?_, ?_, ⟨?_, fun x hx => ⟨?_, (hall x hx).2⟩⟩, ?_, ?_⟩, hb5⟩
 ·exact ((hc4.below al hK).past hg5 hlow hg hK).grown (grown_put w5 P 1 _) (.inr (by omega)) hK
 ·have := hb5.put 1 (.slice A5 (es ++ [(⟨v.p, v.args, A2, c2⟩ : Em)]).length c5)
  simpa using this
 ·exact World.ownsRow.kept ho (grown_put w5 P 1 _) (.inr (fun e => own_not_held ho hb5 (by decide) e.symm))
 ·exact World.ownsRow.kept (hall x hx).1 (grown_put w5 P 1 _) (.inr (fun e => own_not_held (hall x hx).1 hb5 (by decide) e.symm))
 ·rw [List.map_append, h4]
  rfl
 ·have hg15 : w.grownBy (w4.alloc (.cells #[.int .i64 v.p, .slice A2 v.args.length c2] 91)) (some g) := grown_trans (grown_trans h5 hg4) (grown_below al (some g))
  exact put_past (grown_past hg15 hg5 (fun j e => by have := hlow j e; omega)) (by omega) 1 _
structure PtAt (w : World) (N0 K g : Nat) (xs : List Int) (A : Option Addr) (c : Nat) (ps : List Pm) (q : List Pn × Int × Nat × Int) (wr : World) : Prop where
 cur : Cur 159 wr K g xs q.2.2.1 q.2.2.2
 own : OwnT wr N0 (.slice A ps.length c) ps
 say : ps.map (·.p) = q.1
 but : w.grownBy wr (some g)
theorem PtAt.more {w wr wx wy : World} {N0 NR P : Nat} {tm : Int} {A A3 A5 : Option Addr} {c c3 c5 : Nat} {ps : List Pm} {es : List Em} {q : List Pn × Int × Nat × Int} {r : List Ev × Nat × Int} (h : PtAt w N0 K g xs A c ps q wr) (hx : PxAt wr NR K g P xs tm A3 c3 es r wx) (hNR : NR = wr.heap.size) (hN0 : N0 = w.heap.size) (hg : g < N0) (hK : K ≤ g) (htm : 0 ≤ tm ∧ tm < 18446744073709551616)
  (ho : wy.ownsRow N0 55 2 (.slice A5 (ps ++ [(⟨tm, es, A3, c3⟩ : Pm)]).length c5) (ps ++ [(⟨tm, es, A3, c3⟩ : Pm)]).length (flatN (ps ++ [(⟨tm, es, A3, c3⟩ : Pm)])))
  (hgy : (wx.alloc (.cells #[.int .u64 tm, .slice A3 es.length c3] 55)).grownBy wy (Value.slice A ps.length c).ownBlock) :
  PtAt w N0 K g xs A5 c5 (ps ++ [(⟨tm, es, A3, c3⟩ : Pm)]) (q.1 ++ [(⟨tm, r.1⟩ : Pn)], tm, r.2) wy := by
 obtain ⟨h1, h2, h3, h4⟩ := h
 obtain ⟨x1, x2, x3, x4, x5⟩ := hx
 have hsz := h4.size
 have al := (Below.refl wx.heap.size wx).alloc (Nat.le_refl _) (.cells #[.int .u64 tm, .slice A3 es.length c3] 55)
 have ho1 := (h2.kept x5 hg).below al
 have hes := x3.below al
 have hlow : ∀ i, (Value.slice A ps.length c).ownBlock = some i → N0 ≤ i := fun i e => (World.ownsRow.lt ho1.1 i e).1
 refine ⟨(x1.below al hK).past hgy hlow hg hK, ⟨ho, fun d hd => ?_⟩, ?_, ?_⟩
 ·rcases List.mem_append.1 hd with hd | hd
  ·exact ⟨(ho1.2 d hd).1.grown ho1.1 (by decide) (by decide) hgy, (ho1.2 d hd).2⟩
  ·rw [List.mem_singleton.1 hd]
   exact ⟨(hes.grown ho1.1 (by decide) (by decide) hgy).base (by omega), htm⟩
 ·rw [List.map_append, h3, ← x4]
  rfl
 ·exact grown_past (grown_trans (grown_trans h4 x5) (grown_below al (some g))) hgy (fun j e => by have := hlow j e; omega)
end
section
variable {xs : List Int} {sig : List Pr} {D : List (List Int)}
theorem ptsU_stopped {s : Int × Nat × Int} {k N j : Nat} (hk : k < N) (hj : j ≤ (nx 1024 xs (whenU xs k (ptsU sig D xs s k).2).2.1 (whenU xs k (ptsU sig D xs s k).2).2.2).1.toNat)
  (h : (evnU sig D xs (nx 1024 xs (whenU xs k (ptsU sig D xs s k).2).2.1 (whenU xs k (ptsU sig D xs s k).2).2.2).2 j).2.2 ≠ 0) :
  (ptsU sig D xs s N).2.2.2 = (evnU sig D xs (nx 1024 xs (whenU xs k (ptsU sig D xs s k).2).2.1 (whenU xs k (ptsU sig D xs s k).2).2.2).2 j).2.2 := by
 have h1 : (ptsU sig D xs s (k + 1)).2.2.2 = (evnU sig D xs (nx 1024 xs (whenU xs k (ptsU sig D xs s k).2).2.1 (whenU xs k (ptsU sig D xs s k).2).2.2).2 j).2.2 :=
  stepsU_stop (f := fun _ s => evU sig D xs s.1 s.2) (er := fun s : Nat × Int => s.2) (fun j s hs => evU_stop hs) h _ hj
 have h2 := stepsU_stop (f := ptU sig D xs) (s := s) (er := fun s : Int × Nat × Int => s.2.2) (k := k + 1) (fun j s q => ptU_stop q) (fun e => h (h1.symm.trans e)) N hk
 exact h2.trans h1
end
def PGot (w : World) (K g G : Nat) (vs : Value) (xs : List Int) (R : List Pn × Int × Nat × Int) (r : Ending) (w' : World) : Prop :=
 ∃ A c ps p e vt, r = .returned (.slice A ps.length c) ∧ OwnT w' w.heap.size (.slice A ps.length c) ps ∧ Cur 159 w' K g xs p e ∧ p ≤ xs.length ∧ e = R.2.2.2 ∧ (e = 0 → p = R.2.2.1 ∧ ps.map (·.p) = R.1) ∧ Held w' G 127 #[.pointer (some ⟨g, 0, none⟩), vs, vt] ∧ Below K w w'
theorem upoints_any {w : World} {K g G : Nat} {xs : List Int} {ds : List Pd} (A : Option Addr) (c : Nat) (h : Cur 159 w K g xs 0 0) (hK : K ≤ g) (hb : ∀ x ∈ xs, 0 ≤ x ∧ x < 256) (hh : Held w G 127 #[.pointer (some ⟨g, 0, none⟩), .slice A ds.length c, .slice none 0 0]) (hgG : g < G)
  (hsig : PredRow w K (.slice A ds.length c) ds) (hck : checkP (ds.map (·.p)) = 0) :
  Calls Tryz.prog 60 #[.pointer (some ⟨G, 0, none⟩)] w (PGot w K g G (.slice A ds.length c) xs (readU (ds.map (·.p)) xs)) := by
 have hne : g ≠ G := by omega
 have hss : ∀ q ∈ ds.map (·.p), ∀ t ∈ q.args, -9223372036854775808 ≤ t ∧ t ≤ 9223372036854775807 := fun q hq => by
  obtain ⟨d, hd, rfl⟩ := List.mem_map.1 hq
  obtain ⟨A', c', hv, h1, h2, h3, h4, h5⟩ := hsig
  exact (h5 d hd).2.2.2
 have HN1 : Hid (Calls Tryz.prog 87 #[.pointer (some ⟨g, 0, none⟩), .int .u64 18446744073709551615] w (Took u64V w K g xs (baseU xs))) := hid (unum_any h (Nat.zero_le _) hK hb)
 obtain ⟨⟨T0, hT0, _, hT64⟩, _, hq1⟩ := nx_range (e := 0) hb (m := m64) (by decide) (Nat.zero_le xs.length)
 have hT0 : (baseU xs).1 = (T0 : Int) := hT0
 have hq1 : (baseU xs).2.1 ≤ xs.length := hq1
 obtain ⟨⟨N, hN, hN1⟩, hq2⟩ := cntU_range hb
 obtain ⟨hD, hq3⟩ := dicU_range hb
 have hDl : (dicU xs).1.length ≤ 4096 := by
  obtain ⟨⟨n, e1, e2, _⟩, _, _⟩ := nx_range (e := (cntU xs).2.2) hb (m := 4096) (by decide) hq2
  have : (dicU xs).1.length = (nx 4096 xs (cntU xs).2.1 (cntU xs).2.2).1.toNat := stepsU_length _
  rw [this, e1]
  omega
 have HCN := hid (fun (W : World) (hc : Cur 159 W K g xs (baseU xs).2.1 (baseU xs).2.2) (hh : Held W G 127 #[.pointer (some ⟨g, 0, none⟩), .slice A ds.length c, .slice none 0 0]) => (show Calls Tryz.prog 95 #[.pointer (some ⟨G, 0, none⟩)] W (Took u64V W K g xs (cntU xs)) from ucount_any hc hq1 hK hb hh hne))
 have HDI := hid (fun (W : World) (hc : Cur 159 W K g xs (cntU xs).2.1 (cntU xs).2.2) (hh : Held W G 127 #[.pointer (some ⟨g, 0, none⟩), .slice A ds.length c, .slice none 0 0]) => (show Calls Tryz.prog 96 #[.pointer (some ⟨G, 0, none⟩)] W (fun r w' => (∃ A c, r = .returned (.slice A (dicU xs).1.length c) ∧ w'.ownsRow W.heap.size 9 1 (.slice A (dicU xs).1.length c) (dicU xs).1.length (strVs (dicU xs).1)) ∧
   Cur 159 w' K g xs (dicU xs).2.1 (dicU xs).2.2 ∧ W.grownBy w' (some g)) from udict_any hc hq2 hK hb hh hne))
 have hsl : ds.length ≤ 64 := by
  have := (check_small hck).1
  rwa [List.length_map] at this
 obtain ⟨hsc1, hsc2⟩ : ds.length ≤ c ∧ c ≤ 9223372036854775807 := by
  obtain ⟨A', c', hv, q1, q2⟩ := hsig.form
  injection hv with _ _ e3
  exact ⟨by omega, by omega⟩
 unfold readU
 generalize hdic : dicU xs = dc at HDI hD hq3 hDl ⊢
 generalize hcnt : cntU xs = cn at HCN HDI hN hq2 ⊢
 generalize hbas : baseU xs = ba at HN1 HCN hT0 hq1 ⊢
 obtain ⟨Ti, p1, e1⟩ := ba
 obtain ⟨Ni, p2, e2⟩ := cn
 obtain ⟨D, p3, e3⟩ := dc
 simp only at hT0 hN hq1 hq2 hq3 hD hDl HCN HDI ⊢
 clear hdic hcnt hbas
 subst hT0 hN
 rw [Int.toNat_natCast]
 have HRG := hid (fun k => ptsU_range (sig := ds.map (·.p)) (D := D) (s := ((T0 : Int), p3, e3)) hb hss hD hq3 (by simp only; omega) k)
 have HEL := hid (fun (p : Nat) (e : Int) (hp : p ≤ xs.length) (j : Nat) => evnU_le (sig := ds.map (·.p)) (D := D) (e := e) hb hss hD hp j)
 have HWR := hid (fun (i : Nat) (s : Int × Nat × Int) (hp : s.2.1 ≤ xs.length) (ht : 0 ≤ s.1 ∧ s.1 < 18446744073709551616) => whenU_range (i := i) hb hp ht)
 have HNR := hid (fun (p : Nat) (e : Int) (hp : p ≤ xs.length) => nx_range (e := e) hb (m := 1024) (by decide) hp)
 have HSTOP := hid (fun k j => @ptsU_stopped xs (ds.map (·.p)) D ((T0 : Int), p3, e3) k N j)
 obtain ⟨Q, hQ⟩ : ∃ Q : Nat → List Pn × Int × Nat × Int, ptsU (ds.map (·.p)) D xs ((T0 : Int), p3, e3) = Q := ⟨_, rfl⟩
 have HQ0 := hid (show Q 0 = ([], (T0 : Int), p3, e3) by rw [← hQ]; rfl)
 have HQS := hid (fun k => show Q (k + 1) = ((Q k).1 ++ [(ptU (ds.map (·.p)) D xs k (Q k).2).1], (ptU (ds.map (·.p)) D xs k (Q k).2).2) by rw [← hQ]; rfl)
 have HQL := hid (fun k => show (Q k).1.length = k by rw [← hQ]; exact stepsU_length k)
 rw [hQ] at HRG HSTOP ⊢
 have HEVC := hid (fun (W : World) (n : Nat) (vt : Value) (p : Nat) (e : Int) (h : Cur 159 W K g xs p e) (hp : p ≤ xs.length) (hh : Held W G 127 #[.pointer (some ⟨g, 0, none⟩), .slice A ds.length c, vt]) (ht : W.ownsRow n 9 1 vt D.length (strVs D)) (hgn : g < n) (hs : PredRow W K (.slice A ds.length c) ds) => uevent_any A c h hp hK hb hh hne ht hgn hDl hD hs hck)
 have HLT := hid (fun (W : World) (vt : Value) (p : Nat) (e : Int) (tm : Int) (h0 : 0 ≤ tm) (h1 : tm < 18446744073709551616) (h : Cur 159 W K g xs p e) (hp : p ≤ xs.length) (hh : Held W G 127 #[.pointer (some ⟨g, 0, none⟩), .slice A ds.length c, vt]) => ulater_any tm h0 h1 h hp hK hb hh hne)
 have HBY := hid hb
 have HH := hid hh
 have HSG := hid hsig
 have HGL := hid h.lt
 have HKW : Hid (K ≤ w.heap.size) := hid (by have := h.lt; omega)
 have HGG := hid hgG
 have x0 := hh.cell 0
 simp at x0
 generalize ds.length = dl at *
 clear h hb hh hsig hck hss hQ hD hgG
 go_enter Tryz.func60, Tryz.ntmps60
 go_wp2_with fail
 go_step3
 go_wp2_with fail
 refine HN1.out.mono ?_
 rintro r w1 ⟨rfl, hc1, hg1⟩
 simp only [u64V]
 have hh1 := HH.out.grown hg1 (fun e => by injection e with e; omega)
 have HC1 := hid (HCN.out w1 hc1 hh1)
 have HH1 := hid hh1
 have HG1 := hid hg1
 clear hc1 hg1 hh1 x0
 go_wp2_with fail
 refine HC1.out.mono ?_
 rintro r w2 ⟨rfl, hc2, hg2⟩
 simp only [u64V]
 have hh2 := HH1.out.grown hg2 (fun e => by have := HGG.out; injection e with e; omega)
 have HC2 := hid (HDI.out w2 hc2 hh2)
 have HH2 := hid hh2
 have HG2 := hid (grown_trans HG1.out hg2)
 clear hc2 hg2 hh2
 go_wp2_with fail
 refine HC2.out.mono ?_
 rintro r w3 ⟨⟨AD, cD, rfl, hoD⟩, hc3, hg3⟩
 have hh3 := HH2.out.grown hg3 (fun e => by have := HGG.out; injection e with e; omega)
 obtain ⟨y0, y1, y2⟩ := cC3 hh3
 have yf := hh3.frozen 2
 simp at y0 y1 y2
 have hs23 := HG2.out.size
 have hs3 := hg3.size
 have HC4 := hid (hc3.grown (grown_put w3 G 2 (.slice AD D.length cD)) (.inr HGG.out) hK)
 have HH4 := hid (show Held (w3.setCell ⟨G, 2, none⟩ (.slice AD D.length cD)) G 127 #[.pointer (some ⟨g, 0, none⟩), .slice A dl c, .slice AD D.length cD] by simpa using hh3.put 2 (.slice AD D.length cD))
 have HO4 := hid (World.ownsRow.kept hoD (grown_put w3 G 2 (.slice AD D.length cD)) (.inr (fun e => own_not_held hoD hh3 (by decide) e.symm)))
 have HB4 := hid (show Below K w (w3.setCell ⟨G, 2, none⟩ (.slice AD D.length cD)) from ((Below.refl K w).grown (grown_trans HG2.out hg3) HKW.out (fun j e => by injection e with e; omega)).grown (grown_put w3 G 2 _) (by have := HKW.out; omega) (fun j e => by have := HGG.out; injection e with e; omega))
 have hsz4 : w.heap.size ≤ (w3.setCell ⟨G, 2, none⟩ (.slice AD D.length cD)).heap.size := Nat.le_trans (Nat.le_trans hs23 hs3) (grown_put w3 G 2 _).size
 have hgn4 : g < w2.heap.size := by have := HGL.out; omega
 have HSZ4 := hid hsz4
 clear hoD hc3 hg3 hh3 hsz4
 go_wp2_with fail
 generalize w3.setCell ⟨G, 2, none⟩ (.slice AD D.length cD) = w4 at HC4 HH4 HO4 HB4 HSZ4 ⊢
 obtain ⟨N4, hN4⟩ : ∃ N4, w4.heap.size = N4 := ⟨_, rfl⟩
 have HN4 := hid hN4
 have HPT := hid (show PtAt w4 N4 K g xs none 0 [] (Q 0) w4 by
  rw [HQ0.out]
  exact ⟨HC4.out, OwnT.nil _ _, rfl, World.grownBy.refl _ _⟩)
 have HGN4 : Hid (g < N4) := hid (by have := HSZ4.out; have := HGL.out; omega)
 have HKN4 : Hid (w.heap.size ≤ N4) := hid (by have := HSZ4.out; omega)
 have HKS := hid (fun W (hb : Below K w W) => HSG.out.below hb)
 obtain ⟨ip, hip, hp0, hp1, hp2⟩ := info_parts Tryz.infoPoint
 obtain ⟨iv, hiv, hv0, hv1, hv2⟩ := info_parts Tryz.infoEvent
 clear y0 y1 y2 yf hs23 hs3 hN4
 go_step3
 go_wp2_with fail
 go_loopg [3, 4, 22] N (fun gk t tm i wr => ∃ (k : Nat) (Tk : Int) (A : Option Addr) (c : Nat) (ps : List Pm), k ≤ N ∧ t = .slice A ps.length c ∧ tm = .int .u64 Tk ∧ i = .int .u64 k ∧ Hid (Tk = (Q k).2.1) ∧ Hid (N - k = gk) ∧ Hid (PtAt w4 N4 K g xs A c ps (Q k) wr))
 case atStart => exact ⟨0, T0, none, 0, [], Nat.zero_le _, rfl, rfl, rfl, hid (by rw [HQ0.out]), hid rfl, HPT⟩
 case round =>
  obtain ⟨k, Tk, At, ct, ps, hk, rfl, rfl, rfl, HTK, HGK, HPT⟩ := hrel
  obtain ⟨wx, hwx⟩ : ∃ wx, wx = wr := ⟨_, rfl⟩
  subst hwx
  by_cases hlt : k < N
  ·have hpt := HPT.out
   have hhx := HH4.out.grown hpt.but (fun e => by have := HGG.out; injection e with e; omega)
   have HHX := hid hhx
   have HOX := hid (World.ownsRow.kept HO4.out hpt.but (.inr (own_low HO4.out hgn4)))
   have hx4 := hpt.but.size
   have HBX := hid (HB4.out.grown hpt.but (by have := HKW.out; have := HSZ4.out; omega) (fun j e => by injection e with e; omega))
   obtain ⟨hr1, hr2, hr3⟩ := HRG.out k
   obtain ⟨hw1, hw2⟩ := HWR.out k (Q k).2 hr1 ⟨hr2, hr3⟩
   obtain ⟨⟨M, hM, hM1, _⟩, _, hM3⟩ := HNR.out (whenU xs k (Q k).2).2.1 (whenU xs k (Q k).2).2.2 hw2
   have hst := fun j => HSTOP.out k j hlt
   have hps : ps.length = k := by
    have := congrArg List.length hpt.say
    rwa [List.length_map, HQL.out] at this
   have HPS := hid hps
   have hnext := HQS.out k
   unfold ptU evsU at hnext
   have HNUM := hid (fun (W : World) (hc : Cur 159 W K g xs (whenU xs k (Q k).2).2.1 (whenU xs k (Q k).2).2.2) => (show Calls Tryz.prog 87 #[.pointer (some ⟨g, 0, none⟩), .int .u64 1024] W (Took u64V W K g xs (nx 1024 xs (whenU xs k (Q k).2).2.1 (whenU xs k (Q k).2).2.2)) from number_any 1024 hc hw2 hK HBY.out))
   have HES := hid (HEL.out (nx 1024 xs (whenU xs k (Q k).2).2.1 (whenU xs k (Q k).2).2.2).2.1 (nx 1024 xs (whenU xs k (Q k).2).2.1 (whenU xs k (Q k).2).2.2).2.2 hM3)
   generalize nx 1024 xs (whenU xs k (Q k).2).2.1 (whenU xs k (Q k).2).2.2 = t at HNUM hM hM3 hst hnext HES
   obtain ⟨Mi, p5, e5⟩ := t
   simp only at hM hM3 hst hnext HES
   subst hM
   rw [Int.toNat_natCast] at hst hnext
   obtain ⟨S, hS⟩ : ∃ S : Nat → List Ev × Nat × Int, evnU (ds.map (·.p)) D xs (p5, e5) = S := ⟨_, rfl⟩
   have HS0 := hid (show S 0 = ([], p5, e5) by rw [← hS]; rfl)
   have HSS := hid (fun j => show S (j + 1) = ((S j).1 ++ [(evU (ds.map (·.p)) D xs (S j).2.1 (S j).2.2).1], (evU (ds.map (·.p)) D xs (S j).2.1 (S j).2.2).2) by rw [← hS]; rfl)
   have HSL := hid (fun j => show (S j).1.length = j by rw [← hS]; exact stepsU_length j)
   rw [hS] at hst hnext HES
   have HST := hid hst
   have HNX := hid hnext
   have hM4 : M ≤ 1024 := by omega
   have hx40 : N4 ≤ wx.heap.size := by rw [← HN4.out]; exact hx4
   obtain ⟨NR, hNR⟩ : ∃ NR, wx.heap.size = NR := ⟨_, rfl⟩
   have HNRR := hid hNR
   rw [hNR] at hx40
   have y0 := hhx.cell 0
   simp at y0
   clear hst hnext hS hM3 hM1 hhx hx4 hps
   by_cases h0 : k = 0
   focus
    have hk0 : ¬ (0 : Int) < (k : Int) := by omega
    have hwl : whenU xs k (Q k).2 = (Q k).2 := by unfold whenU; rw [if_pos h0]
    have HCZ : Hid (Cur 159 wx K g xs (whenU xs k (Q k).2).2.1 (whenU xs k (Q k).2).2.2) := hid (by rw [hwl]; exact HPT.out.cur)
    have HTM : Hid (Tk = (whenU xs k (Q k).2).1) := hid (by rw [hwl]; exact HTK.out)
    have HGZ := hid (World.grownBy.refl wx (some g))
    obtain ⟨tm1, rfl⟩ : ∃ tm1, tm1 = Tk := ⟨_, rfl⟩
    obtain ⟨wz, hwz⟩ : ∃ wz, wz = wx := ⟨_, rfl⟩
    rw [← hwz] at HCZ
    have HGZ : Hid (wx.grownBy wz (some g)) := by rw [hwz]; exact HGZ
    clear y0 hwl
    rw [← hwz]
    clear hwz
   rotate_left
   focus
    have hk0 : (0 : Int) < (k : Int) := by omega
    have hkn : ¬ k = 0 := h0
    have hwl : laterU xs Tk (Q k).2.2.1 (Q k).2.2.2 = whenU xs k (Q k).2 := by rw [HTK.out]; unfold whenU; rw [if_neg h0]
    have hl := HLT.out wx (.slice AD D.length cD) (Q k).2.2.1 (Q k).2.2.2 Tk (by rw [HTK.out]; exact hr2) (by rw [HTK.out]; exact hr3) HPT.out.cur hr1 HHX.out
    rw [hwl] at hl
    have HL := hid hl
    clear hl hwl
    go_wp2_with fail
    refine HL.out.mono ?_
    rintro r wz ⟨rfl, hcz, hgz⟩
    simp only [u64V]
    obtain ⟨tm1, htm1⟩ : ∃ tm1, tm1 = (whenU xs k (Q k).2).1 := ⟨_, rfl⟩
    rw [← htm1]
    have HTM := hid htm1
    have HCZ := hid hcz
    have HGZ := hid hgz
    clear hcz hgz htm1 y0
   all_goals
    have hhz := HHX.out.grown HGZ.out (fun e => by have := HGG.out; injection e with e; omega)
    obtain ⟨z0, z1⟩ := cC2 hhz
    simp at z0 z1
    have hsz := HGZ.out.size
    rw [HNRR.out] at hsz
    obtain ⟨P, hP⟩ : ∃ P, wz.heap.size = P := ⟨_, rfl⟩
    have HP := hid hP
    have hPN : NR ≤ P := by omega
    have hGz := hhz.lt
    have hGP : G < P := by rw [← hP]; exact hGz
    have al := (Below.refl wz.heap.size wz).alloc (Nat.le_refl _) (.cells #[.int .u64 tm1, .slice none 0 0] 55)
    have HNM := hid (HNUM.out _ (HCZ.out.below al hK))
    have HBP := hid (show Held (wz.alloc (.cells #[.int .u64 tm1, .slice none 0 0] 55)) P 55 #[.int .u64 tm1, .slice none 0 0] by rw [← hP]; exact heap_alloc_new wz _)
    have HGA := hid (grown_trans HGZ.out (grown_below al (some g)))
    clear hhz al
    go_wp2_with fail
    generalize wz.alloc (.cells #[.int .u64 tm1, .slice none 0 0] 55) = wa at HNM HBP HGA ⊢
    refine HNM.out.mono ?_
    rintro r w5 ⟨rfl, hc5, hg5⟩
    simp only [u64V]
    have HPX := hid (show PxAt wx NR K g P xs tm1 none 0 [] (S 0) w5 by
     rw [HS0.out]
     exact ⟨hc5, HBP.out.grown hg5 (fun e => by have := HGN4.out; injection e with e; omega), OwnE.nil _ _, rfl, grown_trans HGA.out hg5⟩)
    clear hc5 hg5 z0 z1 hGz hGP hP
    go_wp2_with fail
    go_loopg [38] M (fun gj i wr => ∃ (j : Nat) (A3 : Option Addr) (c3 : Nat) (es : List Em), j ≤ M ∧ i = .int .u64 j ∧ Hid (M - j = gj) ∧ Hid (PxAt wx NR K g P xs tm1 A3 c3 es (S j) wr))
    case atStart => exact ⟨0, none, 0, [], Nat.zero_le _, rfl, hid rfl, HPX⟩
    case round =>
     obtain ⟨j, A3, c3, es, hj, rfl, HGJ, HPX⟩ := hrel
     by_cases hlj : j < M
     ·have hpx := HPX.out
      have hhr := HHX.out.grown hpx.but (fun e => by have := HGG.out; injection e with e; omega)
      have htr := World.ownsRow.kept HOX.out hpx.but (.inr (own_low HOX.out hgn4))
      have hkb := HBX.out.grown hpx.but (by have := HBX.out.size; have := HKW.out; omega) (fun j e => by injection e with e; omega)
      have hspr := HKS.out _ hkb
      have hKwr : K ≤ wr.heap.size := by have := hkb.size; have := HKW.out; omega
      have HEVN := hid (fun W (hb : Below wr.heap.size wr W) => HEVC.out W _ _ _ _ (hpx.cur.below hb hK) (HES.out j) (hhr.below hb hhr.lt) (own_below htr hb) hgn4 (hspr.below (hb.mono hKwr)))
      have HBOX := hid (fun W (hb : Below wr.heap.size wr W) => hpx.box.below hb hpx.box.lt)
      have hes : es.length ≤ 1024 := by
       have := congrArg List.length hpx.say
       rw [List.length_map, HSL.out] at this
       omega
      have hszr := hpx.but.size
      rw [HNRR.out] at hszr
      have hsn := HSS.out j
      generalize evU (ds.map (·.p)) D xs (S j).2.1 (S j).2.2 = u at HEVN hsn
      obtain ⟨v, q3, e3⟩ := u
      simp only at hsn
      have HSN := hid hsn
      have HSTJ := hid (HST.out (j + 1) (by omega))
      have HESJ := hid (HES.out (j + 1))
      rw [hsn] at HSTJ HESJ
      simp only at HSTJ HESJ
      clear hsn hhr htr hkb hspr hpx
      go_wp2_with fail
      refine wp_region_held_drew (S := fun _ => True) (by kernel_rfl) trivial (fun _ => ?_)
      refine wpAnyH_take (i := 0) (v := .pointer (some ⟨P, 1, none⟩)) rfl (by kernel_rfl) (by kernel_rfl) (by kernel_rfl) (fun _ _ _ h => h) (Or.inl ⟨by rfl, fun W _ => by go_simp⟩) trivial ?_
      try simp only [pU]
      refine wpAnyH_take (i := 2) (v := .pointer (some ⟨G, 0, none⟩)) rfl (by kernel_rfl) (by kernel_rfl) (by kernel_rfl) (fun _ _ _ h => h) (Or.inl ⟨by rfl, fun W _ => by go_simp⟩) trivial ?_
      try simp only [pU]
      refine wpAnyH_ready (rs := [1, 3]) (by kernel_rfl) (by simp) ?_
      refine AllReadyH.cons rfl (fun Kq hKq => ?_) (AllReadyH.cons rfl (fun Kq hKq => ?_) AllReadyH.nil)
      ·skip
       have y0 := (HBOX.out _ (Below.refl _ _).drew).cell 1
       simp at y0
       go_simp
       refine hKq.out _ _ trivial (fun _ => ?_)
       clear hKq Kq
       try simp only [pU]
       refine wpAnyH_ready (rs := [3]) (by kernel_rfl) (by simp) ?_
       refine AllReadyH.cons rfl (fun Kq hKq => ?_) AllReadyH.nil
       go_simp
       refine (HEVN.out _ (Below.refl _ _).drew).mono ?_
       rintro rr w6 ⟨⟨A2, c2, rfl, hog⟩, hc4, hg4⟩
       refine hKq.out _ _ trivial (fun _ => ?_)
       clear hKq Kq
       try simp only [pU]
       refine wpAnyH_ready (rs := [4]) (by kernel_rfl) (by simp) ?_
       refine AllReadyH.cons rfl (fun Kq hKq => ?_) AllReadyH.nil
       go_simp
       refine hKq.out _ _ trivial (fun _ => ?_)
       clear hKq Kq
       try simp only [pU]
       refine wpAnyH_ready (rs := [5]) (by kernel_rfl) (by simp) ?_
       refine AllReadyH.cons rfl (fun Kq hKq => ?_) AllReadyH.nil
       have ho4 := own_below ((HPX.out.own.kept (grown_drew hg4) (by have := HGN4.out; omega)).1) ((Below.refl _ _).alloc (Nat.le_refl _) (.cells #[.int .i64 v.p, .slice A2 v.args.length c2] 91))
       have hs4 := (grown_drew hg4).size
       refine step_append_erow_at (by rfl) (.tmp 41) (.tmp 44) 53 91 (by rfl) NR iv _ 2 32 Tryz.underlying53 hiv hv0 hv1 hv2 rfl (by decide) (.slice A3 es.length c3) es.length (flatE es) (by rfl) ho4 (w6.heap.size + 1) (.slice (some ⟨w6.heap.size, 0, none⟩) 1 1) 1 (flatE [(⟨v.p, v.args, A2, c2⟩ : Em)]) (by rfl) (ERow.held (t := 91) (heap_alloc_new w6 _) (by omega) (by unfold maxLen; omega)) (flatE_length _) (oneE _) (by unfold maxLen; omega) (by omega) (by simp; omega) (es ++ [(⟨v.p, v.args, A2, c2⟩ : Em)]).length (by simp) (flatE (es ++ [(⟨v.p, v.args, A2, c2⟩ : Em)])) (by rw [flatE_append]) ?_
       intro A5 c5 w8 hO5 hg5 _
       obtain ⟨hmore, hP5⟩ := HPX.out.more HNRR.out.symm hPN (by have := HGN4.out; omega) hK hc4 (grown_drew hg4) (hog.base (by simp; omega)) hO5 hg5
       have HMORE := hid hmore
       refine hKq.out _ _ trivial (fun _ => ?_)
       clear hKq Kq
       try simp only [pU]
       refine wpAnyH_take (i := 6) (v := .pointer (some ⟨P, 1, none⟩)) rfl (by kernel_rfl) (by kernel_rfl) (by kernel_rfl) (fun _ _ _ h => h) (Or.inl ⟨by rfl, fun W _ => by go_simp⟩) trivial ?_
       try simp only [pU]
       refine wpAnyH_ready (rs := [7]) (by kernel_rfl) (by simp) ?_
       refine AllReadyH.cons rfl (fun Kq hKq => ?_) AllReadyH.nil
       have y0 := hP5.cell 1
       have yf := hP5.frozen 1
       simp at y0
       go_simp
       refine hKq.out _ _ trivial (fun _ => ?_)
       clear hKq Kq
       try simp only [pU]
       refine wpAnyH_done (by kernel_rfl) ?_ _
       clear y0 yf hP5 hmore hO5 hg5 ho4 hc4 hg4 hog
       have HSP := hid (ustopped_any HMORE.out.cur (HHX.out.grown HMORE.out.but (fun e => by have := HGG.out; injection e with e; omega)))
       rw [List.length_append, List.length_cons, List.length_nil, Nat.zero_add] at HSP
       by_cases he : e3 = 0
       ·subst he
        go_wp2_with fail
        refine HSP.out.mono ?_
        rintro rr w7 ⟨rfl, rfl⟩
        go_wp2_with fail
        go_roundg (M - (j + 1))
        case measure => have := HGJ.out; omega
        case rel => exact ⟨j + 1, A5, c5, es ++ [(⟨v.p, v.args, A2, c2⟩ : Em)], by omega, by go_num, hid rfl, hid (by rw [HSN.out]; have h := HMORE.out; simp only [pW] at h; exact h)⟩
       ·rw [decide_eq_true he] at HSP
        have HER := hid (HSTJ.out he)
        have HE0 := hid he
        clear he
        go_wp2_with fail
        refine HSP.out.mono ?_
        rintro rr w7 ⟨rfl, rfl⟩
        have hmx := HMORE.out
        simp only [pW] at hmx
        have HMX := hid hmx
        clear hmx
        go_wp2_with fail
        go_ret
        exact ⟨At, ct, ps, q3, e3, .slice AD D.length cD, rfl, (HPT.out.own.kept HMX.out.but HGN4.out).base HKN4.out, HMX.out.cur, HESJ.out, HER.out.symm, fun q => absurd q HE0.out, HHX.out.grown HMX.out.but (fun e => by have := HGG.out; injection e with e; omega), HBX.out.grown HMX.out.but (by have := HBX.out.size; have := HKW.out; omega) (fun j e => by injection e with e; omega)⟩
      ·skip
       go_simp
       refine (HEVN.out _ (Below.refl _ _).drew).mono ?_
       rintro rr w6 ⟨⟨A2, c2, rfl, hog⟩, hc4, hg4⟩
       refine hKq.out _ _ trivial (fun _ => ?_)
       clear hKq Kq
       try simp only [pU]
       refine wpAnyH_ready (rs := [1, 4]) (by kernel_rfl) (by simp) ?_
       refine AllReadyH.cons rfl (fun Kq hKq => ?_) (AllReadyH.cons rfl (fun Kq hKq => ?_) AllReadyH.nil)
       ·skip
        have y0 := ((HBOX.out _ (Below.refl _ _)).grown (grown_drew hg4) (fun e => by have := HGN4.out; injection e with e; omega)).cell 1
        simp at y0
        go_simp
        refine hKq.out _ _ trivial (fun _ => ?_)
        clear hKq Kq
        try simp only [pU]
        refine wpAnyH_ready (rs := [4]) (by kernel_rfl) (by simp) ?_
        refine AllReadyH.cons rfl (fun Kq hKq => ?_) AllReadyH.nil
        go_simp
        refine hKq.out _ _ trivial (fun _ => ?_)
        clear hKq Kq
        try simp only [pU]
        refine wpAnyH_ready (rs := [5]) (by kernel_rfl) (by simp) ?_
        refine AllReadyH.cons rfl (fun Kq hKq => ?_) AllReadyH.nil
        have ho4 := own_below ((HPX.out.own.kept (grown_drew hg4) (by have := HGN4.out; omega)).1) ((Below.refl _ _).alloc (Nat.le_refl _) (.cells #[.int .i64 v.p, .slice A2 v.args.length c2] 91))
        have hs4 := (grown_drew hg4).size
        refine step_append_erow_at (by rfl) (.tmp 41) (.tmp 44) 53 91 (by rfl) NR iv _ 2 32 Tryz.underlying53 hiv hv0 hv1 hv2 rfl (by decide) (.slice A3 es.length c3) es.length (flatE es) (by rfl) ho4 (w6.heap.size + 1) (.slice (some ⟨w6.heap.size, 0, none⟩) 1 1) 1 (flatE [(⟨v.p, v.args, A2, c2⟩ : Em)]) (by rfl) (ERow.held (t := 91) (heap_alloc_new w6 _) (by omega) (by unfold maxLen; omega)) (flatE_length _) (oneE _) (by unfold maxLen; omega) (by omega) (by simp; omega) (es ++ [(⟨v.p, v.args, A2, c2⟩ : Em)]).length (by simp) (flatE (es ++ [(⟨v.p, v.args, A2, c2⟩ : Em)])) (by rw [flatE_append]) ?_
        intro A5 c5 w8 hO5 hg5 _
        obtain ⟨hmore, hP5⟩ := HPX.out.more HNRR.out.symm hPN (by have := HGN4.out; omega) hK hc4 (grown_drew hg4) (hog.base (by simp; omega)) hO5 hg5
        have HMORE := hid hmore
        refine hKq.out _ _ trivial (fun _ => ?_)
        clear hKq Kq
        try simp only [pU]
        refine wpAnyH_take (i := 6) (v := .pointer (some ⟨P, 1, none⟩)) rfl (by kernel_rfl) (by kernel_rfl) (by kernel_rfl) (fun _ _ _ h => h) (Or.inl ⟨by rfl, fun W _ => by go_simp⟩) trivial ?_
        try simp only [pU]
        refine wpAnyH_ready (rs := [7]) (by kernel_rfl) (by simp) ?_
        refine AllReadyH.cons rfl (fun Kq hKq => ?_) AllReadyH.nil
        have y0 := hP5.cell 1
        have yf := hP5.frozen 1
        simp at y0
        go_simp
        refine hKq.out _ _ trivial (fun _ => ?_)
        clear hKq Kq
        try simp only [pU]
        refine wpAnyH_done (by kernel_rfl) ?_ _
        clear y0 yf hP5 hmore hO5 hg5 ho4 hc4 hg4 hog
        have HSP := hid (ustopped_any HMORE.out.cur (HHX.out.grown HMORE.out.but (fun e => by have := HGG.out; injection e with e; omega)))
        rw [List.length_append, List.length_cons, List.length_nil, Nat.zero_add] at HSP
        by_cases he : e3 = 0
        ·subst he
         go_wp2_with fail
         refine HSP.out.mono ?_
         rintro rr w7 ⟨rfl, rfl⟩
         go_wp2_with fail
         go_roundg (M - (j + 1))
         case measure => have := HGJ.out; omega
         case rel => exact ⟨j + 1, A5, c5, es ++ [(⟨v.p, v.args, A2, c2⟩ : Em)], by omega, by go_num, hid rfl, hid (by rw [HSN.out]; have h := HMORE.out; simp only [pW] at h; exact h)⟩
        ·rw [decide_eq_true he] at HSP
         have HER := hid (HSTJ.out he)
         have HE0 := hid he
         clear he
         go_wp2_with fail
         refine HSP.out.mono ?_
         rintro rr w7 ⟨rfl, rfl⟩
         have hmx := HMORE.out
         simp only [pW] at hmx
         have HMX := hid hmx
         clear hmx
         go_wp2_with fail
         go_ret
         exact ⟨At, ct, ps, q3, e3, .slice AD D.length cD, rfl, (HPT.out.own.kept HMX.out.but HGN4.out).base HKN4.out, HMX.out.cur, HESJ.out, HER.out.symm, fun q => absurd q HE0.out, HHX.out.grown HMX.out.but (fun e => by have := HGG.out; injection e with e; omega), HBX.out.grown HMX.out.but (by have := HBX.out.size; have := HKW.out; omega) (fun j e => by injection e with e; omega)⟩
       ·skip
        go_simp
        refine hKq.out _ _ trivial (fun _ => ?_)
        clear hKq Kq
        try simp only [pU]
        refine wpAnyH_ready (rs := [1]) (by kernel_rfl) (by simp) ?_
        refine AllReadyH.cons rfl (fun Kq hKq => ?_) AllReadyH.nil
        have y0 := (((HBOX.out _ (Below.refl _ _)).grown (grown_drew hg4) (fun e => by have := HGN4.out; injection e with e; omega)).below ((Below.refl w6.heap.size w6).alloc (Nat.le_refl _) (.cells #[.int .i64 v.p, .slice A2 v.args.length c2] 91)) ((HBOX.out _ (Below.refl _ _)).grown (grown_drew hg4) (fun e => by have := HGN4.out; injection e with e; omega)).lt).cell 1
        simp at y0
        go_simp
        refine hKq.out _ _ trivial (fun _ => ?_)
        clear hKq Kq
        try simp only [pU]
        refine wpAnyH_ready (rs := [5]) (by kernel_rfl) (by simp) ?_
        refine AllReadyH.cons rfl (fun Kq hKq => ?_) AllReadyH.nil
        have ho4 := own_below ((HPX.out.own.kept (grown_drew hg4) (by have := HGN4.out; omega)).1) ((Below.refl _ _).alloc (Nat.le_refl _) (.cells #[.int .i64 v.p, .slice A2 v.args.length c2] 91))
        have hs4 := (grown_drew hg4).size
        refine step_append_erow_at (by rfl) (.tmp 41) (.tmp 44) 53 91 (by rfl) NR iv _ 2 32 Tryz.underlying53 hiv hv0 hv1 hv2 rfl (by decide) (.slice A3 es.length c3) es.length (flatE es) (by rfl) ho4 (w6.heap.size + 1) (.slice (some ⟨w6.heap.size, 0, none⟩) 1 1) 1 (flatE [(⟨v.p, v.args, A2, c2⟩ : Em)]) (by rfl) (ERow.held (t := 91) (heap_alloc_new w6 _) (by omega) (by unfold maxLen; omega)) (flatE_length _) (oneE _) (by unfold maxLen; omega) (by omega) (by simp; omega) (es ++ [(⟨v.p, v.args, A2, c2⟩ : Em)]).length (by simp) (flatE (es ++ [(⟨v.p, v.args, A2, c2⟩ : Em)])) (by rw [flatE_append]) ?_
        intro A5 c5 w8 hO5 hg5 _
        obtain ⟨hmore, hP5⟩ := HPX.out.more HNRR.out.symm hPN (by have := HGN4.out; omega) hK hc4 (grown_drew hg4) (hog.base (by simp; omega)) hO5 hg5
        have HMORE := hid hmore
        refine hKq.out _ _ trivial (fun _ => ?_)
        clear hKq Kq
        try simp only [pU]
        refine wpAnyH_take (i := 6) (v := .pointer (some ⟨P, 1, none⟩)) rfl (by kernel_rfl) (by kernel_rfl) (by kernel_rfl) (fun _ _ _ h => h) (Or.inl ⟨by rfl, fun W _ => by go_simp⟩) trivial ?_
        try simp only [pU]
        refine wpAnyH_ready (rs := [7]) (by kernel_rfl) (by simp) ?_
        refine AllReadyH.cons rfl (fun Kq hKq => ?_) AllReadyH.nil
        have y0 := hP5.cell 1
        have yf := hP5.frozen 1
        simp at y0
        go_simp
        refine hKq.out _ _ trivial (fun _ => ?_)
        clear hKq Kq
        try simp only [pU]
        refine wpAnyH_done (by kernel_rfl) ?_ _
        clear y0 yf hP5 hmore hO5 hg5 ho4 hc4 hg4 hog
        have HSP := hid (ustopped_any HMORE.out.cur (HHX.out.grown HMORE.out.but (fun e => by have := HGG.out; injection e with e; omega)))
        rw [List.length_append, List.length_cons, List.length_nil, Nat.zero_add] at HSP
        by_cases he : e3 = 0
        ·subst he
         go_wp2_with fail
         refine HSP.out.mono ?_
         rintro rr w7 ⟨rfl, rfl⟩
         go_wp2_with fail
         go_roundg (M - (j + 1))
         case measure => have := HGJ.out; omega
         case rel => exact ⟨j + 1, A5, c5, es ++ [(⟨v.p, v.args, A2, c2⟩ : Em)], by omega, by go_num, hid rfl, hid (by rw [HSN.out]; have h := HMORE.out; simp only [pW] at h; exact h)⟩
        ·rw [decide_eq_true he] at HSP
         have HER := hid (HSTJ.out he)
         have HE0 := hid he
         clear he
         go_wp2_with fail
         refine HSP.out.mono ?_
         rintro rr w7 ⟨rfl, rfl⟩
         have hmx := HMORE.out
         simp only [pW] at hmx
         have HMX := hid hmx
         clear hmx
         go_wp2_with fail
         go_ret
         exact ⟨At, ct, ps, q3, e3, .slice AD D.length cD, rfl, (HPT.out.own.kept HMX.out.but HGN4.out).base HKN4.out, HMX.out.cur, HESJ.out, HER.out.symm, fun q => absurd q HE0.out, HHX.out.grown HMX.out.but (fun e => by have := HGG.out; injection e with e; omega), HBX.out.grown HMX.out.but (by have := HBX.out.size; have := HKW.out; omega) (fun j e => by injection e with e; omega)⟩
     ·obtain rfl : j = M := by omega
      have hpx := HPX.out
      have HSP := hid (ustopped_any hpx.cur (HHX.out.grown hpx.but (fun e => by have := HGG.out; injection e with e; omega)))
      have HSTJ := hid (HST.out j (Nat.le_refl _))
      have HESJ := hid (HES.out j)
      generalize hSj : S j = sj at HPX HSP HSTJ HESJ HNX hpx
      obtain ⟨vs, q3, e3⟩ := sj
      simp only at HSTJ HESJ HSP
      by_cases he : e3 = 0
      ·subst he
       obtain ⟨c0, c1⟩ := cC2 hpx.box
       simp at c0 c1
       have hes : es.length ≤ 1024 := by
        have := congrArg List.length hpx.say
        rw [List.length_map, ← show (S j).1 = vs by rw [hSj], HSL.out] at this
        omega
       have hpl : ps.length ≤ 1024 := by rw [HPS.out]; omega
       have hszr := hpx.but.size
       rw [HNRR.out] at hszr
       have ho4 := own_below ((HPT.out.own.kept hpx.but HGN4.out).1) ((Below.refl wr.heap.size wr).alloc (Nat.le_refl _) (.cells #[.int .u64 tm1, .slice A3 es.length c3] 55))
       clear hpx
       go_wp2_with fail
       refine HSP.out.mono ?_
       rintro rr w7 ⟨rfl, rfl⟩
       go_wp2_with (at_builtin; refine wpList_append_erow _ rfl _ _ 25 55 rfl N4 ip _ 2 32 Tryz.underlying25 hip hp0 hp1 hp2 rfl (by decide) (.slice At ps.length ct) ps.length (flatN ps) rfl ho4 (wr.heap.size + 1) (.slice (some ⟨wr.heap.size, 0, none⟩) 1 1) 1 (flatN [(⟨tm1, es, A3, c3⟩ : Pm)]) (by rfl) (ERow.held (t := 55) (heap_alloc_new wr _) (by omega) (by unfold maxLen; omega)) (flatN_length _) (oneN _) (by unfold maxLen; omega) (by omega) (by simp; omega) (ps ++ [(⟨tm1, es, A3, c3⟩ : Pm)]).length (by simp) (flatN (ps ++ [(⟨tm1, es, A3, c3⟩ : Pm)])) (by rw [flatN_append]) ?_; intro A5 c5 w7 hO7 hg7 _)
       have HPT2 := hid (HPT.out.more HPX.out HNRR.out.symm HN4.out.symm HGN4.out hK (by rw [HTM.out]; exact hw1) hO7 hg7)
       clear hO7 hg7 ho4 c0 c1
       go_wp2_with fail
       go_roundg (N - (k + 1))
       case measure => have := HGK.out; omega
       case rel => exact ⟨k + 1, tm1, A5, c5, ps ++ [(⟨tm1, es, A3, c3⟩ : Pm)], by omega, by simp, rfl, by go_num, hid (by rw [HNX.out]; exact HTM.out), hid rfl, hid (by rw [HNX.out, ← HTM.out]; exact HPT2.out)⟩
      ·rw [decide_eq_true he] at HSP
       have HER := hid (HSTJ.out he)
       have HE0 := hid he
       clear he hpx
       go_wp2_with fail
       refine HSP.out.mono ?_
       rintro rr w7 ⟨rfl, rfl⟩
       go_wp2_with fail
       go_ret
       exact ⟨At, ct, ps, q3, e3, .slice AD D.length cD, rfl, (HPT.out.own.kept HPX.out.but HGN4.out).base HKN4.out, HPX.out.cur, HESJ.out, HER.out.symm, fun q => absurd q HE0.out, HHX.out.grown HPX.out.but (fun e => by have := HGG.out; injection e with e; omega), HBX.out.grown HPX.out.but (by have := HBX.out.size; have := HKW.out; omega) (fun j e => by injection e with e; omega)⟩
  ·obtain rfl : k = N := by omega
   have HHX := hid (HH4.out.grown HPT.out.but (fun e => by have := HGG.out; injection e with e; omega))
   have HBX := hid (HB4.out.grown HPT.out.but (by have := HKW.out; have := HSZ4.out; omega) (fun j e => by injection e with e; omega))
   go_wp2_with fail
   go_ret
   exact ⟨At, ct, ps, (Q k).2.2.1, (Q k).2.2.2, .slice AD D.length cD, rfl, HPT.out.own.base HKN4.out, HPT.out.cur, (HRG.out k).1, rfl, fun _ => ⟨rfl, HPT.out.say⟩, HHX.out, HBX.out⟩
theorem uequal_any (A B : Option Addr) (c d : Nat) (xs ys : List Int) (hx : ∀ x ∈ xs, 0 ≤ x ∧ x < 256) (hy : ∀ y ∈ ys, 0 ≤ y ∧ y < 256) (w : World) (h1 : Row w w.heap.size (.slice A xs.length c) xs) (h2 : Row w w.heap.size (.slice B ys.length d) ys) :
  Calls Tryz.prog 101 #[.slice A xs.length c, .slice B ys.length d] w fun e w' => e = .returned (.bool (decide (xs = ys))) ∧ w = w' := by
 have hc1 := h1.convert (P := Tryz.prog) 22 5 9 Tryz.underlying22 Tryz.underlying5 Tryz.underlying9
 have hc2 := h2.convert (P := Tryz.prog) 22 5 9 Tryz.underlying22 Tryz.underlying5 Tryz.underlying9
 have he : ((strOfNums xs).toList == (strOfNums ys).toList) = decide (xs = ys) := by
  by_cases h : xs = ys
  ·subst h
   simp
  ·rw [decide_eq_false h]
   refine beq_eq_false_iff_ne.2 fun e => h (str_inj hx hy ?_)
   rw [Lib.toList_data, Lib.toList_data] at e
   exact ByteArray.ext (Array.toList_inj.1 e)
 generalize decide (xs = ys) = b at he ⊢
 generalize strOfNums xs = s at hc1 he
 generalize strOfNums ys = t at hc2 he
 generalize xs.length = m at hc1 ⊢
 generalize ys.length = k at hc2 ⊢
 clear h1 h2
 go_enter Tryz.func101, Tryz.ntmps101
 go_wp2_with fail
 go_ret
 exact ⟨rfl, rfl⟩
theorem uway_any (A : Option Addr) (c : Nat) (ds : List Pd) (T : Option Addr) (ct : Nat) (ps : List Pm) (B : Option Addr) (cb : Nat) (xs : List Int) (hb : ∀ x ∈ xs, 0 ≤ x ∧ x < 256) (w : World) (hrow : PredRow w w.heap.size (.slice A ds.length c) ds) (ht : TrRow w w.heap.size (.slice T ps.length ct) ps) (hx : Row w w.heap.size (.slice B xs.length cb) xs) :
  Calls Tryz.prog 61 #[.slice A ds.length c, .slice T ps.length ct, .slice B xs.length cb] w fun e w' => e = .returned (.int .i64 (wayU (ds.map (·.p)) xs (ps.map (·.p)))) ∧ Below w.heap.size w w' := by
 have HPU := blput_any A c ds T ct ps w hrow ht
 have hpb : ∀ y ∈ (putB (ds.map (·.p)) ps).1, 0 ≤ y ∧ y < 256 := fun y hy => by
  unfold putB at hy
  split at hy
  ·rename_i h0
   split at hy
   ·simp at hy
   ·exact payB_bytes (ht.bok h0) y hy
  ·simp at hy
 unfold wayU
 rw [putB_plain]
 obtain ⟨hsc1, hsc2⟩ : xs.length ≤ cb ∧ cb ≤ 9223372036854775807 := by
  obtain ⟨A', c', hv, q1, q2, _⟩ := id hx
  injection hv with _ _ e3
  unfold maxLen at q2
  exact ⟨by omega, by omega⟩
 by_cases h4 : 4096 < xs.length
 ·rw [if_pos h4]
  have h4i : (4096 : Int) < (xs.length : Int) := by omega
  generalize xs.length = m at *
  clear HPU hpb hrow ht hx hb h4
  go_enter Tryz.func61, Tryz.ntmps61
  go_wp2_with fail
  go_ret
  exact ⟨rfl, Below.refl _ _⟩
 ·rw [if_neg h4]
  have h4i : ¬ (4096 : Int) < (xs.length : Int) := by omega
  unfold BGot at HPU
  generalize putB (ds.map (·.p)) ps = R at HPU hpb ⊢
  obtain ⟨Y, k⟩ := R
  dsimp only at HPU hpb
  have HP := hid HPU
  have HX := hid hx
  have HB := hid hb
  have HY := hid hpb
  obtain ⟨m, hm⟩ : ∃ m, xs.length = m := ⟨_, rfl⟩
  have HM := hid hm
  rw [hm] at h4i hsc1 ⊢
  clear HPU hpb hrow ht hx hb h4 hm
  by_cases hk : k = 0
  ·subst hk
   have heq := fun (W : World) (A1 : Option Addr) (c1 : Nat) (h1 : Row W W.heap.size (.slice A1 Y.length c1) Y) (h2 : Row W W.heap.size (.slice B xs.length cb) xs) => uequal_any A1 B c1 cb Y xs HY.out HB.out W h1 h2
   rw [HM.out] at heq
   rw [HM.out] at HX
   by_cases he : Y = xs
   ·rw [decide_eq_true he] at heq
    rw [if_pos (by rw [he])]
    have HEQ := hid heq
    clear heq he
    go_enter Tryz.func61, Tryz.ntmps61
    go_wp2_with fail
    refine HP.out.mono ?_
    rintro e w1 ⟨A1, c1, rfl, hown, hb1⟩
    have HE1 := hid (HEQ.out w1 A1 c1 (Row.of_own hown) ((HX.out.below hb1).more hb1.size))
    have HB1 := hid hb1
    clear hown hb1
    go_wp2_with fail
    refine HE1.out.mono ?_
    rintro e w2 ⟨rfl, rfl⟩
    go_wp2_with fail
    go_ret
    exact ⟨rfl, HB1.out⟩
   ·rw [decide_eq_false he] at heq
    rw [if_neg (fun q => he (by injection q))]
    have HEQ := hid heq
    clear heq he
    go_enter Tryz.func61, Tryz.ntmps61
    go_wp2_with fail
    refine HP.out.mono ?_
    rintro e w1 ⟨A1, c1, rfl, hown, hb1⟩
    have HE1 := hid (HEQ.out w1 A1 c1 (Row.of_own hown) ((HX.out.below hb1).more hb1.size))
    have HB1 := hid hb1
    clear hown hb1
    go_wp2_with fail
    refine HE1.out.mono ?_
    rintro e w2 ⟨rfl, rfl⟩
    go_wp2_with fail
    go_ret
    exact ⟨rfl, HB1.out⟩
  ·have hne : (k != 0) = true := bne_iff_ne.2 hk
   rw [if_neg (fun q => hk (by injection q))]
   clear hk
   go_enter Tryz.func61, Tryz.ntmps61
   go_wp2_with fail
   refine HP.out.mono ?_
   rintro e w1 ⟨A1, c1, rfl, hown, hb1⟩
   have HB1 := hid hb1
   clear hown hb1
   go_wp2_with fail
   go_ret
   exact ⟨rfl, HB1.out⟩
def UGot (w : World) (R : List Pn × Int) (r : Ending) (w' : World) : Prop :=
 ∃ A c ps, r = .returned (.tuple #[.slice A ps.length c, .int .i64 R.2]) ∧ OwnT w' w.heap.size (.slice A ps.length c) ps ∧ ps.map (·.p) = R.1 ∧ Below w.heap.size w w'
theorem ugot_none {w w' : World} {R : List Pn × Int} {k : Int} {r : Ending} (hR : R = ([], k)) (h : r = .returned (.tuple #[.slice none 0 0, .int .i64 k])) (hb : Below w.heap.size w w') : UGot w R r w' := by
 subst hR
 exact ⟨none, 0, [], h, OwnT.nil _ _, rfl, hb⟩
theorem uget_any (A : Option Addr) (c : Nat) (ds : List Pd) (B : Option Addr) (cb : Nat) (xs : List Int) (hb : ∀ x ∈ xs, 0 ≤ x ∧ x < 256) (hl : xs.length ≤ 1000000000) (w : World) (hrow : PredRow w w.heap.size (.slice A ds.length c) ds) (hx : Row w w.heap.size (.slice B xs.length cb) xs) :
  Calls Tryz.prog 30 #[.slice A ds.length c, .slice B xs.length cb] w (UGot w (getU (ds.map (·.p)) xs)) := by
 have hck := scheck_any A c ds w hrow
 unfold getU
 by_cases h0 : checkP (ds.map (·.p)) ≠ 0
 ·rw [if_pos h0]
  have hne : (checkP (ds.map (·.p)) != 0) = true := bne_iff_ne.2 h0
  generalize checkP (ds.map (·.p)) = k at hck hne ⊢
  have HCK := hid hck
  clear hck h0 hrow hx hb hl
  go_enter Tryz.func30, Tryz.ntmps30
  go_wp2_with fail
  refine HCK.out.mono ?_
  rintro e w1 ⟨rfl, hb1⟩
  go_wp2_with fail
  go_ret2
  exact ugot_none rfl rfl hb1
 ·rw [if_neg h0]
  have h0 : checkP (ds.map (·.p)) = 0 := by simpa using h0
  rw [h0] at hck
  have hss : ∀ q ∈ ds.map (·.p), ∀ t ∈ q.args, -9223372036854775808 ≤ t ∧ t ≤ 9223372036854775807 := fun q hq => by
   obtain ⟨d, hd, rfl⟩ := List.mem_map.1 hq
   obtain ⟨A', c', hv, h1, h2, h3, h4, h5⟩ := hrow
   exact (h5 d hd).2.2.2
  have hle := readU_le hb hss
  have HCK := hid hck
  have HROW := hid hrow
  have HX := hid hx
  have HNEW := hid (fun (W : World) (hb : Below w.heap.size w W) => new_any B cb xs (by omega) W ((hx.below hb).more hb.size))
  have HPT := hid (fun (W : World) (K g G : Nat) (h : Cur 159 W K g xs 0 0) (hK : K ≤ g) (hh : Held W G 127 #[.pointer (some ⟨g, 0, none⟩), .slice A ds.length c, .slice none 0 0]) (hgG : g < G) (hs : PredRow W K (.slice A ds.length c) ds) => upoints_any A c h hK hb hh hgG hs h0)
  have HWY := hid (fun (W : World) (T : Option Addr) (ct : Nat) (ps : List Pm) (h1 : Below w.heap.size w W) (ht : TrRow W W.heap.size (.slice T ps.length ct) ps) => uway_any A c ds T ct ps B cb xs hb W ((hrow.below h1).more h1.size) ht ((hx.below h1).more h1.size))
  obtain ⟨N, hN⟩ : ∃ N, w.heap.size = N := ⟨_, rfl⟩
  unfold UGot
  rw [hN] at HNEW HWY HCK ⊢
  unfold endU
  generalize readU (ds.map (·.p)) xs = R at HPT hle ⊢
  obtain ⟨L, tm, pe, ee⟩ := R
  simp only at hle ⊢
  have HSIG := hid (fun (W : World) (K : Nat) (hb : Below N w W) (hK : N ≤ K) => show PredRow W K (.slice A ds.length c) ds from by rw [← hN] at hb hK; exact (HROW.out.below hb).more hK)
  have HN := hid hN
  have HLE := hid hle
  clear hck hrow hx hb hss h0 hle hN
  by_cases hway : ee ≠ 0 ∨ pe < xs.length
  ·obtain ⟨d2, hd2, hdn, hres⟩ : ∃ d2 : Int, d2 ≠ 0 ∧ (∀ (p : Nat) (e : Int) (ps : List Pm), e = ee → (e = 0 → p = pe ∧ ps.map (·.p) = L) → doneI xs.length p e = (false, d2)) ∧
     (if (if ee ≠ 0 then ee else if pe < xs.length then 4 else wayU (ds.map (·.p)) xs L) ≠ 0 then (([] : List Pn), (if ee ≠ 0 then ee else if pe < xs.length then 4 else wayU (ds.map (·.p)) xs L)) else (L, 0)) = ([], d2) := by
    by_cases h0 : ee = 0
    ·have h1 : pe < xs.length := hway.resolve_left (fun q => q h0)
     refine ⟨4, by decide, fun p e ps he hok => ?_, ?_⟩
     ·subst he h0
      obtain ⟨rfl, _⟩ := hok rfl
      simp [doneI, h1]
     ·simp [h0, h1]
    ·refine ⟨ee, h0, fun p e ps he _ => ?_, ?_⟩
     ·subst he
      simp [doneI, h0]
     ·simp [h0]
   rw [hres]
   have hne : (d2 != 0) = true := bne_iff_ne.2 hd2
   have HDN := hid hdn
   clear hres hdn hd2 hway
   go_enter Tryz.func30, Tryz.ntmps30
   go_wp2_with fail
   refine HCK.out.mono ?_
   rintro e w1 ⟨rfl, hb1⟩
   have HB1 := hid hb1
   have hs1 := hb1.size
   rw [HN.out] at hs1
   have HNW := hid (HNEW.out w1 (by rw [← HN.out] at hb1 ⊢; exact hb1))
   clear hb1
   go_wp2_with fail
   refine HNW.out.mono ?_
   rintro e w2 ⟨g, rfl, hwg, hc2, hb2⟩
   have hs2 := hb2.size
   have hgl := hc2.lt
   obtain ⟨G, hG⟩ : ∃ G, w2.heap.size = G := ⟨_, rfl⟩
   have al := (Below.refl w2.heap.size w2).alloc (Nat.le_refl _) (.cells #[.pointer (some ⟨g, 0, none⟩), .slice A ds.length c, .slice none 0 0] 127)
   have HBA := hid ((HB1.out.trans (hb2.mono hs1)).trans (al.mono (Nat.le_trans hs1 hs2)))
   have HPT2 := hid (HPT.out (w2.alloc (.cells #[.pointer (some ⟨g, 0, none⟩), .slice A ds.length c, .slice none 0 0] 127)) w1.heap.size g G (hc2.below al hwg) hwg (by rw [← hG]; exact heap_alloc_new w2 _) (by omega) (HSIG.out _ _ HBA.out hs1))
   have hsa : (w2.alloc (.cells #[.pointer (some ⟨g, 0, none⟩), .slice A ds.length c, .slice none 0 0] 127)).heap.size = G + 1 := by rw [World.size_alloc, hG]
   have HSA := hid hsa
   have hgG : g < G := by omega
   have HG := hid hG
   clear hc2 hb2 al hsa
   go_wp2_with fail
   generalize w2.alloc (.cells #[.pointer (some ⟨g, 0, none⟩), .slice A ds.length c, .slice none 0 0] 127) = wa at HPT2 HBA HSA ⊢
   refine HPT2.out.mono ?_
   rintro e w3 ⟨A3, c3, ps, p, e, vt, rfl, ho3, hc3, hp3, he, hok, hh3, hb3⟩
   have hbox3 := hh3.cell 0
   simp at hbox3
   have HH3 := hid hh3
   rw [HSA.out] at ho3
   have HO3 := hid ho3
   have HB3 := hid (HBA.out.trans (hb3.mono hs1))
   have HD := hid (done_any hc3 hp3 hwg)
   have HGB := hid hh3.lt
   clear hh3 ho3 hc3 hb3 hgl hG hs2
   rw [HDN.out p e ps he hok] at HD
   go_wp2_with fail
   refine HD.out.mono ?_
   rintro e w4 ⟨rfl, hc4, hg4⟩
   have hbox4 := (HH3.out.grown hg4 (fun e => by injection e with e; omega)).cell 0
   simp at hbox4
   have HB4 := hid (HB3.out.grown hg4 (by have := HB3.out.size; rw [HN.out] at this; exact this) (fun j e => by injection e with e; omega))
   have HE := hid (err_any hc4)
   clear hbox3 hc4 hg4
   go_wp2_with fail
   refine HE.out.mono ?_
   rintro e w5 ⟨rfl, rfl⟩
   go_wp2_with fail
   go_ret2
   exact ⟨none, 0, [], rfl, OwnT.nil _ _, rfl, HB4.out⟩
  ·have he0 : ee = 0 := Classical.byContradiction fun q => hway (.inl q)
   have hpl : ¬ pe < xs.length := fun q => hway (.inr q)
   subst he0
   rw [show (if (0 : Int) ≠ 0 then (0 : Int) else if pe < xs.length then 4 else wayU (ds.map (·.p)) xs L) = wayU (ds.map (·.p)) xs L by rw [if_neg (by simp), if_neg hpl]]
   obtain ⟨wk, hwk⟩ : ∃ wk, wayU (ds.map (·.p)) xs L = wk := ⟨_, rfl⟩
   rw [hwk]
   have HWK := hid hwk
   have hdn : ∀ (p : Nat) (e : Int) (ps : List Pm), e = 0 → (e = 0 → p = pe ∧ ps.map (·.p) = L) → doneI xs.length p e = (true, 0) := fun p e ps he hok => by
    subst he
    obtain ⟨rfl, _⟩ := hok rfl
    simp [doneI, hpl]
   have HDN := hid hdn
   clear hdn hway hwk
   have hbr : (if wk ≠ 0 then (([] : List Pn), wk) else (L, 0)) = (if wk = 0 then L else [], wk) := by
    by_cases q : wk = 0
    ·subst q; simp
    ·simp [q]
   rw [hbr]
   clear hbr
   go_enter Tryz.func30, Tryz.ntmps30
   go_wp2_with fail
   refine HCK.out.mono ?_
   rintro e w1 ⟨rfl, hb1⟩
   have HB1 := hid hb1
   have hs1 := hb1.size
   rw [HN.out] at hs1
   have HNW := hid (HNEW.out w1 (by rw [← HN.out] at hb1 ⊢; exact hb1))
   clear hb1
   go_wp2_with fail
   refine HNW.out.mono ?_
   rintro e w2 ⟨g, rfl, hwg, hc2, hb2⟩
   have hs2 := hb2.size
   have hgl := hc2.lt
   obtain ⟨G, hG⟩ : ∃ G, w2.heap.size = G := ⟨_, rfl⟩
   have al := (Below.refl w2.heap.size w2).alloc (Nat.le_refl _) (.cells #[.pointer (some ⟨g, 0, none⟩), .slice A ds.length c, .slice none 0 0] 127)
   have HBA := hid ((HB1.out.trans (hb2.mono hs1)).trans (al.mono (Nat.le_trans hs1 hs2)))
   have HPT2 := hid (HPT.out (w2.alloc (.cells #[.pointer (some ⟨g, 0, none⟩), .slice A ds.length c, .slice none 0 0] 127)) w1.heap.size g G (hc2.below al hwg) hwg (by rw [← hG]; exact heap_alloc_new w2 _) (by omega) (HSIG.out _ _ HBA.out hs1))
   have hsa : (w2.alloc (.cells #[.pointer (some ⟨g, 0, none⟩), .slice A ds.length c, .slice none 0 0] 127)).heap.size = G + 1 := by rw [World.size_alloc, hG]
   have HSA := hid hsa
   have hgG : g < G := by omega
   have HG := hid hG
   clear hc2 hb2 al hsa
   go_wp2_with fail
   generalize w2.alloc (.cells #[.pointer (some ⟨g, 0, none⟩), .slice A ds.length c, .slice none 0 0] 127) = wa at HPT2 HBA HSA ⊢
   refine HPT2.out.mono ?_
   rintro e w3 ⟨A3, c3, ps, p, e, vt, rfl, ho3, hc3, hp3, he, hok, hh3, hb3⟩
   have hbox3 := hh3.cell 0
   simp at hbox3
   have HH3 := hid hh3
   rw [HSA.out] at ho3
   have HO3 := hid ho3
   have HB3 := hid (HBA.out.trans (hb3.mono hs1))
   have HD := hid (done_any hc3 hp3 hwg)
   have HGB := hid hh3.lt
   clear hh3 ho3 hc3 hb3 hgl hG hs2
   rw [HDN.out p e ps he hok] at HD
   have hpl2 := (hok he).2
   subst he
   have HLL := hid hpl2
   go_wp2_with fail
   refine HD.out.mono ?_
   rintro e w4 ⟨rfl, hc4, hg4⟩
   have hbx4 := HH3.out.grown hg4 (fun e => by injection e with e; omega)
   have hbox4 := hbx4.cell 0
   simp at hbox4
   have hn3 := HB3.out.size
   rw [HN.out] at hn3
   have hb4 := HB3.out.grown hg4 hn3 (fun j e => by injection e with e; omega)
   have hn4 := hb4.size
   rw [HN.out] at hn4
   have ho4 := HO3.out.kept hg4 (by omega)
   have HB4 := hid hb4
   have HC4 := hid hc4
   have HO4 := hid ho4
   have HBX4 := hid hbx4
   have hs4 := hbx4.lt
   have HKEEP := hid (fun (W : World) (h : Below w4.heap.size w4 W) => (show W.cell? ⟨G, 0, none⟩ = some (.pointer (some ⟨g, 0, none⟩)) from by have e := (hbx4.below h hs4).cell 0; simpa using e))
   have HWY4 := hid (fun (W : World) (h : Below w4.heap.size w4 W) => (show Calls Tryz.prog 61 #[.slice A ds.length c, .slice A3 ps.length c3, .slice B xs.length cb] W fun e w' => e = .returned (.int .i64 wk) ∧ Below W.heap.size W w' by
    have := HWY.out W A3 c3 ps (hb4.trans (h.mono hn4)) ((ho4.below h).row)
    rw [hpl2, HWK.out] at this
    exact this))
   clear hbox3 hc4 hg4 hb4 ho4 hbx4 hpl2
   go_wp2_with fail
   go_region_held3 (fun W => W.cell? ⟨G, 0, none⟩ = some (.pointer (some ⟨g, 0, none⟩)))
    (first | exact HKEEP.out _ (Below.refl _ _) | exact HKEEP.out _ (Below.refl _ _).drew | exact HKEEP.out _ b5 | exact hbox6)
    (first
     | (go_at_call 61; (with_reducible refine (HWY4.out _ (by first | exact Below.refl _ _ | exact (Below.refl _ _).drew)).mono ?_); rintro r w5 ⟨rfl, hb5⟩; have b5 : Below w4.heap.size w4 w5 := (Below.refl _ _).drew.trans hb5)
     | (go_at_call 57; (with_reducible refine (stop_any wk (HC4.out.below b5 hwg)).mono ?_); rintro r w6 ⟨rfl, hc6, hg6⟩; have hbx6 := (HBX4.out.below b5 hs4).grown hg6 (fun e => by injection e with e; omega); have hbox6 : w6.cell? ⟨G, 0, none⟩ = some (.pointer (some ⟨g, 0, none⟩)) := by { have e := hbx6.cell 0; simpa using e }))
   rw [stopI_zero] at hc6
   have HE := hid (err_any hc6)
   have HO6 := hid ((HO4.out.below b5).kept hg6 (by omega))
   have HB6 := hid ((HB4.out.trans (b5.mono hn4)).grown hg6 (by have := b5.size; omega) (fun j e => by injection e with e; omega))
   by_cases hz : wk = 0
   ·subst hz
    go_wp2_with fail
    refine HE.out.mono ?_
    rintro e w7 ⟨rfl, rfl⟩
    go_wp2_with fail
    go_ret2
    exact ⟨A3, c3, ps, rfl, HO6.out.base (by omega), HLL.out, HB6.out⟩
   ·have hne : (wk != 0) = true := bne_iff_ne.2 hz
    have HZ := hid hz
    clear hz
    go_wp2_with fail
    refine HE.out.mono ?_
    rintro e w7 ⟨rfl, rfl⟩
    go_wp2_with fail
    go_ret2
    exact ⟨none, 0, [], rfl, OwnT.nil _ _, rfl, HB6.out⟩
open Go.RowKit Go.ChangeShapes Go.WideShapes
def TkGot (w : World) (n t : Nat) (PA RA : Option Addr) (r : Gp × Int) (e : Ending) (w' : World) : Prop := e = .returned (.int .i64 r.2) ∧ TLeft w n t PA RA r.1 w'
section
variable {w : World} {n t : Nat} {g : Gp} {SA : Option Addr} {Sc : Nat} {es : List Pd} {PA : Option Addr} {Pc : Nat} {ps : List Pm} {RA : Option Addr} {Rc : Nat}
theorem tkSchema_any (h : TAt w n t g SA Sc es PA Pc ps RA Rc) (his : decide (0 < g.fr) = g.isg) (FA : Option Addr) (fc : Nat) (p : List Int) (hp : Row w w.heap.size (.slice FA p.length fc) p) (hb : ∀ x ∈ p, 0 ≤ x ∧ x < 256) (hl : p.length ≤ 1000000) :
  Calls Tryz.prog 65 #[.pointer (some ⟨t, 0, none⟩), .slice FA p.length fc] w (TkGot w n t PA RA (frameG g 1 p)) := by
 obtain ⟨RR, hRR⟩ : ∃ RR, frameG g 1 p = RR := ⟨_, rfl⟩
 rw [hRR]
 have hfr : RR = if (getSig p).2 ≠ 0 then (g, (getSig p).2) else if g.isg = true ∧ (getSig p).1 ≠ g.sig then (g, 7) else (⟨(getSig p).1, true, g.pts, g.sk, g.fr, g.rej⟩, 0) := by rw [← hRR]; unfold frameG; rw [if_pos rfl]
 have HGT := hid (bsget_any FA fc p (by omega) hb w hp)
 have HT := hid h
 have hlt := h.held.lt
 have hn := h.size
 obtain ⟨x0, x1, x2, x3, x4⟩ := h.cells
 generalize getSig p = Q at HGT hfr
 clear h hp hb hl hRR
 unfold TkGot
 by_cases hE : Q.2 = 0
 ·rw [if_neg (fun h => h hE)] at hfr
  have HE := hid hE
  clear hE
  cases hs : g.isg with
  | true =>
   rw [hs] at his
   by_cases hq : Q.1 = g.sig
   ·rw [if_neg (fun h => h.2 hq)] at hfr
    have HFR := hid hfr
    have HQ := hid hq
    clear hfr hq hs
    go_enter Tryz.func65, Tryz.ntmps65
    go_wp2_with fail
    refine HGT.out.mono ?_
    rintro e w1 ⟨⟨A3, c3, es3, rfl, hown, hes⟩, hb1⟩
    rw [HE.out]
    have h1 := HT.out.below hb1
    have HSG := hid (gsigned_any w1 SA es.length Sc PA ps.length Pc g.sk g.fr RA g.rej.length Rc true his)
    have hlt1 := h1.held.lt
    clear x0 x1 x2 x3 x4
    obtain ⟨x0, x1, x2, x3, x4⟩ := h1.cells
    have H1 := hid h1
    have HO1 := hid hown
    have HES := hid hes
    have HB1 := hid hb1
    clear h1 hown hes hb1
    go_wp2_with fail
    refine HSG.out.mono ?_
    rintro e w2 ⟨rfl, hb2⟩
    have h2 := H1.out.below hb2
    have hlt2 := h2.held.lt
    clear x0 x1 x2 x3 x4
    obtain ⟨x0, x1, x2, x3, x4⟩ := h2.cells
    have HO2 := hid (HO1.out.below hb2)
    have HSM := hid (ssame_any A3 c3 es3 SA Sc es w2 HO2.out.row h2.sig.row)
    rw [HES.out, h2.sigp, decide_eq_true HQ.out] at HSM
    have H2 := hid h2
    have HB2 := hid (HB1.out.trans (hb2.mono HB1.out.size))
    clear h2 hb2
    go_wp2_with fail
    refine HSM.out.mono ?_
    rintro e w3 ⟨rfl, hb3⟩
    have h3 := H2.out.below hb3
    have hlt3 := h3.held.lt
    clear x0 x1 x2 x3 x4
    obtain ⟨x0, x1, x2, x3, x4⟩ := h3.cells
    have f0 := h3.held.frozen 0
    have HO3 := hid (HO2.out.below hb3)
    have H3 := hid h3
    have HB3 := hid (HB2.out.trans (hb3.mono HB2.out.size))
    clear h3 hb3
    go_wp2_with fail
    go_ret
    rw [HFR.out]
    exact ⟨rfl, A3, c3, es3, PA, Pc, ps, RA, Rc, H3.out.putSig HO3.out hn HES.out, (PartN.of_below HB3.out).trans (PartN.put (.inl rfl) 0 _), fun j hj => .inl hj⟩
   ·rw [if_pos ⟨hs, hq⟩] at hfr
    have HFR := hid hfr
    have HQ := hid hq
    clear hfr hq hs
    go_enter Tryz.func65, Tryz.ntmps65
    go_wp2_with fail
    refine HGT.out.mono ?_
    rintro e w1 ⟨⟨A3, c3, es3, rfl, hown, hes⟩, hb1⟩
    rw [HE.out]
    have h1 := HT.out.below hb1
    have HSG := hid (gsigned_any w1 SA es.length Sc PA ps.length Pc g.sk g.fr RA g.rej.length Rc true his)
    have hlt1 := h1.held.lt
    clear x0 x1 x2 x3 x4
    obtain ⟨x0, x1, x2, x3, x4⟩ := h1.cells
    have H1 := hid h1
    have HO1 := hid hown
    have HES := hid hes
    have HB1 := hid hb1
    clear h1 hown hes hb1
    go_wp2_with fail
    refine HSG.out.mono ?_
    rintro e w2 ⟨rfl, hb2⟩
    have h2 := H1.out.below hb2
    have hlt2 := h2.held.lt
    clear x0 x1 x2 x3 x4
    obtain ⟨x0, x1, x2, x3, x4⟩ := h2.cells
    have HO2 := hid (HO1.out.below hb2)
    have HSM := hid (ssame_any A3 c3 es3 SA Sc es w2 HO2.out.row h2.sig.row)
    rw [HES.out, h2.sigp, decide_eq_false HQ.out] at HSM
    have H2 := hid h2
    have HB2 := hid (HB1.out.trans (hb2.mono HB1.out.size))
    clear h2 hb2
    go_wp2_with fail
    refine HSM.out.mono ?_
    rintro e w3 ⟨rfl, hb3⟩
    have HB3 := hid (HB2.out.trans (hb3.mono HB2.out.size))
    clear hb3
    go_wp2_with fail
    go_ret
    rw [HFR.out]
    exact ⟨rfl, HT.out.left HB3.out⟩
  | false =>
   rw [hs] at his
   rw [if_neg (fun h => by rw [hs] at h; exact absurd h.1 (by decide))] at hfr
   have HFR := hid hfr
   clear hfr hs
   go_enter Tryz.func65, Tryz.ntmps65
   go_wp2_with fail
   refine HGT.out.mono ?_
   rintro e w1 ⟨⟨A3, c3, es3, rfl, hown, hes⟩, hb1⟩
   rw [HE.out]
   have h1 := HT.out.below hb1
   have HSG := hid (gsigned_any w1 SA es.length Sc PA ps.length Pc g.sk g.fr RA g.rej.length Rc false his)
   have hlt1 := h1.held.lt
   clear x0 x1 x2 x3 x4
   obtain ⟨x0, x1, x2, x3, x4⟩ := h1.cells
   have H1 := hid h1
   have HO1 := hid hown
   have HES := hid hes
   have HB1 := hid hb1
   clear h1 hown hes hb1
   go_wp2_with fail
   refine HSG.out.mono ?_
   rintro e w2 ⟨rfl, hb2⟩
   have h2 := H1.out.below hb2
   have hlt2 := h2.held.lt
   clear x0 x1 x2 x3 x4
   obtain ⟨x0, x1, x2, x3, x4⟩ := h2.cells
   have f0 := h2.held.frozen 0
   have HO2 := hid (HO1.out.below hb2)
   have H2 := hid h2
   have HB2 := hid (HB1.out.trans (hb2.mono HB1.out.size))
   clear h2 hb2
   go_wp2_with fail
   go_ret
   rw [HFR.out]
   exact ⟨rfl, A3, c3, es3, PA, Pc, ps, RA, Rc, H2.out.putSig HO2.out hn HES.out, (PartN.of_below HB2.out).trans (PartN.put (.inl rfl) 0 _), fun j hj => .inl hj⟩
 ·have hEb : (Q.2 != 0) = true := bne_iff_ne.2 hE
  rw [if_pos hE] at hfr
  have HFR := hid hfr
  clear hfr
  go_enter Tryz.func65, Tryz.ntmps65
  go_wp2_with fail
  refine HGT.out.mono ?_
  rintro e w1 ⟨⟨A3, c3, es3, rfl, hown, hes⟩, hb1⟩
  have HB1 := hid hb1
  clear hown hes hb1
  go_wp2_with fail
  go_ret
  rw [HFR.out]
  exact ⟨rfl, HT.out.left HB1.out⟩
theorem tkEvents_any (h : TAt w n t g SA Sc es PA Pc ps RA Rc) (his : decide (0 < g.fr) = g.isg) (FA : Option Addr) (fc : Nat) (p : List Int) (hp : Row w w.heap.size (.slice FA p.length fc) p) (hb : ∀ x ∈ p, 0 ≤ x ∧ x < 256) (hl : p.length ≤ 1000000) (hP : ps.length ≤ 1000000000) :
  Calls Tryz.prog 66 #[.pointer (some ⟨t, 0, none⟩), .slice FA p.length fc] w (TkGot w n t PA RA (frameG g 2 p)) := by
 obtain ⟨RR, hRR⟩ : ∃ RR, frameG g 2 p = RR := ⟨_, rfl⟩
 rw [hRR]
 have hfr : RR = if g.isg = false then (g, 10) else if (getU g.sig p).2 ≠ 0 then (g, (getU g.sig p).2) else if lateG g.pts (getU g.sig p).1 = true then (g, 8) else (⟨g.sig, g.isg, g.pts ++ (getU g.sig p).1, g.sk, g.fr, g.rej⟩, 0) := by rw [← hRR]; unfold frameG; rw [if_neg (by decide), if_neg (by decide)]
 have hul := getU_len (sig := g.sig) (xs := p)
 have HGT := hid (fun W (hw : Below w.heap.size w W) => uget_any SA Sc es FA fc p hb (by omega) W ((h.below hw).sig.row) ((hp.below hw).more hw.size))
 rw [h.sigp] at HGT
 have HT := hid h
 have hlt := h.held.lt
 have hn := h.size
 obtain ⟨x0, x1, x2, x3, x4⟩ := h.cells
 generalize getU g.sig p = Q at HGT hfr hul
 clear h hp hb hl hRR
 unfold TkGot
 cases hs : g.isg with
 | false =>
  rw [hs] at his
  rw [if_pos hs] at hfr
  have HFR := hid hfr
  have HSG := hid (gsigned_any w SA es.length Sc PA ps.length Pc g.sk g.fr RA g.rej.length Rc false his)
  clear hfr hs
  go_enter Tryz.func66, Tryz.ntmps66
  go_wp2_with fail
  refine HSG.out.mono ?_
  rintro e w1 ⟨rfl, hb1⟩
  have HB1 := hid hb1
  clear hb1
  go_wp2_with fail
  go_ret
  rw [HFR.out]
  exact ⟨rfl, HT.out.left HB1.out⟩
 | true =>
  rw [hs] at his
  rw [if_neg (by rw [hs]; decide)] at hfr
  have HSG := hid (gsigned_any w SA es.length Sc PA ps.length Pc g.sk g.fr RA g.rej.length Rc true his)
  by_cases hE : Q.2 = 0
  ·rw [if_neg (fun h => h hE)] at hfr
   have hl3 := hul hE
   have HE := hid hE
   clear hE hul
   obtain ⟨L, hL⟩ : ∃ L, lastT g.pts = L := ⟨_, rfl⟩
   have HL := hid hL
   have HFR := hid hfr
   clear hfr hs hL
   go_enter Tryz.func66, Tryz.ntmps66
   go_wp2_with fail
   refine HSG.out.mono ?_
   rintro e w1 ⟨rfl, hb1⟩
   have h1 := HT.out.below hb1
   have hlt1 := h1.held.lt
   clear x0 x1 x2 x3 x4
   obtain ⟨x0, x1, x2, x3, x4⟩ := h1.cells
   have H1 := hid h1
   have HG1 := hid (HGT.out w1 hb1)
   have HB1 := hid hb1
   clear h1 hb1
   go_wp2_with fail
   refine HG1.out.mono ?_
   rintro e w2 ⟨A3, c3, qs, rfl, hown, hqs, hb2⟩
   rw [HE.out]
   have hql : qs.length = Q.1.length := by rw [← hqs, List.length_map]
   obtain ⟨d, hd⟩ : ∃ d, qs[0]? = some d := ⟨_, List.getElem?_eq_getElem (by omega)⟩
   obtain ⟨b3, o3, rfl, hbl3, v3, -, hok3, -, -⟩ := hown.row.at hd
   rw [Nat.zero_mul, Nat.add_zero] at v3
   have hd0 : (Q.1.getD 0 default).tm = d.tm := by
    rw [← hqs]
    simp only [List.getD, List.getElem?_map, hd, Option.map_some, Option.getD_some]
   have hlate : lateG g.pts Q.1 = decide (d.tm < L) := by rw [late_last (by rw [hd0]; exact hok3.2.1), hd0, HL.out]
   have h2 := H1.out.below hb2
   have hlt2 := h2.held.lt
   clear x0 x1 x2 x3 x4
   obtain ⟨x0, x1, x2, x3, x4⟩ := h2.cells
   have e9 : (0 : Int) < (qs.length : Int) := by omega
   have e12 : 0 < qs.length := by omega
   have HLA := hid (fun W (hb : Below w2.heap.size w2 W) => rlast_any (h2.below hb))
   rw [HL.out] at HLA
   have HV := hid (fun W (hb : Below w2.heap.size w2 W) => show W.cell? ⟨b3, o3, none⟩ = some (.int .u64 d.tm) from (hb.cell hbl3).trans v3)
   have HO2 := hid hown
   have HQS := hid hqs
   have H2 := hid h2
   have HB2 := hid (HB1.out.trans (hb2.mono HB1.out.size))
   have hq1 := hl3.2
   have hqn : qs.length ≤ 1024 := by omega
   clear h2 hb2 hown hqs hd hok3 hd0 hql hl3
   by_cases hlt3 : d.tm < L
   ·have HF2 := hid (show RR = (g, 8) by rw [HFR.out, hlate, decide_eq_true hlt3]; rfl)
    clear hlate
    go_wp2_with fail
    go_region_held3 (fun W => W.cell? ⟨b3, o3, none⟩ = some (.int .u64 d.tm))
     (first | exact HV.out _ (Below.refl _ _) | exact HV.out _ (Below.refl _ _).drew | exact HV.out _ b5)
     (first | (go_at_call 110; (with_reducible refine (HLA.out _ (Below.refl _ _).drew).mono ?_); rintro e w5 ⟨rfl, hb5⟩; have b5 : Below w2.heap.size w2 w5 := (Below.refl w2.heap.size w2).drew.trans hb5))
    go_wp2_with fail
    go_ret
    rw [HF2.out]
    exact ⟨rfl, HT.out.left (HB2.out.trans (b5.mono HB2.out.size))⟩
   ·have HF2 := hid (show RR = ((⟨g.sig, g.isg, g.pts ++ Q.1, g.sk, g.fr, g.rej⟩ : Gp), (0 : Int)) by rw [HFR.out, hlate, decide_eq_false hlt3]; rfl)
    clear hlate
    obtain ⟨iP, hiP, hpz, hps, hpb⟩ := info_parts Tryz.infoPoint
    go_wp2_with fail
    go_region_held3 (fun W => W.cell? ⟨b3, o3, none⟩ = some (.int .u64 d.tm))
     (first | exact HV.out _ (Below.refl _ _) | exact HV.out _ (Below.refl _ _).drew | exact HV.out _ b5)
     (first | (go_at_call 110; (with_reducible refine (HLA.out _ (Below.refl _ _).drew).mono ?_); rintro e w5 ⟨rfl, hb5⟩; have b5 : Below w2.heap.size w2 w5 := (Below.refl w2.heap.size w2).drew.trans hb5))
    have h5 := H2.out.below b5
    have hlt5 := h5.held.lt
    clear x0 x1 x2 x3 x4
    obtain ⟨x0, x1, x2, x3, x4⟩ := h5.cells
    have HO5 := hid (HO2.out.below b5)
    have HP5 := hid h5.pts.1
    have hn5 := h5.size
    have HPT := hid (fun A7 c7 w7 => TAt.putPts (A7 := A7) (c7 := c7) (w1 := w7) h5 HO5.out (show n ≤ w1.heap.size by have := H1.out.size; omega) HQS.out (rfl : ps.length + qs.length = ps.length + qs.length))
    have HB5 := hid (HB2.out.trans (b5.mono HB2.out.size))
    clear h5 hb5 b5
    go_wp2_with (at_builtin; refine wpList_append_erow _ rfl _ _ 25 55 rfl n iP _ 2 32 Tryz.underlying25 hiP hpz hps hpb rfl (by decide) (.slice PA ps.length Pc) ps.length (flatN ps) (by rfl) HP5.out _ _ qs.length (flatN qs) (by rfl) HO5.out.row.1 (flatN_length _) (oneN _) (by unfold maxLen; omega) (by omega) hn5 (ps.length + qs.length) rfl (flatN (ps ++ qs)) (flatN_append _ _).symm ?_; intro A7 c7 w7 hown7 hg7 hat7; obtain ⟨k1, k2, k3, k4⟩ := HPT.out A7 c7 w7 hown7 hg7 hat7; have f1 := k1.frozen 1; have q1 := k1.cell 1; have hl7 := k1.lt; simp at q1; clear hown7 hg7 hat7 k1)
    go_ret
    rw [HF2.out]
    refine ⟨rfl, SA, Sc, es, A7, c7, ps ++ qs, RA, Rc, k2.out, (PartN.of_below HB5.out).trans k3.out, fun j hj => ?_⟩
    rcases k4.out j hj with k | k
    ·exact .inl k
    ·exact .inr (Nat.le_trans HB5.out.size k)
  ·have hEb : (Q.2 != 0) = true := bne_iff_ne.2 hE
   rw [if_pos hE] at hfr
   have HFR := hid hfr
   clear hfr hul hs
   go_enter Tryz.func66, Tryz.ntmps66
   go_wp2_with fail
   refine HSG.out.mono ?_
   rintro e w1 ⟨rfl, hb1⟩
   have h1 := HT.out.below hb1
   have hlt1 := h1.held.lt
   clear x0 x1 x2 x3 x4
   obtain ⟨x0, x1, x2, x3, x4⟩ := h1.cells
   have HG1 := hid (HGT.out w1 hb1)
   have HB1 := hid hb1
   clear h1 hb1
   go_wp2_with fail
   refine HG1.out.mono ?_
   rintro e w2 ⟨A3, c3, qs, rfl, hown, hqs, hb2⟩
   have HB2 := hid (HB1.out.trans (hb2.mono HB1.out.size))
   clear hown hqs hb2
   go_wp2_with fail
   go_ret
   rw [HFR.out]
   exact ⟨rfl, HT.out.left HB2.out⟩
end
end Go.Proofs.YtnlfcmbpocdpjaaGreat
