/-
  What the theorem of ReadBack rests on, part 9 of 15.
-/
import Derived.Lib.MinMax
import Derived.WalkKit
import Derived.LoopTactic
import Derived.Deep.LoopGhost
import Derived.Deep.RegionHeld3
import Derived.Lib.Hide
import Derived.ChangeKeysEq
import Derived.Stop.BytesEq
import Derived.Lib.SlBytesConst
import Derived.Lib.SmallJoins
import Derived.Test.YtimihhcidbeonaaGreatReadBackZ8
namespace Go.Proofs.YtimihhcidbeonaaGreat
open Go.RowKit
set_option maxRecDepth 100000 in
set_option maxHeartbeats 2000000 in
theorem sclone_own (A : Option Addr) (c : Nat) (ds : List Pd) (w : World) (hrow : PredRow w w.heap.size (.slice A ds.length c) ds) (hlen : ds.length ≤ 1000000000) (hargs : ∀ d ∈ ds, d.p.args.length ≤ 1000000000) :
    Calls Tryz.prog 66 #[.slice A ds.length c] w fun e w' => ∃ A' c' es, e = .returned (.slice A' es.length c') ∧ OwnP w' w.heap.size (.slice A' es.length c') es ∧ es.map (·.p) = ds.map (·.p) ∧ Below w.heap.size w w' := by
  obtain ⟨i0, hi, hz0, hz1, hz2⟩ := info_parts Tryz.infoIntB
  obtain ⟨i1, hi1, hy0, hy1, hy2⟩ := info_parts Tryz.infoPred
  obtain ⟨_, hc1, hc2⟩ : ∃ _ : True, ds.length ≤ c ∧ c ≤ 9223372036854775807 := by
    obtain ⟨A', c', hv, q1, q2⟩ := hrow.form
    injection hv with _ _ e3
    exact ⟨trivial, by omega, by omega⟩
  have HROW := Lib.hid hrow
  have HAR := Lib.hid hargs
  clear hrow hargs
  obtain ⟨n, hn⟩ : ∃ n, w.heap.size = n := ⟨_, rfl⟩
  rw [hn] at HROW ⊢
  have HN := Lib.hid hn
  clear hn
  go_enter Tryz.func66, Tryz.ntmps66
  go_wp2_with fail
  go_loopg [8, 3] ds.length (fun gk i v wr => ∃ (k : Nat) (A1 : Option Addr) (cc : Nat) (es : List Pd), k ≤ ds.length ∧ i = .int .i64 k ∧ v = .slice A1 es.length cc ∧ Hid (ds.length - k = gk) ∧ Hid (OwnP wr n (.slice A1 es.length cc) es) ∧ Hid (es.map (·.p) = (ds.take k).map (·.p)) ∧ Hid (Below n w wr))
  case atStart => exact ⟨0, none, 0, [], Nat.zero_le _, rfl, rfl, Lib.hid rfl, Lib.hid (OwnP.nil _ _), Lib.hid rfl, Lib.hid (Below.refl _ _)⟩
  case round =>
    obtain ⟨k, A1, cc, es, hk, rfl, rfl, HGK, HOW, HES, HBR⟩ := hrel
    by_cases hlt : k < ds.length
    · obtain ⟨d, hd⟩ : ∃ d, ds[k]? = some d := ⟨_, List.getElem?_eq_getElem hlt⟩
      have HTK := Lib.hid (show (ds.take (k + 1)).map (·.p) = (ds.take k).map (·.p) ++ [d.p] by rw [List.take_add_one, hd, List.map_append]; rfl)
      have HEL := Lib.hid (show es.length = k by have := congrArg List.length HES.out; simp at this; omega)
      obtain ⟨b, o, rfl, hb, x0, x1, hir, hfit, ha1, ha2⟩ := (HROW.out.below HBR.out).at hd
      have hda := HAR.out d (List.mem_of_getElem? hd)
      have hnw : n ≤ wr.heap.size := by rw [← HN.out]; exact HBR.out.size
      obtain ⟨⟨nm, ts⟩, dA, dc⟩ := d
      simp only at x0 x1 hir hfit ha1 ha2 hda
      obtain ⟨w1, hw1⟩ : ∃ w1, wr.alloc (.cells #[.string (strOfNums nm), .slice dA ts.length dc] 88) = w1 := ⟨_, rfl⟩
      have s1 : w1.heap.size = wr.heap.size + 1 := by rw [← hw1]; simp
      have b1 : Below wr.heap.size wr w1 := by rw [← hw1]; exact (Below.refl _ _).alloc (Nat.le_refl _) _
      have h1 : Held w1 wr.heap.size 88 #[.string (strOfNums nm), .slice dA ts.length dc] := by rw [← hw1]; exact heap_alloc_new wr _
      have HP1 := Lib.hid h1
      have HO1 := Lib.hid (HOW.out.below b1)
      have HB1 := Lib.hid (HBR.out.trans (b1.mono hnw))
      have HIB := Lib.hid (fun W (h : Below w1.heap.size w1 W) => hir.below ((b1.trans (h.mono (by omega))).mono hnw))
      have HFT := Lib.hid hfit
      have hall : ∀ W, Below w1.heap.size w1 W → W.cell? ⟨wr.heap.size, 0, none⟩ = some (.string (strOfNums nm)) ∧ W.cell? ⟨wr.heap.size, 1, none⟩ = some (.slice dA ts.length dc) := fun W h => by
        have g1 := h1.below h (by omega)
        have e0 := g1.cell 0
        have e1 := g1.cell 1
        exact ⟨by simpa using e0, by simpa using e1⟩
      have HALL := Lib.hid hall
      have HNE := Lib.hid (show some wr.heap.size ≠ (Value.slice A1 es.length cc).ownBlock from fun e => by have := (World.ownsRow.lt HOW.out.1 _ e.symm).2; omega)
      clear h1 b1 hir hfit hd hall
      go_wp2_with fail
      go_region_held3 (fun W => W.cell? ⟨wr.heap.size, 0, none⟩ = some (.string (strOfNums nm)) ∧ W.cell? ⟨wr.heap.size, 1, none⟩ = some (.slice dA ts.length dc))
        (first | exact HALL.out _ (Below.refl _ _) | exact HALL.out _ (Below.refl _ _).drew | exact HALL.out _ b2 | exact HALL.out _ (b2.alloc b2.size _) | exact ⟨(hg4.cell_far ⟨wr.heap.size, 0, none⟩ (by have := b2.size; simp; omega) HNE.out).trans (HALL.out _ (b2.alloc b2.size _)).1, (hg4.cell_far ⟨wr.heap.size, 1, none⟩ (by have := b2.size; simp; omega) HNE.out).trans (HALL.out _ (b2.alloc b2.size _)).2⟩)
        (first
          | (refine step_append_ints (by rfl) (.const (.slice none 0 0)) (.tmp 16) 86 (by rfl) n i0 _ Tryz.underlying86 hi hz0 hz1 hz2 rfl rfl n _ ts (by rfl) (HIB.out _ (by first | exact Below.refl _ _ | exact (Below.refl _ _).drew)) hda (by (try simp) <;> omega) ts.length rfl ?_; intro dA2 dc2 w2 hOA hb2; have b2 : Below w1.heap.size w1 w2 := (Below.refl _ _).drew.trans hb2)
          | (refine step_append_pred (by rfl) (.tmp 12) (.tmp 19) 22 (by rfl) i1 _ Tryz.underlying22 hi1 hy0 hy1 hy2 rfl n (.slice A1 es.length cc) es (by rfl) ((HO1.out.below b2).below ((Below.refl _ _).alloc (Nat.le_refl _) _)) ⟨w2.heap.size, 0, none⟩ 1 ⟨⟨nm, ts⟩, dA2, dc2⟩ (by rfl) (by go_simp) (by go_simp) (World.ownsRow.alloc hOA _) HFT.out (by have := HEL.out; omega) (by have := b2.size; simp; omega) ?_; intro v4 w4 hO4 hg4))
      have hlow : ∀ j, (Value.slice A1 es.length cc).ownBlock = some j → n ≤ j := fun j e => (World.ownsRow.lt HOW.out.1 j e).1
      have b3 := (HB1.out.trans (b2.mono (by omega))).alloc (Nat.le_trans hnw (by have := b2.size; omega)) (.cells #[.string (strOfNums nm), .slice dA2 ts.length dc2] 88)
      have b4 : Below n w w4 := b3.grown hg4 (by have := b2.size; simp; omega) hlow
      obtain ⟨A4, c4, ev, _, _⟩ := hO4.form
      have HO4 := Lib.hid hO4
      have HB4 := Lib.hid b4
      have HES4 := Lib.hid (show (es ++ [(⟨⟨nm, ts⟩, dA2, dc2⟩ : Pd)]).map (·.p) = (ds.take (k + 1)).map (·.p) by rw [HTK.out, List.map_append, HES.out]; rfl)
      subst ev
      clear hOA hb2 b2 hO4 hg4 hlow b3 b4 hw1 s1 x0 x1
      generalize es ++ [(⟨⟨nm, ts⟩, dA2, dc2⟩ : Pd)] = es4 at HO4 HES4 ⊢
      go_wp2_with fail
      go_roundg (ds.length - (k + 1))
      case measure => have := HGK.out; omega
      case rel => exact ⟨k + 1, A4, c4, es4, by omega, by go_num, rfl, Lib.hid rfl, HO4, HES4, HB4⟩
    · obtain rfl : k = ds.length := by omega
      go_wp2_with fail
      go_ret
      exact ⟨A1, cc, es, rfl, HOW.out, by rw [HES.out, List.take_length], HBR.out⟩
end Go.Proofs.YtimihhcidbeonaaGreat

namespace Go.Proofs.YtimihhcidbeonaaGreat
open Go.RowKit Go.ChangeShapes Go.WideShapes
set_option linter.unusedVariables false
theorem pred_nil (w : World) (n : Nat) : PredRow w n (.slice none 0 0) [] := ⟨none, 0, rfl, Nat.le_refl _, Nat.zero_le _, fun _ => rfl, fun h => absurd h (by simp), by simp⟩
section
variable {w : World} {n g c kc : Nat} {A KA : Option Addr} {ds : List Pd} {most : Int} {bg cl : Bool} {bs : List Bk}
set_option maxRecDepth 100000 in
set_option maxHeartbeats 1000000 in
theorem wClose_any (h : WAt w n g A c ds most bg cl KA kc bs) (hM : bs.length ≤ 1000000000) :
    Calls Tryz.prog 27 #[.pointer (some ⟨g, 0, none⟩)] w fun e w' =>
      (∃ TA tc, e = .returned (.slice TA (takeX (ds.map (·.p)) bg bs).length tc) ∧ w'.ownsRow w.heap.size 5 1 (.slice TA (takeX (ds.map (·.p)) bg bs).length tc) (takeX (ds.map (·.p)) bg bs).length ((takeX (ds.map (·.p)) bg bs).map (.int .u8))) ∧
      WAt w' n g none 0 [] 0 true true none 0 [] ∧ PartN (fun j => j = g) w w' := by
  obtain ⟨-, -, -, h3, -⟩ := h.cells
  have hlt := h.held.lt
  have ht := wtake_any h bs.length (Nat.le_refl _) hM
  unfold TakeGot at ht
  rw [List.take_length] at ht
  have HT := Lib.hid ht
  have hlow := h.low
  clear h ht
  generalize takeX (ds.map (·.p)) bg bs = X at HT ⊢
  go_enter Tryz.func27, Tryz.ntmps27
  go_wp2_with fail
  refine HT.out.mono ?_
  rintro e w1 ⟨⟨TA, tc, rfl, hown⟩, ⟨KA', kc', hw, hob⟩, hp⟩
  have hh := hw.held
  have HO := Lib.hid hown
  have HW := Lib.hid hw
  have HP := Lib.hid hp
  have c0 := hw.cells.1
  have c1 := hw.cells.2.1
  have c2 := hw.cells.2.2.1
  have c3 := hw.cells.2.2.2.1
  have c4 := hw.cells.2.2.2.2
  have f0 := hh.frozen 0
  have f1 := hh.frozen 1
  have f2 := hh.frozen 2
  have f3 := hh.frozen 3
  have f4 := hh.frozen 4
  have hgl := hh.lt
  clear hown hw hob hp hh
  go_wp2_with fail
  go_ret
  have hh := HW.out.held
  have gr : w1.grownBy (((((w1.setCell ⟨g, 0, none⟩ (.slice none 0 0)).setCell ⟨g, 1, none⟩ (.int .i64 0)).setCell ⟨g, 2, none⟩ (.bool true)).setCell ⟨g, 3, none⟩ (.slice none 0 0)).setCell ⟨g, 4, none⟩ (.bool true)) (some g) :=
    grown_trans (grown_trans (grown_trans (grown_trans (grown_put _ _ _ _) (grown_put _ _ _ _)) (grown_put _ _ _ _)) (grown_put _ _ _ _)) (grown_put _ _ _ _)
  exact ⟨⟨TA, tc, rfl, own_nott HO.out (NotT.of_held hh (by decide)) gr⟩, ⟨((((hh.put 0 _).put 1 _).put 2 _).put 3 _).put 4 _, hlow, pred_nil _ _, OwnK.nil _ _, fun i j x y k hi => by simp at hi⟩, HP.out.trans (PartN.of_grown gr (fun j e => by injection e with e; exact e.symm))⟩
end
end Go.Proofs.YtimihhcidbeonaaGreat

namespace Go.Proofs.YtimihhcidbeonaaGreat
open Go.RowKit Go.ChangeShapes Go.WideShapes
set_option linter.unusedVariables false
/-- No two blocks have one row. -/
def ApK (bs : List Bk) : Prop := ∀ (i j : Nat) (x y : Bk) (k : Nat), bs[i]? = some x → bs[j]? = some y → i ≠ j → ob x.A = some k → ob y.A ≠ some k
theorem ApK.nil : ApK [] := fun i j x y k h => by simp at h
theorem ApK.snoc {bs : List Bk} {b : Bk} (h : ApK bs) (hn : ∀ q, ob b.A = some q → ∀ x ∈ bs, ob x.A ≠ some q) : ApK (bs ++ [b]) := by
  intro i j x y k hi hj hij hx hy
  have two : ∀ (i : Nat) (x : Bk), (bs ++ [b])[i]? = some x → bs[i]? = some x ∨ i = bs.length ∧ x = b := fun i x hi => by
    by_cases hl : i < bs.length
    · rw [List.getElem?_append_left hl] at hi
      exact .inl hi
    · have h1 := (List.getElem?_eq_some_iff.1 hi).1
      rw [List.length_append, List.length_singleton] at h1
      have h2 : i = bs.length := by omega
      subst h2
      rw [List.getElem?_append_right (Nat.le_refl _), Nat.sub_self] at hi
      injection hi with hi
      exact .inr ⟨rfl, hi.symm⟩
  rcases two i x hi with h1 | ⟨h1, h2⟩
  · rcases two j y hj with h3 | ⟨h3, h4⟩
    · exact h i j x y k h1 h3 hij hx hy
    · rw [h4] at hy
      exact hn k hy x (List.mem_of_getElem? h1) hx
  · rw [h2] at hx
    rcases two j y hj with h3 | ⟨h3, h4⟩
    · exact hn k hx y (List.mem_of_getElem? h3) hy
    · omega
def BkGotA (w : World) (r : List (List Pm) × Int) (e : Ending) (W' : World) : Prop :=
  ∃ A c bs, e = .returned (.tuple #[.slice A bs.length c, .int .i64 r.2]) ∧ OwnK W' w.heap.size (.slice A bs.length c) bs ∧ bs.map (fun b => b.ps.map (·.p)) = r.1.map (List.map (·.p)) ∧ Below w.heap.size w W' ∧ ApK bs
/-- What holds at the loop's head. -/
def BkRelA (w : World) (N n m : Nat) (sig : List Pr) (most : Int) (As : Option Addr) (cs : Nat) (ks : List Nat) (R : List (List Pn)) (gk : Nat) (tv bv iv : Value) (wr : World) : Prop :=
  ∃ (qs : List Pm) (cr : Nat) (A2 : Option Addr) (bs : List Bk) (cc : Nat) (A1 : Option Addr) (k : Nat) (ms : List Nat), tv = .slice A2 qs.length cr ∧ bv = .slice A1 bs.length cc ∧ iv = .int .i64 k ∧ qs.length ≤ cr ∧ cr ≤ 9223372036854775807 ∧ k ≤ m ∧ Hid (m - k ≤ gk) ∧
    Hid (bs.length + qs.length ≤ n) ∧ Hid (ks.drop k = ms) ∧ Hid (CutC sig most qs ms) ∧ Hid (TrRow w N (.slice A2 qs.length cr) qs) ∧ Hid (TrFit qs) ∧ Hid (wr.ownsRow N 3 1 (.slice As m cs) m (szVs ks)) ∧ Hid (OwnK wr N (.slice A1 bs.length cc) bs) ∧
    Hid (bs.map (fun b => b.ps.map (·.p)) ++ (cutsOf ms qs).map (List.map (·.p)) = R) ∧ Hid (Below N w wr) ∧ Hid (ApK bs)
theorem BkRelA.next {w w4 w5 : World} {N n m cr cs c5 k z cc r4 c4 : Nat} {sig : List Pr} {most : Int} {As A1 A2 A4 A5 : Option Addr} {ks ms : List Nat} {R : List (List Pn)} {qs : List Pm} {bs : List Bk} {b : Bk}
    (hq : qs.length ≤ cr) (hcr : cr ≤ 9223372036854775807) (hk : k < m) (hbn : bs.length + qs.length ≤ n) (hms : ks.drop k = z :: ms) (hz1 : 1 ≤ z) (hzl : z ≤ qs.length) (hct : CutC sig most (qs.drop z) ms)
    (htq : TrRow w N (.slice A2 qs.length cr) qs) (hft : TrFit qs) (hks : w4.ownsRow N 3 1 (.slice As m cs) m (szVs ks)) (hok : OwnK w4 N (.slice A1 bs.length cc) bs) (hob : OwnT w4 N b.val b.ps) (hbp : b.ps.map (·.p) = (qs.take z).map (·.p))
    (ho : w5.ownsRow N 26 1 (.slice A5 (bs.length + 1) c5) (bs.length + 1) (bkVs (bs ++ [b]))) (hg : w4.grownBy w5 (Value.slice A1 bs.length cc).ownBlock)
    (hr : bs.map (fun b => b.ps.map (·.p)) ++ (cutsOf (z :: ms) qs).map (List.map (·.p)) = R) (hb : Below N w w4) (hN : N ≤ w4.heap.size) (h1 : r4 = qs.length - z) (h2 : c4 = cr - z) (hA : cr = z ∨ A4 = A2.map (fun x => x.add (z * 2))) (hap : ApK bs) (hnw : ∀ q, ob b.A = some q → ∀ x ∈ bs, ob x.A ≠ some q) :
    BkRelA w N n m sig most As cs ks R (m - (k + 1)) (.slice A4 r4 c4) (.slice A5 (bs.length + 1) c5) (.int .i64 ((k : Int) + 1)) w5 := by
  have hdl : (qs.drop z).length = r4 := by rw [List.length_drop]; omega
  have htd := htq.drop (k := z) (A' := A4) hzl hA
  have e1 : 3 ≠ 26 := by decide
  have hms2 : ks.drop (k + 1) = ms := by
    have : (ks.drop k).drop 1 = ms := by rw [hms]; rfl
    rwa [List.drop_drop] at this
  have hOK := hok.more hob ho hg
  subst h1 h2
  refine ⟨qs.drop z, cr - z, A4, bs ++ [b], c5, A5, k + 1, ms, by rw [hdl], by rw [List.length_append]; rfl, by go_num, by omega, by omega, by omega, Lib.hid (Nat.le_refl _), Lib.hid (by rw [List.length_append, hdl]; simp; omega), Lib.hid hms2, Lib.hid hct, Lib.hid (by rw [hdl]; exact htd), Lib.hid (hft.drop z),
    Lib.hid (World.ownsRow.kept hks hg (own_unlike hks hok.1 e1)), Lib.hid hOK, Lib.hid ?_, Lib.hid (hb.grown hg hN (fun j e => (World.ownsRow.lt hok.1 j e).1)), Lib.hid (hap.snoc hnw)⟩
  rw [← hr, cutsOf, List.map_cons, List.map_append, List.append_assoc, List.map_cons, List.map_nil, hbp]
  rfl
section
variable (A : Option Addr) (c : Nat) (ds : List Pd) (T : Option Addr) (ct : Nat) (ps : List Pm) (most : Int) (w : World)
set_option maxRecDepth 100000 in
set_option maxHeartbeats 2000000 in
theorem cblocks_apart (hrow : PredRow w w.heap.size (.slice A ds.length c) ds) (ht : TrRow w w.heap.size (.slice T ps.length ct) ps) (hft : TrFit ps) :
    Calls Tryz.prog 138 #[.slice A ds.length c, .slice T ps.length ct, .int .i64 most] w (BkGotA w (blocksR (ds.map (·.p)) ps most)) := by
  obtain ⟨-, hc1, hc2⟩ := ht.1.len
  have HSZ := csizes_any A c ds T ct ps most w hrow ht hft.1
  unfold sizesR at HSZ
  unfold BkGotA blocksR
  by_cases hw : whyC (ds.map (·.p)) ps most = 0
  · rw [if_pos hw] at HSZ ⊢
    have hcut := COk.cut _ (cok_of hw ht.fits) rfl
    have hmn := COk.length (cok_of hw ht.fits) _ rfl
    obtain ⟨N, hN⟩ : ∃ N, w.heap.size = N := ⟨_, rfl⟩
    obtain ⟨ks, hks⟩ : ∃ ks, sizesC (ds.map (·.p)) ps most = ks := ⟨_, rfl⟩
    rw [hks] at HSZ hcut hmn ⊢
    obtain ⟨m, hm⟩ : ∃ m, ks.length = m := ⟨_, rfl⟩
    have HSZ2 : Calls Tryz.prog 183 #[.slice A ds.length c, .slice T ps.length ct, .int .i64 most] w fun e W' => ∃ As cs, e = .returned (.tuple #[.slice As m cs, .int .i64 0]) ∧ W'.ownsRow N 3 1 (.slice As m cs) m (szVs ks) ∧ Below N w W' := by rw [← hm, ← hN]; exact HSZ
    have HSZ := Lib.hid HSZ2
    obtain ⟨R, hR⟩ : ∃ R, (cutsOf ks ps).map (List.map (·.p)) = R := ⟨_, rfl⟩
    have hRR : ((cutsOf ks ps, (0 : Int)).1).map (List.map (·.p)) = R := hR
    rw [hN] at ht ⊢
    rw [hRR]
    obtain ⟨i1, hi1, hy0, hy1, hy2⟩ := info_parts Tryz.infoPoints
    have HTR := Lib.hid ht
    have HCUT := Lib.hid hcut
    have HFT := Lib.hid hft
    have HR := Lib.hid hR
    have HM := Lib.hid hm
    have hpl := hft.1
    have hwN : N ≤ w.heap.size := by omega
    obtain ⟨n, hn⟩ : ∃ n, ps.length = n := ⟨_, rfl⟩
    rw [hn] at HSZ HTR hc1 hpl ⊢
    rw [hm, hn] at hmn
    have HN := Lib.hid hn
    clear hrow ht hft hcut hw hks HSZ2 hR hRR hm hn hN
    go_enter Tryz.func138, Tryz.ntmps138
    go_wp2_with fail
    refine HSZ.out.mono ?_
    rintro e w1 ⟨As, cs, rfl, hown, hb1⟩
    have HOWN := Lib.hid hown
    have HB1 := Lib.hid hb1
    clear hown hb1
    go_wp2_with fail
    have BNEXT := @BkRelA.next w
    go_loopg [1, 10, 25] m (fun gk tv bv iv wr => BkRelA w N n m (ds.map (·.p)) most As cs ks R gk tv bv iv wr)
    case atStart => exact ⟨ps, ct, T, [], 0, none, 0, ks, by rw [HN.out], rfl, rfl, by rw [HN.out]; exact hc1, hc2, Nat.zero_le _, Lib.hid (Nat.le_refl _), Lib.hid (by rw [HN.out]; simp), Lib.hid rfl, HCUT, Lib.hid (by rw [HN.out]; exact HTR.out), HFT, HOWN, Lib.hid (OwnK.nil _ _), Lib.hid (by rw [List.map_nil, List.nil_append]; exact HR.out), HB1, Lib.hid ApK.nil⟩
    case round =>
      obtain ⟨qs, cr, A2, bs, cc, A1, k, ms, rfl, rfl, rfl, hq, hcr, hkm, HGK, HBN, HMS, HCT, HTQ, HFQ, HKS, HOK, HRR, HB, HAP⟩ := hrel
      by_cases hlt : k < m
      · obtain ⟨z, hz⟩ : ∃ z, ks[k]? = some z := ⟨_, List.getElem?_eq_getElem (by rw [HM.out]; exact hlt)⟩
        obtain ⟨ms2, hms2⟩ : ∃ ms2, ms = z :: ms2 := ⟨ks.drop (k + 1), by
          rw [← HMS.out, List.drop_eq_getElem_cons (by rw [HM.out]; exact hlt)]
          rw [List.getElem?_eq_getElem (by rw [HM.out]; exact hlt)] at hz
          injection hz with hz
          rw [hz]⟩
        subst hms2
        obtain ⟨hcq, hl0, hfz, hct2⟩ := HCT.out.inv
        have hf := hcq.first hl0
        rw [hfz] at hf
        have hz1 := hf.1
        have hzl := hf.2.1
        have hzc : z ≤ cr := Nat.le_trans hzl hq
        have HCT2 := Lib.hid hct2
        obtain ⟨b, o, rfl, hb, hcell⟩ := (ERow.of_own HKS.out).block (by omega)
        have x0 := hcell k _ (szVs_at hz)
        have htl : (qs.take z).length = z := by rw [List.length_take]; omega
        have hnw : N ≤ wr.heap.size := Nat.le_trans hwN HB.out.size
        have hcl := tclone_any A2 cr (qs.take z) wr (((HTQ.out.take hzl).below HB.out).more hnw) (HFQ.out.take z)
        rw [htl] at hcl
        have HCL := Lib.hid hcl
        clear hcq hl0 hfz hct2 hf hcell hz htl hcl
        rcases (show z = cr ∨ ¬ cr = z by omega) with rfl | hcz
        all_goals (
        go_wp2_with fail
        refine HCL.out.mono ?_
        rintro e w2 ⟨A5, c5, es, rfl, hOT, hep, hb2⟩
        have zz := hb2.size
        have ba := (Below.refl w2.heap.size w2).alloc (Nat.le_refl _) (.cells #[.slice A5 es.length c5] 26)
        have HO := Lib.hid ((HOK.out.below hb2).below ba)
        have HKS2 := Lib.hid (own_below (own_below HKS.out hb2) ba)
        have HOT := Lib.hid ((hOT.base hnw).below ba)
        have HB2 := Lib.hid ((HB.out.trans (hb2.mono hnw)).trans (ba.mono (by omega)))
        have HEP := Lib.hid hep
        have HNW := Lib.hid (show ∀ q, ob A5 = some q → ∀ x ∈ bs, ob x.A ≠ some q from fun q hq x hx e => by
          have h1 := (World.ownsRow.lt hOT.1 q (by rw [ob_own]; exact hq)).1
          have h2 := (World.ownsRow.lt (HOK.out.2 x hx).1 q (by rw [ob_own]; exact e)).2
          omega)
        have HER := Lib.hid (ERow.new w2 26 [.slice A5 es.length c5] (n := 1) (by unfold maxLen; omega))
        clear hOT hep hb2 ba x0
        go_wp2_with (at_builtin; refine wpList_append_erow _ rfl _ _ 133 26 rfl N i1 (.slice none 0 0) 1 24 Tryz.underlying133 hi1 hy0 hy1 hy2 rfl (by decide) (.slice A1 bs.length cc) bs.length (bkVs bs) (by rfl) HO.out.1 (w2.heap.size + 1) (.slice (some ⟨w2.heap.size, 0, none⟩) 1 1) 1 [.slice A5 es.length c5] (by rfl) (by simpa using HER.out) rfl (by simp [Value.oneCell']) (by have := HBN.out; unfold maxLen; omega) (by have := HBN.out; omega) (by rw [World.size_alloc]; omega) (bs.length + 1) rfl (bkVs (bs ++ [⟨A5, c5, es⟩])) (bkVs_snoc bs ⟨A5, c5, es⟩) ?_; intro A6 c6 w6 hown6 hg6 hat6; have HO6 := Lib.hid hown6; have HG6 := Lib.hid hg6; clear hown6 hg6 hat6))
        · go_roundg (m - (k + 1))
          case measure => have := HGK.out; omega
          case rel => exact BNEXT (b := ⟨A5, c5, es⟩) hq hcr hlt HBN.out HMS.out hz1 hzl HCT2.out HTQ.out HFQ.out HKS2.out HO.out HOT.out HEP.out HO6.out HG6.out HRR.out HB2.out (by rw [World.size_alloc]; omega) (by omega) (by omega) (Or.inl rfl) HAP.out HNW.out
        · go_roundg (m - (k + 1))
          case measure => have := HGK.out; omega
          case rel => exact BNEXT (b := ⟨A5, c5, es⟩) hq hcr hlt HBN.out HMS.out hz1 hzl HCT2.out HTQ.out HFQ.out HKS2.out HO.out HOT.out HEP.out HO6.out HG6.out HRR.out HB2.out (by rw [World.size_alloc]; omega) rfl rfl (Or.inr rfl) HAP.out HNW.out
      · have hkm2 : m = k := by omega
        subst hkm2
        have h0 : ms = [] := by rw [← HMS.out, List.drop_of_length_le (by rw [HM.out]; exact Nat.le_refl _)]
        have hrr : bs.map (fun b => b.ps.map (·.p)) = R := by
          have := HRR.out
          rw [h0, cutsOf, List.map_nil, List.append_nil] at this
          exact this
        have HRF := Lib.hid hrr
        clear hrr h0
        go_wp2_with fail
        go_ret2
        exact ⟨A1, cc, bs, rfl, HOK.out, HRF.out, HB.out, HAP.out⟩
  · rw [if_neg hw] at HSZ ⊢
    have hne : (whyC (ds.map (·.p)) ps most != 0) = true := bne_iff_ne.2 hw
    generalize whyC (ds.map (·.p)) ps most = C at HSZ hne ⊢
    have HSZ2 : Calls Tryz.prog 183 #[.slice A ds.length c, .slice T ps.length ct, .int .i64 most] w fun e W' => ∃ As cs, e = .returned (.tuple #[.slice As 0 cs, .int .i64 C]) ∧ W'.ownsRow w.heap.size 3 1 (.slice As 0 cs) 0 [] ∧ Below w.heap.size w W' := HSZ
    have HSZ := Lib.hid HSZ2
    clear hrow ht hw HSZ2
    go_enter Tryz.func138, Tryz.ntmps138
    go_wp2_with fail
    refine HSZ.out.mono ?_
    rintro e w1 ⟨As, cs, rfl, hown, hb1⟩
    clear hown
    go_wp2_with fail
    go_ret2
    exact ⟨none, 0, [], rfl, OwnK.nil _ _, rfl, hb1, ApK.nil⟩
end
end Go.Proofs.YtimihhcidbeonaaGreat

namespace Go.Proofs.YtimihhcidbeonaaGreat
open Go.RowKit Go.ChangeShapes Go.WideShapes
set_option linter.unusedVariables false
section
variable (w : World) (A : Option Addr) (c : Nat) (ds : List Pd) (T : Option Addr) (ct : Nat) (ps : List Pm) (most : Int)
set_option maxRecDepth 100000 in
set_option maxHeartbeats 1000000 in
theorem wwhole_ok (hrow : PredRow w w.heap.size (.slice A ds.length c) ds) (ht : TrRow w w.heap.size (.slice T ps.length ct) ps) (hft : TrFit ps) (hy : whyC (ds.map (·.p)) ps most = 0) :
    Calls Tryz.prog 86 #[.slice A ds.length c, .slice T ps.length ct, .int .i64 most] w fun e w' => ∃ g KA kc bs, e = .returned (.tuple #[.pointer (some ⟨g, 0, none⟩), .int .i64 0]) ∧ WAt w' w.heap.size g A c ds 0 false false KA kc bs ∧ bs.map (fun b => b.ps.map (·.p)) = (cutsC (ds.map (·.p)) ps most).map (List.map (·.p)) ∧ Below w.heap.size w w' := by
  have hb := cblocks_apart A c ds T ct ps most w hrow ht hft
  unfold blocksR BkGotA at hb
  rw [if_pos hy] at hb
  have HB := Lib.hid hb
  have HR := Lib.hid hrow
  clear hb hrow ht hft hy
  go_enter Tryz.func86, Tryz.ntmps86
  go_wp2_with fail
  refine HB.out.mono ?_
  rintro e w1 ⟨A1, c1, bs, rfl, hk, hm, hb1, hap⟩
  have HK := Lib.hid hk
  have HMP := Lib.hid hm
  have HB1 := Lib.hid hb1
  have HAP := Lib.hid hap
  clear hk hm hb1 hap
  obtain ⟨u, hu⟩ : ∃ u, w1.alloc (.cells #[.slice A ds.length c, .int .i64 0, .bool false, .slice A1 bs.length c1, .bool false] 135) = u := ⟨_, rfl⟩
  have bu : Below w1.heap.size w1 u := by rw [← hu]; exact (Below.refl _ _).alloc (Nat.le_refl _) _
  have HU : Hid (WAt u w.heap.size w1.heap.size A c ds 0 false false A1 c1 bs) := Lib.hid ⟨by rw [← hu]; exact heap_alloc_new w1 _, HB1.out.size, (HR.out.below HB1.out).below (bu.mono HB1.out.size), HK.out.below bu, HAP.out⟩
  have HBU := Lib.hid (HB1.out.trans (bu.mono HB1.out.size))
  clear bu
  go_wp2_with fail
  go_ret2
  exact ⟨_, A1, c1, bs, rfl, HU.out, HMP.out, HBU.out⟩
set_option maxRecDepth 100000 in
set_option maxHeartbeats 1000000 in
theorem wbytes_err (hrow : PredRow w w.heap.size (.slice A ds.length c) ds) (ht : TrRow w w.heap.size (.slice T ps.length ct) ps) (hft : TrFit ps) (hy : whyC (ds.map (·.p)) ps most ≠ 0) :
    Calls Tryz.prog 41 #[.slice A ds.length c, .slice T ps.length ct, .int .i64 most] w fun e w' => e = .returned (.tuple #[.slice none 0 0, .int .i64 (whyC (ds.map (·.p)) ps most)]) ∧ Below w.heap.size w w' := by
  have hb := cblocks_apart A c ds T ct ps most w hrow ht hft
  unfold blocksR BkGotA at hb
  rw [if_neg hy] at hb
  obtain ⟨C, hC⟩ : ∃ C, whyC (ds.map (·.p)) ps most = C := ⟨_, rfl⟩
  rw [hC] at hb hy ⊢
  have hne : (C != 0) = true := bne_iff_ne.2 hy
  have HB := Lib.hid hb
  clear hb hrow ht hft hC
  have HW : Hid (Calls Tryz.prog 86 #[.slice A ds.length c, .slice T ps.length ct, .int .i64 most] w fun e w' => e = .returned (.tuple #[.pointer none, .int .i64 C]) ∧ Below w.heap.size w w') := Lib.hid (by
    go_enter Tryz.func86, Tryz.ntmps86
    go_wp2_with fail
    refine HB.out.mono ?_
    rintro e w1 ⟨A1, c1, bs, rfl, hk, hm, hb1, hap⟩
    have HB1 := Lib.hid hb1
    clear hk hm hb1 hap
    go_wp2_with fail
    go_ret2
    exact ⟨rfl, HB1.out⟩)
  clear HB
  go_enter Tryz.func41, Tryz.ntmps41
  go_wp2_with fail
  refine HW.out.mono ?_
  rintro e w1 ⟨rfl, hb1⟩
  have HB1 := Lib.hid hb1
  clear hb1
  go_wp2_with fail
  go_ret2
  exact ⟨rfl, HB1.out⟩
/-- The bytes of blocks. -/
def blkX (sig : List Pr) (L : List (List Pm)) : List Int := ((frameS sig).1 :: L.map (frB sig)).flatten
theorem takeX_blk (sig : List Pr) (bs : List Bk) : takeX sig false bs = blkX sig (bs.map (·.ps)) := by
  unfold takeX framesL blkX
  rw [if_neg (by decide), List.map_map]
  rfl
/-- Blocks of these points. -/
def BlkOf (sig : List Pr) (ps : List Pm) (most : Int) (L : List (List Pm)) : Prop := L.map (List.map (·.p)) = (cutsC sig ps most).map (List.map (·.p)) ∧ ∀ b ∈ L, ∀ p ∈ b, p.Fits ∧ ∀ e ∈ p.evs, ∀ a ∈ e.args, a.Fits
theorem WAt.blk_of {w' : World} {n g : Nat} {KA : Option Addr} {kc : Nat} {bs : List Bk} {m2 : Int} {b1 b2 : Bool} (h : WAt w' n g A c ds m2 b1 b2 KA kc bs) (hm : bs.map (fun b => b.ps.map (·.p)) = (cutsC (ds.map (·.p)) ps most).map (List.map (·.p))) : BlkOf (ds.map (·.p)) ps most (bs.map (·.ps)) := by
  refine ⟨by rw [List.map_map]; exact hm, fun b hb => ?_⟩
  obtain ⟨x, hx, rfl⟩ := List.mem_map.1 hb
  exact (h.blk.2 x hx).row.fits
set_option maxRecDepth 100000 in
set_option maxHeartbeats 1000000 in
theorem wbytes_ok (hrow : PredRow w w.heap.size (.slice A ds.length c) ds) (ht : TrRow w w.heap.size (.slice T ps.length ct) ps) (hft : TrFit ps) (hl : ps.length ≤ 1000000) (hy : whyC (ds.map (·.p)) ps most = 0) :
    Calls Tryz.prog 41 #[.slice A ds.length c, .slice T ps.length ct, .int .i64 most] w fun e w' => ∃ TA tc L, e = .returned (.tuple #[.slice TA (blkX (ds.map (·.p)) L).length tc, .int .i64 0]) ∧ Row w' w'.heap.size (.slice TA (blkX (ds.map (·.p)) L).length tc) (blkX (ds.map (·.p)) L) ∧ BlkOf (ds.map (·.p)) ps most L ∧ Below w.heap.size w w' := by
  have hck := COk.length (cok_of hy ht.fits) _ rfl
  have HLN := Lib.hid (show ∀ (bs : List Bk), bs.map (fun b => b.ps.map (·.p)) = (cutsC (ds.map (·.p)) ps most).map (List.map (·.p)) → bs.length ≤ 1000000000 from fun bs h => by
    have h1 := congrArg List.length h
    rw [List.length_map, List.length_map] at h1
    unfold cutsC at h1
    rw [cutsOf_length] at h1
    omega)
  have HW := Lib.hid (wwhole_ok w A c ds T ct ps most hrow ht hft hy)
  clear hrow ht hft hy hck
  go_enter Tryz.func41, Tryz.ntmps41
  go_wp2_with fail
  refine HW.out.mono ?_
  rintro e w1 ⟨g, KA, kc, bs, rfl, hw, hm, hb1⟩
  have HC1 := Lib.hid (wClose_any hw (HLN.out bs hm))
  rw [takeX_blk] at HC1
  have HLO := Lib.hid hw.low
  have HBK := Lib.hid (hw.blk_of A c ds ps most hm)
  have HB1 := Lib.hid hb1
  generalize bs.map (·.ps) = L at HC1 HBK
  clear hw hb1 hm
  obtain ⟨X, hX⟩ : ∃ X, blkX (ds.map (·.p)) L = X := ⟨_, rfl⟩
  rw [hX] at HC1
  have HX := Lib.hid hX
  clear hX
  go_wp2_with fail
  refine HC1.out.mono ?_
  rintro e w2 ⟨⟨TA, tc, rfl, hown⟩, hw2, hp⟩
  have HO := Lib.hid (Row.of_own hown)
  have HB2 := Lib.hid (HB1.out.trans (hp.low HB1.out.size (fun i hi e => by have := HLO.out; omega)))
  clear hown hw2 hp
  go_wp2_with fail
  go_ret2
  exact ⟨TA, tc, L, by rw [HX.out]; rfl, by rw [HX.out]; exact HO.out, HBK.out, HB2.out⟩
end
end Go.Proofs.YtimihhcidbeonaaGreat

namespace Go.Proofs.YtimihhcidbeonaaGreat
/-- A number is found within its first ten bytes. -/
theorem lenI_take : ∀ (m i : Nat) (xs : List Int), 10 ≤ i + m → lenI i (xs.take m) = lenI i xs
  | 0, i, xs, h => by
    cases xs with
    | nil => simp
    | cons x r =>
      simp only [List.take_zero, lenI]
      rw [if_neg (by omega), if_pos (by omega)]
  | m + 1, i, [], h => by simp
  | m + 1, i, x :: r, h => by
    simp only [List.take_succ_cons, lenI]
    rw [lenI_take m (i + 1) r (by omega)]
theorem getI_take {m : Nat} (hm : 10 ≤ m) (xs : List Int) (hb : ∀ x ∈ xs, 0 ≤ x ∧ x < 256) : getI (xs.take m) = getI xs := by
  have h := lenI_take m 0 xs (by omega)
  unfold getI
  rw [h]
  by_cases he : (lenI 0 xs).2 = 0
  · obtain ⟨_, _, h3, _⟩ := getI_back xs hb he
    rw [if_pos he, if_pos he, List.take_take, Nat.min_eq_left (by omega)]
  · rw [if_neg he, if_neg he]
/-- The kind that is taken: the byte, the place, the error. -/
def takeK (zs : List Int) : Int × Nat × Int := tk 0 0 0 (getB zs)
def errK (zs : List Int) : Int := if (takeK zs).1 = 1 ∨ (takeK zs).1 = 2 then (takeK zs).2.2 else stopI (takeK zs).2.2 4
/-- The payload that is taken. -/
def takeP (zs : List Int) : List Int × Nat × Int := tk [] (takeK zs).2.1 (errK zs) (getT 4096 (zs.drop (takeK zs).2.1))
/-- Four bytes that are taken, from a place and an error on. -/
def takeB (zs : List Int) (p : Nat) (e : Int) : Int × Nat × Int := tk 0 p e (getB (zs.drop p))
def at4 (zs : List Int) (p : Nat) (e : Int) : Nat → Nat × Int
  | 0 => (p, e)
  | j + 1 => (takeB zs (at4 zs p e j).1 (at4 zs p e j).2).2
def four (zs : List Int) (p : Nat) (e : Int) (j : Nat) : Int := (takeB zs (at4 zs p e j).1 (at4 zs p e j).2).1
def fourL (zs : List Int) (p : Nat) (e : Int) : List Int := [four zs p e 0, four zs p e 1, four zs p e 2, four zs p e 3]
/-- The error behind the sum, body being what it is of. -/
def errS (zs : List Int) (p : Nat) (e : Int) (body : List Int) : Int :=
  if fourL zs p e = le4 (sumX body) then (at4 zs p e 4).2 else stopI (at4 zs p e 4).2 5
theorem at4_stopped {zs : List Int} {p : Nat} {e : Int} (h : e ≠ 0) : ∀ j, at4 zs p e j = (p, e)
  | 0 => rfl
  | j + 1 => by
    simp only [at4, at4_stopped h j]
    unfold takeB
    rw [tk_stopped h]
theorem errS_stopped {zs : List Int} {p : Nat} {e : Int} {body : List Int} (h : e ≠ 0) : errS zs p e body = e := by
  unfold errS
  rw [at4_stopped h]
  split
  · rfl
  · exact stopI_kept h 5
theorem takeB_ok {zs : List Int} {p : Nat} (h : p < zs.length) : takeB zs p 0 = (zs[p], p + 1, 0) := by
  unfold takeB
  rw [List.drop_eq_getElem_cons h]
  rw [tk_ok (by rfl)]
  rfl
theorem takeB_end {zs : List Int} {p : Nat} (h : zs.length ≤ p) : takeB zs p 0 = (0, p, 2) := by
  unfold takeB
  rw [List.drop_of_length_le h, tk_err (by simp [getB])]
  rfl
theorem at4_ok {zs : List Int} {p : Nat} : ∀ j, p + j ≤ zs.length → at4 zs p 0 j = (p + j, 0)
  | 0, _ => rfl
  | j + 1, h => by
    have ih := at4_ok (zs := zs) (p := p) j (by omega)
    show (takeB zs (at4 zs p 0 j).1 (at4 zs p 0 j).2).2 = _
    rw [ih]
    show (takeB zs (p + j) 0).2 = _
    rw [takeB_ok (by omega)]
    rfl
theorem at4_end {zs : List Int} {p : Nat} (h : zs.length < p + 4) (hp : p ≤ zs.length) : (at4 zs p 0 4).2 = 2 := by
  have key : ∀ j, zs.length < p + j → (at4 zs p 0 j).2 = 2 := by
    intro j
    induction j with
    | zero => intro h; omega
    | succ j ih =>
      intro h
      by_cases hj : zs.length < p + j
      · have := ih hj
        simp only [at4]
        unfold takeB
        rw [this, tk_stopped (by simp)]
      · have hj := at4_ok (zs := zs) (p := p) j (by omega)
        show (takeB zs (at4 zs p 0 j).1 (at4 zs p 0 j).2).2.2 = _
        rw [hj]
        show (takeB zs (p + j) 0).2.2 = _
        rw [takeB_end (by omega)]
  exact key 4 h
theorem four_ok {zs : List Int} {p : Nat} (h : p + 4 ≤ zs.length) : fourL zs p 0 = (zs.drop p).take 4 := by
  unfold fourL four
  rw [at4_ok 0 (by omega), at4_ok 1 (by omega), at4_ok 2 (by omega), at4_ok 3 (by omega)]
  simp only
  rw [takeB_ok (by omega), takeB_ok (by omega), takeB_ok (by omega), takeB_ok (by omega)]
  rw [List.drop_eq_getElem_cons (show p < zs.length by omega), List.drop_eq_getElem_cons (show p + 1 < zs.length by omega), List.drop_eq_getElem_cons (show p + 1 + 1 < zs.length by omega), List.drop_eq_getElem_cons (show p + 1 + 1 + 1 < zs.length by omega)]
  rfl
/-- All that is taken of the bytes behind the mark, clipped. -/
theorem taken (ys : List Int) (hb : ∀ x ∈ ys, 0 ≤ x ∧ x < 256) (zs : List Int) (hz : zs = ys.take 4103) (e : Int) (he : e = errS zs (takeP zs).2.1 (takeP zs).2.2 (ys.take (takeP zs).2.1)) :
    (takeP zs).2.1 ≤ zs.length ∧
    getFr (markL ++ ys) = if e ≠ 0 then noFr e else (((takeK zs).1, (takeP zs).1), 4 + (at4 zs (takeP zs).2.1 (takeP zs).2.2 4).1, 0) := by
  rw [getFr_mark]
  cases ys with
  | nil =>
    subst hz
    have hk : takeK (([] : List Int).take 4103) = (0, 0, 2) := by decide
    have hek : errK (([] : List Int).take 4103) = 2 := by unfold errK; rw [hk]; decide
    have hp : takeP (([] : List Int).take 4103) = ([], 0, 2) := by unfold takeP; rw [hk, hek, tk_stopped (by simp)]
    rw [hp] at he ⊢
    rw [errS_stopped (by simp)] at he
    subst he
    exact ⟨Nat.zero_le _, by simp⟩
  | cons k r =>
    have hbr : ∀ x ∈ r, 0 ≤ x ∧ x < 256 := fun x hx => hb x (by simp [hx])
    rw [List.take_succ_cons] at hz
    have hzl : zs.length = min 4102 r.length + 1 := by rw [hz]; simp
    have hk : takeK zs = (k, 1, 0) := by rw [hz]; unfold takeK; rw [tk_ok (by rfl)]; rfl
    simp only
    by_cases hkk : k = 1 ∨ k = 2
    · rw [if_pos hkk]
      have hek : errK zs = 0 := by unfold errK; rw [hk, if_pos hkk]
      have hd1 : zs.drop 1 = r.take 4102 := by rw [hz]; rfl
      have hg := getI_take (show 10 ≤ 4102 by omega) r hbr
      by_cases her : (getI r).2.2 = 0
      · obtain ⟨n, s, hgi, h1, h2, h3, h4, h5⟩ := getI_ok r hbr her
        have hgt : getI (r.take 4102) = ((n : Int), s, 0) := hg.trans hgi
        by_cases hl : 4096 < n
        · have hT := getT_limit (most := 4096) hgt (by omega)
          have hp : takeP zs = ([], 1, 6) := by unfold takeP; rw [hk, hek, hd1, hT, tk_err (by simp)]
          rw [hp] at he ⊢
          rw [errS_stopped (by simp)] at he
          subst he
          exact ⟨by simp only; omega, by rw [getBody_limit hgi hl]; simp⟩
        · have hs2 : s ≤ 2 := by
            have hle := (encI_length 1 n (by omega)).2
            rw [h4, List.length_take] at hle
            omega
          by_cases hs : r.length - s < n
          · have hT := getT_short (most := 4096) hgt (by omega) (by simp; omega)
            have hp : takeP zs = ([], 1, 2) := by unfold takeP; rw [hk, hek, hd1, hT, tk_err (by simp)]
            rw [hp] at he ⊢
            rw [errS_stopped (by simp)] at he
            subst he
            exact ⟨by simp only; omega, by rw [getBody_short hgi (by omega) (by omega)]; simp⟩
          · have hT := getT_ok (most := 4096) hgt (by omega) (by simp; omega)
            have hp : takeP zs = (((r.take 4102).drop s).take n, 1 + (s + n), 0) := by unfold takeP; rw [hk, hek, hd1, hT, tk_ok (by rfl)]
            have hpay : ((r.take 4102).drop s).take n = (r.drop s).take n := by
              rw [List.drop_take, List.take_take, Nat.min_eq_left (by omega)]
            rw [hp, hpay] at he ⊢
            simp only at he ⊢
            have hbody : (k :: r).take (1 + (s + n)) = k :: r.take (s + n) := by rw [Nat.add_comm 1, List.take_succ_cons]
            rw [hbody] at he
            by_cases h4r : r.length < s + n + 4
            · have hend : zs.length < 1 + (s + n) + 4 := by omega
              have hE := at4_end hend (by omega)
              have he2 : e = 2 := by
                rw [he]
                unfold errS
                rw [hE]
                split <;> rfl
              subst he2
              exact ⟨by omega, by rw [getBody_short hgi (by omega) h4r]; simp⟩
            · have hA := at4_ok (zs := zs) (p := 1 + (s + n)) 4 (by omega)
              have hF := four_ok (zs := zs) (p := 1 + (s + n)) (by omega)
              have hdz : (zs.drop (1 + (s + n))).take 4 = (r.drop (s + n)).take 4 := by
                rw [hz, Nat.add_comm 1, List.drop_succ_cons, List.drop_take, List.take_take, Nat.min_eq_left (by omega)]
              rw [hdz] at hF
              unfold errS at he
              rw [hF, hA] at he
              rw [hA]
              by_cases hq : (r.drop (s + n)).take 4 = le4 (sumX (k :: r.take (s + n)))
              · rw [if_pos hq] at he
                subst he
                refine ⟨by omega, ?_⟩
                rw [getBody_ok hgi (by omega) h4r hq, if_neg (by simp), hk]
                simp only [Prod.mk.injEq, true_and, and_true]
                omega
              · rw [if_neg hq] at he
                simp only [stopI] at he
                subst he
                exact ⟨by omega, by rw [getBody_sum hgi (by omega) h4r hq]; simp⟩
      · have hT := getT_err (most := 4096) (xs := r.take 4102) (by rw [hg]) her
        have hp : takeP zs = ([], 1, (getI r).2.2) := by unfold takeP; rw [hk, hek, hd1, hT]; exact tk_err (r := (([] : List Int), 0, (getI r).2.2)) her
        rw [hp] at he ⊢
        rw [errS_stopped her] at he
        subst he
        exact ⟨by simp only; omega, by rw [getBody_err rfl her, if_pos her]⟩
    · have hek : errK zs = 4 := by unfold errK; rw [hk, if_neg hkk]; rfl
      have hp : takeP zs = ([], 1, 4) := by unfold takeP; rw [hk, hek, tk_stopped (by simp)]
      rw [hp] at he ⊢
      rw [errS_stopped (by simp)] at he
      subst he
      exact ⟨by simp only; omega, by rw [if_neg hkk]; simp⟩
end Go.Proofs.YtimihhcidbeonaaGreat

namespace Go.Proofs.YtimihhcidbeonaaGreat
open Go.RowKit
/-- A call that took something: what it answers, the cursor behind it; nothing else has changed. -/
def Took {α : Type} (f : α → Value) (w : World) (K g : Nat) (xs : List Int) (t : α × Nat × Int) (r : Ending) (w' : World) : Prop :=
  r = .returned (f t.1) ∧ Cur 174 w' K g xs t.2.1 t.2.2 ∧ w.grownBy w' (some g)
/-- What a closure found. -/
def Found {α : Type} (f : α → Value) (w : World) (t : α × Nat × Int) (r : Ending) (w' : World) : Prop :=
  r = .returned (.tuple #[f t.1, .int .i64 t.2.1, .int .i64 t.2.2]) ∧ Below w.heap.size w w'
def u8V (n : Int) : Value := .int .u8 n
def u64V (n : Int) : Value := .int .u64 n
def i64V (n : Int) : Value := .int .i64 n
def txtV (t : List Int) : Value := .string (strOfNums t)
/-- The front of what is left, as a slice. -/
theorem Cur.rest {w : World} {g : Nat} {A : Option Addr} {c : Nat} {xs : List Int} {p : Nat} (h : Row w g (.slice A xs.length c) xs) (hg : g ≤ w.heap.size) (hp : p ≤ xs.length) :
    Row w w.heap.size (.slice (if c = p then A else Option.map (fun x => x.add p) A) (xs.length - p) (c - p)) (xs.drop p) := by
  have := (h.drop hp).more hg
  rwa [List.length_drop] at this
theorem grown_drew {a b : World} {row : Option Nat} (h : a.drew.grownBy b row) : a.grownBy b row := ⟨h.os, h.tape, h.output, h.size, h.block⟩
set_option maxRecDepth 100000 in
set_option maxHeartbeats 1000000 in
theorem text1_any (A : Option Addr) (c : Nat) (ys : List Int) (most : Int) (hm0 : -9223372036854775808 ≤ most) (hm1 : most ≤ 9223372036854775807) (q : Nat) (w : World) (hrow : Row w w.heap.size (.slice A ys.length c) ys) (hb : ∀ x ∈ ys, 0 ≤ x ∧ x < 256) (hq : w.cell? ⟨q, 0, none⟩ = some (.int .i64 most)) :
    Calls Tryz.prog 193 #[.slice A ys.length c, .pointer (some ⟨q, 0, none⟩)] w (Found txtV w (getT most ys)) := by
  have hg := bget_any A c ys most hm0 hm1 w hrow hb
  clear hrow hb
  generalize getT most ys = t at hg
  obtain ⟨n, s, er⟩ := t
  simp only at hg
  have HG := Lib.hid hg; clear hg
  go_enter Tryz.func193, Tryz.ntmps193
  go_wp2_with fail
  refine HG.out.mono ?_
  rintro e w1 ⟨rfl, hb1⟩
  go_wp2_with fail
  go_ret3
  exact ⟨rfl, hb1⟩
end Go.Proofs.YtimihhcidbeonaaGreat

namespace Go.Proofs.YtimihhcidbeonaaGreat
open Go.RowKit
set_option maxRecDepth 100000 in
set_option maxHeartbeats 1000000 in
theorem take_t_any {K g : Nat} {xs : List Int} {p : Nat} {e : Int} {w : World} (most : Int) (hm0 : -9223372036854775808 ≤ most) (hm1 : most ≤ 9223372036854775807) (q : Nat) (h : Cur 174 w K g xs p e) (hp : p ≤ xs.length) (hK : K ≤ g) (hb : ∀ x ∈ xs, 0 ≤ x ∧ x < 256) (hq : w.cell? ⟨q, 0, none⟩ = some (.int .i64 most)) :
    Calls Tryz.prog 192 #[.pointer (some ⟨g, 0, none⟩), .func (.func 193) #[] #[.pointer (some ⟨q, 0, none⟩)]] w (Took txtV w K g xs (tk [] p e (getT most (xs.drop p)))) := by
  obtain ⟨A, c, c0, c1, c2, f1, f2, hr, hl, hc⟩ := h.cells
  have hg := h.lt
  by_cases he : e = 0
  · subst he
    have hrest := Cur.rest (w := w.drew) (p := p) (hr.keep (fun _ _ => rfl)) (Nat.le_of_lt hg) hp
    have hfits := (getT_fits most (xs.drop p) (drop_bytes hb p)).1
    rw [List.length_drop] at hfits
    have hcall := text1_any _ _ (xs.drop p) most hm0 hm1 q w.drew (by rw [List.length_drop]; exact hrest) (drop_bytes hb p) hq
    rw [List.length_drop] at hcall
    clear hrest hr hb
    generalize getT most (xs.drop p) = t at hfits hcall
    obtain ⟨v, s, er⟩ := t
    have HC := Lib.hid h; clear h
    have i0 : (0 : Int) ≤ (p : Int) := by omega
    have i1 : (p : Int) ≤ (xs.length : Int) := by omega
    rcases Nat.decEq c p with hcp | hcp
    · rw [if_neg hcp] at hcall
      have HCALL := Lib.hid hcall; clear hcall
      by_cases her : er = 0
      · subst her
        have hs : s ≤ xs.length - p := hfits rfl
        clear hfits
        rw [tk_ok rfl]
        go_enter Tryz.func192, Tryz.ntmps192
        go_wp2_with fail
        go_region_held3 (fun w' => w'.cell? ⟨g, 0, none⟩ = some (.slice A xs.length c) ∧ w'.cell? ⟨g, 1, none⟩ = some (.int .i64 p)) (first | go_keep | (refine ⟨(hb1.cell (p := ⟨g, 0, none⟩) hg).trans c0, (hb1.cell (p := ⟨g, 1, none⟩) hg).trans c1⟩))
          (first | ((with_reducible refine HCALL.out.mono ?_); rintro r w1 ⟨rfl, hb1⟩))
        have hc1 : Cur 174 w1 K g xs p 0 := (HC.out.keep (w' := w.drew) (fun _ _ _ => rfl) hK).below hb1 hK
        obtain ⟨A1, c', d0, d1, d2, k1, k2, _, _, _⟩ := hc1.cells
        have HC1 := Lib.hid hc1; clear hc1
        go_wp2_with fail
        go_ret
        refine ⟨rfl, ?_, grown_trans (grown_drew (grown_below (a := w.drew) hb1 _)) (grown_put _ _ _ _)⟩
        have hat := HC1.out.at_ (p + s)
        rw [Int.natCast_add] at hat
        exact hat
      · have hne : (er != 0) = true := by simpa using her
        clear hfits
        rw [tk_err her]
        have hst : stopI 0 er = er := rfl
        have HST := Lib.hid hst; clear hst
        go_enter Tryz.func192, Tryz.ntmps192
        go_wp2_with fail
        go_region_held3 (fun w' => w'.cell? ⟨g, 0, none⟩ = some (.slice A xs.length c) ∧ w'.cell? ⟨g, 1, none⟩ = some (.int .i64 p)) (first | go_keep | (refine ⟨(hb1.cell (p := ⟨g, 0, none⟩) hg).trans c0, (hb1.cell (p := ⟨g, 1, none⟩) hg).trans c1⟩))
          (first | ((with_reducible refine HCALL.out.mono ?_); rintro r w1 ⟨rfl, hb1⟩))
        have HC1 : Hid (Cur 174 w1 K g xs p 0) := (HC.out.keep (w' := w.drew) (fun _ _ _ => rfl) hK).below hb1 hK
        go_wp2_with fail
        refine (stop_any er HC1.out).mono ?_
        rintro r w2 ⟨rfl, hc2, hg2⟩
        rw [HST.out] at hc2
        have HC2 := Lib.hid hc2; clear hc2
        go_wp2_with fail
        go_ret
        exact ⟨rfl, HC2.out, grown_trans (grown_drew (grown_below (a := w.drew) hb1 _)) hg2⟩
    · have hcp' := hcp.symm
      subst hcp'
      rw [if_pos rfl, Nat.sub_self, Nat.sub_eq_zero_of_le hl] at hcall
      have HCALL := Lib.hid hcall; clear hcall hcp
      by_cases her : er = 0
      · subst her
        have hs : s ≤ xs.length - p := hfits rfl
        clear hfits
        rw [tk_ok rfl]
        go_enter Tryz.func192, Tryz.ntmps192
        go_wp2_with fail
        go_region_held3 (fun w' => w'.cell? ⟨g, 0, none⟩ = some (.slice A xs.length p) ∧ w'.cell? ⟨g, 1, none⟩ = some (.int .i64 p)) (first | go_keep | (refine ⟨(hb1.cell (p := ⟨g, 0, none⟩) hg).trans c0, (hb1.cell (p := ⟨g, 1, none⟩) hg).trans c1⟩))
          (first | ((with_reducible refine HCALL.out.mono ?_); rintro r w1 ⟨rfl, hb1⟩))
        have hc1 : Cur 174 w1 K g xs p 0 := (HC.out.keep (w' := w.drew) (fun _ _ _ => rfl) hK).below hb1 hK
        obtain ⟨A1, c', d0, d1, d2, k1, k2, _, _, _⟩ := hc1.cells
        have HC1 := Lib.hid hc1; clear hc1
        go_wp2_with fail
        go_ret
        refine ⟨rfl, ?_, grown_trans (grown_drew (grown_below (a := w.drew) hb1 _)) (grown_put _ _ _ _)⟩
        have hat := HC1.out.at_ (p + s)
        rw [Int.natCast_add] at hat
        exact hat
      · have hne : (er != 0) = true := by simpa using her
        clear hfits
        rw [tk_err her]
        have hst : stopI 0 er = er := rfl
        have HST := Lib.hid hst; clear hst
        go_enter Tryz.func192, Tryz.ntmps192
        go_wp2_with fail
        go_region_held3 (fun w' => w'.cell? ⟨g, 0, none⟩ = some (.slice A xs.length p) ∧ w'.cell? ⟨g, 1, none⟩ = some (.int .i64 p)) (first | go_keep | (refine ⟨(hb1.cell (p := ⟨g, 0, none⟩) hg).trans c0, (hb1.cell (p := ⟨g, 1, none⟩) hg).trans c1⟩))
          (first | ((with_reducible refine HCALL.out.mono ?_); rintro r w1 ⟨rfl, hb1⟩))
        have HC1 : Hid (Cur 174 w1 K g xs p 0) := (HC.out.keep (w' := w.drew) (fun _ _ _ => rfl) hK).below hb1 hK
        go_wp2_with fail
        refine (stop_any er HC1.out).mono ?_
        rintro r w2 ⟨rfl, hc2, hg2⟩
        rw [HST.out] at hc2
        have HC2 := Lib.hid hc2; clear hc2
        go_wp2_with fail
        go_ret
        exact ⟨rfl, HC2.out, grown_trans (grown_drew (grown_below (a := w.drew) hb1 _)) hg2⟩
  · rw [tk_stopped he]
    have hne : (e != 0) = true := by simpa using he
    have HC := Lib.hid h; clear h hr
    go_enter Tryz.func192, Tryz.ntmps192
    go_wp2_with fail
    go_ret
    exact ⟨rfl, HC.out, World.grownBy.refl _ _⟩
end Go.Proofs.YtimihhcidbeonaaGreat
namespace Go.Proofs.YtimihhcidbeonaaGreat
open Go.RowKit
section
variable {K g : Nat} {xs : List Int} {p : Nat} {e : Int} {w : World}
theorem grown_alloc (w : World) (o : Obj) (row : Option Nat) : w.grownBy (w.alloc o) row := grown_below ((Below.refl _ _).alloc (Nat.le_refl _) o) row
theorem text_any (most : Int) (hm0 : -9223372036854775808 ≤ most) (hm1 : most ≤ 9223372036854775807) (h : Cur 174 w K g xs p e) (hp : p ≤ xs.length) (hK : K ≤ g) (hb : ∀ x ∈ xs, 0 ≤ x ∧ x < 256) :
    Calls Tryz.prog 152 #[.pointer (some ⟨g, 0, none⟩), .int .i64 most] w (Took txtV w K g xs (tk [] p e (getT most (xs.drop p)))) := by
  have h1 := h.below ((Below.refl _ _).alloc (Nat.le_refl _) (.cells #[.int .i64 most] 3)) hK
  have HT := Lib.hid (take_t_any most hm0 hm1 w.heap.size h1 hp hK hb (by simp [World.cell?_alloc_new])); clear h h1 hb
  go_enter Tryz.func152, Tryz.ntmps152
  go_wp2_with fail
  refine HT.out.mono ?_
  rintro r w1 ⟨rfl, hc1, hg1⟩
  go_wp2_with fail
  go_ret
  exact ⟨rfl, hc1, grown_trans (grown_alloc _ _ _) hg1⟩
end
end Go.Proofs.YtimihhcidbeonaaGreat

namespace Go.Proofs.YtimihhcidbeonaaGreat
open Go.RowKit
theorem markI_short : ∀ (ms xs : List Int), xs.length < ms.length → (∀ j, j < xs.length → xs.getD j 0 = ms.getD j 0) → markI ms xs = 2
  | [], xs, h, _ => by simp at h
  | m :: ms, [], _, _ => rfl
  | m :: ms, x :: xs, h, hj => by
    simp only [markI]
    rw [if_pos (by simpa using hj 0 (by simp))]
    exact markI_short ms xs (by simpa using h) (fun j hjl => by simpa using hj (j + 1) (by simpa using hjl))
theorem markI_all : ∀ (ms xs : List Int), ms.length ≤ xs.length → (∀ j, j < ms.length → xs.getD j 0 = ms.getD j 0) → markI ms xs = 0
  | [], xs, _, _ => rfl
  | m :: ms, [], h, _ => by simp at h
  | m :: ms, x :: xs, h, hj => by
    simp only [markI]
    rw [if_pos (by simpa using hj 0 (by simp))]
    exact markI_all ms xs (by simpa using h) (fun j hjl => by simpa using hj (j + 1) (by simpa using hjl))
theorem markI_other : ∀ (ms xs : List Int) (k : Nat), k < ms.length → k < xs.length → (∀ j, j < k → xs.getD j 0 = ms.getD j 0) → xs.getD k 0 ≠ ms.getD k 0 → markI ms xs = 4
  | [], _, k, h, _, _, _ => by simp at h
  | m :: ms, [], k, _, h, _, _ => by simp at h
  | m :: ms, x :: xs, 0, _, _, _, hne => by
    simp only [markI]
    rw [if_neg (by simpa using hne)]
  | m :: ms, x :: xs, k + 1, h1, h2, hj, hne => by
    simp only [markI]
    rw [if_pos (by simpa using hj 0 (by omega))]
    exact markI_other ms xs k (by simpa using h1) (by simpa using h2) (fun j hjl => by simpa using hj (j + 1) (by omega)) (by simpa using hne)
set_option maxRecDepth 100000 in
set_option maxHeartbeats 1000000 in
theorem marked_any (A : Option Addr) (c : Nat) (xs : List Int) (w : World) (hrow : Row w w.heap.size (.slice A xs.length c) xs) (hb : ∀ x ∈ xs, 0 ≤ x ∧ x < 256) :
    Calls Tryz.prog 142 #[.slice A xs.length c] w fun e w' => e = .returned (.int .i64 (markI markL xs)) ∧ ∃ n, w' = w.drewN n := by
  obtain ⟨A', c', hv, hlc, hcm, _, hcells⟩ := hrow
  injection hv with h1 h2 h3
  subst h1 h3
  unfold maxLen at hcm
  have hsz : xs.length ≤ 9223372036854775807 := by omega
  obtain ⟨M, hM, hM1, hM2, hM3⟩ : ∃ M : Nat, min (xs.length : Int) 4 = M ∧ M ≤ xs.length ∧ M ≤ 4 ∧ (M = xs.length ∨ M = 4) := by
    by_cases h : xs.length ≤ 4
    · exact ⟨xs.length, by omega, by omega, by omega, .inl rfl⟩
    · exact ⟨4, by omega, by omega, by omega, .inr rfl⟩
  have HM3 := Lib.hid hM3; clear hM3
  have HC := Lib.hid hcells; clear hcells
  have HB := Lib.hid hb; clear hb
  go_enter Tryz.func142, Tryz.ntmps142
  go_wp2
  have HM := Lib.hid hM; clear hM
  go_loopw [7] (fun i wr => ∃ k n : Nat, k ≤ M ∧ i = .int .i64 k ∧ wr = w.drewN n ∧ Hid (∀ j, j < k → xs.getD j 0 = markL.getD j 0)) (fun i _ => M - (intOf i).toNat)
  case atStart => exact ⟨0, 0, Nat.zero_le _, rfl, rfl, Lib.hid (fun j h => absurd h (Nat.not_lt_zero _))⟩
  case round =>
    obtain ⟨k, n, hk, rfl, rfl, HJ⟩ := hrel
    by_cases hlt : k < M
    · obtain ⟨b, o, rfl, _, hc⟩ := HC.out (by omega)
      have hck := hc k (by omega)
      clear hc
      have hin : xs.getD k 0 ∈ xs := by rw [List.getD, List.getElem?_eq_getElem (by omega)]; simp
      obtain ⟨y0, y1⟩ := HB.out _ hin
      clear hin
      obtain ⟨y, hy⟩ : ∃ y, xs.getD k 0 = y := ⟨_, rfl⟩
      rw [hy] at hck y0 y1
      have HY := Lib.hid hy; clear hy
      have i2 : k < xs.length := by omega
      obtain ⟨z, hz⟩ : ∃ z, markL.getD k 0 = z := ⟨_, rfl⟩
      by_cases he : y = z
      · have hj2 : ∀ j, j < k + 1 → xs.getD j 0 = markL.getD j 0 := fun j hj => by
          rcases Nat.lt_or_ge j k with h | h
          · exact HJ.out j h
          · obtain rfl : j = k := by omega
            rw [HY.out, hz, he]
        have HJ2 := Lib.hid hj2; clear hj2 HJ
        rcases (by omega : k = 0 ∨ k = 1 ∨ k = 2 ∨ k = 3) with rfl | rfl | rfl | rfl
        · have i1 : (0 : Int) < (xs.length : Int) := by omega
          have hzv : z = 199 := hz.symm
          subst hzv
          subst he
          rw [Nat.add_zero] at hck
          clear hz
          go_wp2_with fail
          go_quiet (fail)
          go_wp2_with fail
          exact ⟨⟨1, n + nq, by omega, rfl, rfl, HJ2⟩, by simp [intOf]; omega⟩
        · have i1 : (1 : Int) < (xs.length : Int) := by omega
          have hzv : z = 84 := hz.symm
          subst hzv
          subst he
          skip
          clear hz
          go_wp2_with fail
          go_quiet (fail)
          go_wp2_with fail
          exact ⟨⟨2, n + nq, by omega, rfl, rfl, HJ2⟩, by simp [intOf]; omega⟩
        · have i1 : (2 : Int) < (xs.length : Int) := by omega
          have hzv : z = 71 := hz.symm
          subst hzv
          subst he
          skip
          clear hz
          go_wp2_with fail
          go_quiet (fail)
          go_wp2_with fail
          exact ⟨⟨3, n + nq, by omega, rfl, rfl, HJ2⟩, by simp [intOf]; omega⟩
        · have i1 : (3 : Int) < (xs.length : Int) := by omega
          have hzv : z = 1 := hz.symm
          subst hzv
          subst he
          skip
          clear hz
          go_wp2_with fail
          go_quiet (fail)
          go_wp2_with fail
          exact ⟨⟨4, n + nq, by omega, rfl, rfl, HJ2⟩, by simp [intOf]; omega⟩
      · have hfin : markI markL xs = 4 := markI_other markL xs k (by simp [markL]; omega) i2 HJ.out (by rw [HY.out, hz]; exact he)
        have HF := Lib.hid hfin; clear hfin HJ
        rcases (by omega : k = 0 ∨ k = 1 ∨ k = 2 ∨ k = 3) with rfl | rfl | rfl | rfl
        · have i1 : (0 : Int) < (xs.length : Int) := by omega
          have hzv : z = 199 := hz.symm
          subst hzv
          have hne : (y != 199) = true := bne_iff_ne.2 he
          have hne2 : (y == 199) = false := beq_eq_false_iff_ne.2 he
          rw [Nat.add_zero] at hck
          clear hz
          go_wp2_with fail
          go_quiet (fail)
          go_wp2_with fail
          · go_ret
            exact ⟨by rw [HF.out]; rfl, n + nq, by simp⟩
          · rename_i hx
            simp [bne] at hx
            exact absurd hx he
        · have i1 : (1 : Int) < (xs.length : Int) := by omega
          have hzv : z = 84 := hz.symm
          subst hzv
          have hne : (y != 84) = true := bne_iff_ne.2 he
          have hne2 : (y == 84) = false := beq_eq_false_iff_ne.2 he
          skip
          clear hz
          go_wp2_with fail
          go_quiet (fail)
          go_wp2_with fail
          · go_ret
            exact ⟨by rw [HF.out]; rfl, n + nq, by simp⟩
          · rename_i hx
            simp [bne] at hx
            exact absurd hx he
        · have i1 : (2 : Int) < (xs.length : Int) := by omega
          have hzv : z = 71 := hz.symm
          subst hzv
          have hne : (y != 71) = true := bne_iff_ne.2 he
          have hne2 : (y == 71) = false := beq_eq_false_iff_ne.2 he
          skip
          clear hz
          go_wp2_with fail
          go_quiet (fail)
          go_wp2_with fail
          · go_ret
            exact ⟨by rw [HF.out]; rfl, n + nq, by simp⟩
          · rename_i hx
            simp [bne] at hx
            exact absurd hx he
        · have i1 : (3 : Int) < (xs.length : Int) := by omega
          have hzv : z = 1 := hz.symm
          subst hzv
          have hne : (y != 1) = true := bne_iff_ne.2 he
          have hne2 : (y == 1) = false := beq_eq_false_iff_ne.2 he
          skip
          clear hz
          go_wp2_with fail
          go_quiet (fail)
          go_wp2_with fail
          · go_ret
            exact ⟨by rw [HF.out]; rfl, n + nq, by simp⟩
          · rename_i hx
            simp [bne] at hx
            exact absurd hx he
    · obtain rfl : k = M := by omega
      by_cases h4 : xs.length < 4
      · have hfin : markI markL xs = 2 := markI_short markL xs (by simpa [markL] using h4) (fun j hj => HJ.out j (by rcases HM3.out with h | h <;> omega))
        have HF := Lib.hid hfin; clear hfin
        have h4i : (xs.length : Int) < 4 := by omega
        go_wp2_with fail
        go_ret
        exact ⟨by rw [HF.out]; rfl, _, rfl⟩
      · have hfin : markI markL xs = 0 := markI_all markL xs (by simp [markL]; omega) (fun j hj => HJ.out j (by simp [markL] at hj; rcases HM3.out with h | h <;> omega))
        have HF := Lib.hid hfin; clear hfin
        have h4i : (4 : Int) ≤ (xs.length : Int) := by omega
        go_wp2_with fail
        go_ret
        exact ⟨by rw [HF.out]; rfl, _, rfl⟩
end Go.Proofs.YtimihhcidbeonaaGreat

namespace Go.Proofs.YtimihhcidbeonaaGreat
open Go.RowKit
set_option maxHeartbeats 400000 in
theorem byte1_any (A : Option Addr) (c : Nat) (ys : List Int) (w : World) (hrow : Row w w.heap.size (.slice A ys.length c) ys) :
    Calls Tryz.prog 209 #[.slice A ys.length c] w (Found u8V w (getB ys)) := by
  cases ys with
  | nil =>
    clear hrow
    go_enter Tryz.func209, Tryz.ntmps209
    go_wp2_with fail
    go_ret3
    exact ⟨rfl, Below.refl _ _⟩
  | cons y r =>
    obtain ⟨A', c', hv, _, _, _, h4⟩ := hrow
    injection hv with e1 _ e3
    subst e1 e3
    obtain ⟨b, o, rfl, _, hc⟩ := h4 (by simp)
    have hc0 := hc 0 (by simp)
    simp at hc0
    clear hc h4
    have hl : (r.length : Int) + 1 ≠ 0 := by omega
    have hl2 : ((r.length : Int) + 1 == 0) = false := beq_eq_false_iff_ne.2 hl
    have hl3 : (0 : Int) < (r.length : Int) + 1 := by omega
    have hl4 : 0 < r.length + 1 := by omega
    go_enter Tryz.func209, Tryz.ntmps209
    go_wp2_with fail
    go_ret3
    exact ⟨rfl, Below.refl _ _⟩
end Go.Proofs.YtimihhcidbeonaaGreat

namespace Go.Proofs.YtimihhcidbeonaaGreat
open Go.RowKit
set_option maxRecDepth 100000 in
set_option maxHeartbeats 1000000 in
theorem take_b_any {K g : Nat} {xs : List Int} {p : Nat} {e : Int} {w : World} (h : Cur 174 w K g xs p e) (hp : p ≤ xs.length) (hK : K ≤ g) (_hb : ∀ x ∈ xs, 0 ≤ x ∧ x < 256) :
    Calls Tryz.prog 208 #[.pointer (some ⟨g, 0, none⟩), .func (.func 209) #[] #[]] w (Took u8V w K g xs (tk 0 p e (getB (xs.drop p)))) := by
  obtain ⟨A, c, c0, c1, c2, f1, f2, hr, hl, hc⟩ := h.cells
  have hg := h.lt
  by_cases he : e = 0
  · subst he
    have hrest := Cur.rest (w := w.drew) (p := p) (hr.keep (fun _ _ => rfl)) (Nat.le_of_lt hg) hp
    have hfits := (getB_fits (xs.drop p)).1
    rw [List.length_drop] at hfits
    have hcall := byte1_any _ _ (xs.drop p) w.drew (by rw [List.length_drop]; exact hrest)
    rw [List.length_drop] at hcall
    clear hrest hr _hb
    generalize getB (xs.drop p) = t at hfits hcall
    obtain ⟨v, s, er⟩ := t
    have HC := Lib.hid h; clear h
    have i0 : (0 : Int) ≤ (p : Int) := by omega
    have i1 : (p : Int) ≤ (xs.length : Int) := by omega
    rcases Nat.decEq c p with hcp | hcp
    · rw [if_neg hcp] at hcall
      have HCALL := Lib.hid hcall; clear hcall
      by_cases her : er = 0
      · subst her
        have hs : s ≤ xs.length - p := hfits rfl
        clear hfits
        rw [tk_ok rfl]
        go_enter Tryz.func208, Tryz.ntmps208
        go_wp2_with fail
        go_region_held3 (fun w' => w'.cell? ⟨g, 0, none⟩ = some (.slice A xs.length c) ∧ w'.cell? ⟨g, 1, none⟩ = some (.int .i64 p)) (first | go_keep | (refine ⟨(hb1.cell (p := ⟨g, 0, none⟩) hg).trans c0, (hb1.cell (p := ⟨g, 1, none⟩) hg).trans c1⟩))
          (first | ((with_reducible refine HCALL.out.mono ?_); rintro r w1 ⟨rfl, hb1⟩))
        have hc1 : Cur 174 w1 K g xs p 0 := (HC.out.keep (w' := w.drew) (fun _ _ _ => rfl) hK).below hb1 hK
        obtain ⟨A1, c', d0, d1, d2, k1, k2, _, _, _⟩ := hc1.cells
        have HC1 := Lib.hid hc1; clear hc1
        go_wp2_with fail
        go_ret
        refine ⟨rfl, ?_, grown_trans (grown_drew (grown_below (a := w.drew) hb1 _)) (grown_put _ _ _ _)⟩
        have hat := HC1.out.at_ (p + s)
        rw [Int.natCast_add] at hat
        exact hat
      · have hne : (er != 0) = true := by simpa using her
        clear hfits
        rw [tk_err her]
        have hst : stopI 0 er = er := rfl
        have HST := Lib.hid hst; clear hst
        go_enter Tryz.func208, Tryz.ntmps208
        go_wp2_with fail
        go_region_held3 (fun w' => w'.cell? ⟨g, 0, none⟩ = some (.slice A xs.length c) ∧ w'.cell? ⟨g, 1, none⟩ = some (.int .i64 p)) (first | go_keep | (refine ⟨(hb1.cell (p := ⟨g, 0, none⟩) hg).trans c0, (hb1.cell (p := ⟨g, 1, none⟩) hg).trans c1⟩))
          (first | ((with_reducible refine HCALL.out.mono ?_); rintro r w1 ⟨rfl, hb1⟩))
        have HC1 : Hid (Cur 174 w1 K g xs p 0) := (HC.out.keep (w' := w.drew) (fun _ _ _ => rfl) hK).below hb1 hK
        go_wp2_with fail
        refine (stop_any er HC1.out).mono ?_
        rintro r w2 ⟨rfl, hc2, hg2⟩
        rw [HST.out] at hc2
        have HC2 := Lib.hid hc2; clear hc2
        go_wp2_with fail
        go_ret
        exact ⟨rfl, HC2.out, grown_trans (grown_drew (grown_below (a := w.drew) hb1 _)) hg2⟩
    · have hcp' := hcp.symm
      subst hcp'
      rw [if_pos rfl, Nat.sub_self, Nat.sub_eq_zero_of_le hl] at hcall
      have HCALL := Lib.hid hcall; clear hcall hcp
      by_cases her : er = 0
      · subst her
        have hs : s ≤ xs.length - p := hfits rfl
        clear hfits
        rw [tk_ok rfl]
        go_enter Tryz.func208, Tryz.ntmps208
        go_wp2_with fail
        go_region_held3 (fun w' => w'.cell? ⟨g, 0, none⟩ = some (.slice A xs.length p) ∧ w'.cell? ⟨g, 1, none⟩ = some (.int .i64 p)) (first | go_keep | (refine ⟨(hb1.cell (p := ⟨g, 0, none⟩) hg).trans c0, (hb1.cell (p := ⟨g, 1, none⟩) hg).trans c1⟩))
          (first | ((with_reducible refine HCALL.out.mono ?_); rintro r w1 ⟨rfl, hb1⟩))
        have hc1 : Cur 174 w1 K g xs p 0 := (HC.out.keep (w' := w.drew) (fun _ _ _ => rfl) hK).below hb1 hK
        obtain ⟨A1, c', d0, d1, d2, k1, k2, _, _, _⟩ := hc1.cells
        have HC1 := Lib.hid hc1; clear hc1
        go_wp2_with fail
        go_ret
        refine ⟨rfl, ?_, grown_trans (grown_drew (grown_below (a := w.drew) hb1 _)) (grown_put _ _ _ _)⟩
        have hat := HC1.out.at_ (p + s)
        rw [Int.natCast_add] at hat
        exact hat
      · have hne : (er != 0) = true := by simpa using her
        clear hfits
        rw [tk_err her]
        have hst : stopI 0 er = er := rfl
        have HST := Lib.hid hst; clear hst
        go_enter Tryz.func208, Tryz.ntmps208
        go_wp2_with fail
        go_region_held3 (fun w' => w'.cell? ⟨g, 0, none⟩ = some (.slice A xs.length p) ∧ w'.cell? ⟨g, 1, none⟩ = some (.int .i64 p)) (first | go_keep | (refine ⟨(hb1.cell (p := ⟨g, 0, none⟩) hg).trans c0, (hb1.cell (p := ⟨g, 1, none⟩) hg).trans c1⟩))
          (first | ((with_reducible refine HCALL.out.mono ?_); rintro r w1 ⟨rfl, hb1⟩))
        have HC1 : Hid (Cur 174 w1 K g xs p 0) := (HC.out.keep (w' := w.drew) (fun _ _ _ => rfl) hK).below hb1 hK
        go_wp2_with fail
        refine (stop_any er HC1.out).mono ?_
        rintro r w2 ⟨rfl, hc2, hg2⟩
        rw [HST.out] at hc2
        have HC2 := Lib.hid hc2; clear hc2
        go_wp2_with fail
        go_ret
        exact ⟨rfl, HC2.out, grown_trans (grown_drew (grown_below (a := w.drew) hb1 _)) hg2⟩
  · rw [tk_stopped he]
    have hne : (e != 0) = true := by simpa using he
    have HC := Lib.hid h; clear h hr
    go_enter Tryz.func208, Tryz.ntmps208
    go_wp2_with fail
    go_ret
    exact ⟨rfl, HC.out, World.grownBy.refl _ _⟩
end Go.Proofs.YtimihhcidbeonaaGreat

namespace Go.Proofs.YtimihhcidbeonaaGreat
open Go.RowKit
section
variable {K g : Nat} {xs : List Int} {p : Nat} {e : Int} {w : World}
theorem byte_any (h : Cur 174 w K g xs p e) (hp : p ≤ xs.length) (hK : K ≤ g) (hb : ∀ x ∈ xs, 0 ≤ x ∧ x < 256) :
    Calls Tryz.prog 188 #[.pointer (some ⟨g, 0, none⟩)] w (Took u8V w K g xs (tk 0 p e (getB (xs.drop p)))) := by
  have HT := Lib.hid (take_b_any h hp hK hb); clear h hb
  go_enter Tryz.func188, Tryz.ntmps188
  go_wp2_with fail
  refine HT.out.mono ?_
  rintro r w1 ⟨rfl, hc1, hg1⟩
  go_wp2_with fail
  go_ret
  exact ⟨rfl, hc1, hg1⟩
end
end Go.Proofs.YtimihhcidbeonaaGreat

namespace Go.Proofs.YtimihhcidbeonaaGreat
open Go.RowKit
theorem run_neq_four (w : World) (a0 a1 a2 a3 b0 b1 b2 b3 : Int) :
    (binOp .neq 270 (.agg #[.int .u8 a0, .int .u8 a1, .int .u8 a2, .int .u8 a3]) (.agg #[.int .u8 b0, .int .u8 b1, .int .u8 b2, .int .u8 b3])).run Tryz.prog w = .ok (.bool (!(a0 == b0 && (a1 == b1 && (a2 == b2 && a3 == b3))))) w := by
  have he : ∀ (W : World) (x y : Int), (Op.equalIn 9999 5 (.int .u8 x) (.int .u8 y)).run Tryz.prog W = .ok (x == y) W := fun W x y => by
    rw [run_equalIn_int W 9998 5 .u8 .u8 x y Tryz.underlying5]
  have hp : ∀ (W : World) (cs : Array Value) (i : Nat) (v : Value), cs[i]? = some v → (part 5 cs i).run Tryz.prog W = .ok v W := fun W cs i v hv => by
    simp [part, isAgg, run_underlying Tryz.underlying5, hv]
  have hc : Tryz.prog.cellsOf 5 = 1 := by kernel_rfl
  obtain ⟨i0, hi, hz0, hz1, hz2⟩ := info_parts Tryz.infoU8
  rw [run_neq_struct, run_equalIn_array w 9999 _ _ Tryz.underlying270 hi, hc]
  simp only [List.range, List.range.loop, Op.eqItems, Sem.run_bind]
  rw [hp w _ _ _ (by rfl : (#[Value.int .u8 a0, .int .u8 a1, .int .u8 a2, .int .u8 a3])[0 * 1]? = some (.int .u8 a0))]
  simp [hp, he]
  cases h0 : (a0 == b0) <;> cases h1 : (a1 == b1) <;> cases h2 : (a2 == b2) <;> cases h3 : (a3 == b3) <;> simp_all
end Go.Proofs.YtimihhcidbeonaaGreat

namespace Go.Proofs.YtimihhcidbeonaaGreat
open Go.RowKit
/-- A new taker. -/
def FreshT (w : World) (xs : List Int) (e : Ending) (W' : World) : Prop :=
  ∃ g, e = .returned (.agg #[.pointer (some ⟨g, 0, none⟩)]) ∧ w.heap.size ≤ g ∧ Cur 174 W' w.heap.size g xs 0 0 ∧ Below w.heap.size w W'
theorem Cur.lower {T : TypeId} {w : World} {K K' g : Nat} {xs : List Int} {p : Nat} {e : Int} (h : Cur T w K g xs p e) (hk : K' ≤ K) : Cur T w K' g xs p e := by
  obtain ⟨A, c, h1, h2, h3⟩ := h
  exact ⟨A, c, h1, h2, fun a ha => Nat.le_trans hk (h3 a ha)⟩
theorem sizeI_most : sizeI 4096 = 4107 := by
  have h : (encI 4096).length = 2 := by rw [encI_great (by omega), encI_small (by omega)]; rfl
  rw [show (4096 : Int) = ((4096 : Nat) : Int) from rfl, sizeI_ok (by omega), h]
  rfl
set_option maxRecDepth 100000 in
set_option maxHeartbeats 1000000 in
theorem newt_any (A : Option Addr) (c : Nat) (xs : List Int) (hsm : xs.length ≤ 9223372036854775807) (w : World) (hrow : Row w w.heap.size (.slice A xs.length c) xs) :
    Calls Tryz.prog 143 #[.slice A xs.length c] w (FreshT w (xs.take 4103)) := by
  have HS := Lib.hid (fun W => fsize_any 4096 (by omega) (by omega) W)
  rw [sizeI_most] at HS
  obtain ⟨M, hM, hM1⟩ : ∃ M : Nat, min (xs.length : Int) 4103 = M ∧ M = min xs.length 4103 := ⟨_, by omega, rfl⟩
  have htk : xs.take 4103 = xs.take M := by
    rw [hM1]
    by_cases h : xs.length ≤ 4103
    · rw [Nat.min_eq_left h, List.take_of_length_le h, List.take_length]
    · rw [Nat.min_eq_right (by omega)]
  have hMl : M ≤ xs.length := by omega
  obtain ⟨hlc, hcm⟩ : xs.length ≤ c ∧ c ≤ 9223372036854775807 := by
    obtain ⟨_, _, hv, q1, q2, _⟩ := hrow
    injection hv with _ _ e3
    subst e3
    unfold maxLen at q2
    exact ⟨q1, by omega⟩
  have hrow2 := hrow.take hMl
  rw [htk]
  have hl2 : (xs.take M).length = M := by simp; omega
  have hcn := fun W (h : Row W W.heap.size (.slice A (xs.take M).length c) (xs.take M)) => new_any A c (xs.take M) (by omega) W h
  rw [hl2] at hrow2 hcn
  generalize xs.take M = zs at hrow2 hcn ⊢
  have i1 : (M : Int) ≤ (xs.length : Int) := by omega
  have i2 : (M : Int) ≤ (c : Int) := by omega
  have i0 : (0 : Int) ≤ (M : Int) := by omega
  have HR := Lib.hid hrow2
  have HN := Lib.hid hcn
  clear hrow hrow2 hcn htk hM1 hl2
  go_enter Tryz.func143, Tryz.ntmps143
  go_wp2_with fail
  refine (HS.out _).mono ?_
  rintro e w1 ⟨rfl, hb1⟩
  go_wp2_with fail
  have hz1 : w.heap.size + 1 ≤ w1.heap.size := by have := hb1.size; simpa using this
  have b1 : Below w.heap.size w w1 := ((Below.refl _ _).alloc (Nat.le_refl _) _).trans (hb1.mono (by simp))
  refine (HN.out w1 ((HR.out.below b1).more (by omega))).mono ?_
  rintro e w2 ⟨g, rfl, hg, hcur, hb2⟩
  have hc2 : w2.cell? ⟨w.heap.size, 0, none⟩ = some (.pointer none) := (hb2.cell (p := ⟨w.heap.size, 0, none⟩) (by simp only; omega)).trans ((hb1.cell (p := ⟨w.heap.size, 0, none⟩) (by simp)).trans (by simp [World.cell?_alloc_new]))
  have hf2 : w2.frozen? ⟨w.heap.size, 0, none⟩ = false := (hb2.frozen (p := ⟨w.heap.size, 0, none⟩) (by simp only; omega)).trans ((hb1.frozen (p := ⟨w.heap.size, 0, none⟩) (by simp)).trans (by simp [World.frozen?_alloc_new]))
  have hz2 := hb2.size
  have HC := Lib.hid hcur
  clear hb1 hcur
  go_wp2_with fail
  refine bodyPost_ret (v := .agg #[.pointer (some ⟨g, 0, none⟩)]) (by simp [results, Tryz.results143, go_sem, hc2]) rfl ⟨g, rfl, by omega, ?_, ?_⟩
  · exact (HC.out.grown (grown_put _ _ _ _) (by left; omega) hg).lower (by omega)
  · exact (b1.trans (hb2.mono (by omega))).setCell (p := ⟨w.heap.size, 0, none⟩) (Nat.le_refl _) _
/-- []byte(s): it lies in a new block. -/
theorem conv_new {P : Program} (w : World) (src dst e : TypeId) (hs : P.underlying src = some .string) (hd : P.underlying dst = some (.slice e)) (he : P.underlying e = some (.int .u8))
    (xs : List Int) (hb : ∀ x ∈ xs, 0 ≤ x ∧ x < 256) (hl : xs.length ≤ 9223372036854775807) :
    ∃ A c W', (convert src dst (.string (strOfNums xs))).run P w = .ok (.slice A xs.length c) W' ∧ Row W' W'.heap.size (.slice A xs.length c) xs ∧ Below w.heap.size w W' ∧ ∀ a, A = some a → w.heap.size ≤ a.block := by
  obtain ⟨A, c, W', h, h2, h3⟩ := conv_bytes (P := P) w src dst e hs hd he xs hb hl
  refine ⟨A, c, W', h, h2, h3, fun a ha => ?_⟩
  rw [Lib.run_convert_string_bytes (P := P) w src dst e (strOfNums xs) hs hd he] at h
  injection h with e1 _
  injection e1 with e3 _ _
  rw [ha] at e3
  injection e3 with e4
  rw [← e4]
  exact Nat.le_refl _
section
variable {K g : Nat} {xs : List Int} {p : Nat} {e : Int} {w : World}
/-- A cursor behind a box that a method lays for its receiver. -/
theorem Cur.boxed (h : Cur 174 w K g xs p e) (hK : K ≤ g) (o : Obj) : Cur 174 (w.alloc o) K g xs p e := h.below ((Below.refl _ _).alloc (Nat.le_refl _) o) hK
theorem tk_at_le (z : Int) {n p : Nat} {e : Int} {ys : List Int} (hp : p ≤ n) (hl : ys.length = n - p) : (tk z p e (getB ys)).2.1 ≤ n :=
  (tk_never (n := n) hp (fun h => by have := (getB_fits ys).1 h; omega)).2.1
set_option maxRecDepth 100000 in
set_option maxHeartbeats 1000000 in
/-- The kind that a taker takes. -/
theorem kind_any (h : Cur 174 w K g xs 0 0) (hK : K ≤ g) (hb : ∀ x ∈ xs, 0 ≤ x ∧ x < 256) :
    Calls Tryz.prog 144 #[.agg #[.pointer (some ⟨g, 0, none⟩)]] w fun r w' => r = .returned (.int .i64 (takeK xs).1) ∧ Cur 174 w' K g xs (takeK xs).2.1 (errK xs) ∧ w.grownBy w' (some g) := by
  have hg := h.lt
  have HC := Lib.hid h
  have HB := Lib.hid (byte_any (h.boxed hK (.cells #[.pointer (some ⟨g, 0, none⟩)] 229)) (Nat.zero_le _) hK hb)
  rw [List.drop_zero] at HB
  have hk0 : 0 ≤ (takeK xs).1 ∧ (takeK xs).1 < 256 := by
    unfold takeK
    cases xs with
    | nil => decide
    | cons x r => rw [tk_ok (by rfl)]; exact hb x (by simp)
  clear h hb
  change Hid (Calls Tryz.prog _ _ _ (Took u8V _ K g xs (takeK xs))) at HB
  obtain ⟨k0, k1⟩ := hk0
  unfold errK
  generalize takeK xs = t at HB k0 k1 ⊢
  obtain ⟨k, q, er⟩ := t
  simp only at k0 k1 ⊢
  by_cases hk : k = 1 ∨ k = 2
  · rw [if_pos hk]
    have HK := Lib.hid (fun W => known_yes hk W)
    clear hk
    go_enter Tryz.func144, Tryz.ntmps144
    go_wp2_with fail
    refine HB.out.mono ?_
    rintro r w1 ⟨rfl, hc1, hg1⟩
    simp only [u8V]
    have HC1 := Lib.hid hc1; clear hc1
    go_wp2_with fail
    refine (HK.out _).mono ?_
    rintro r w2 ⟨rfl, rfl⟩
    go_wp2_with fail
    go_ret
    exact ⟨rfl, HC1.out, grown_trans (grown_alloc _ _ _) hg1⟩
  · rw [if_neg hk]
    have HK := Lib.hid (fun W => known_no hk W)
    clear hk
    go_enter Tryz.func144, Tryz.ntmps144
    go_wp2_with fail
    refine HB.out.mono ?_
    rintro r w1 ⟨rfl, hc1, hg1⟩
    simp only [u8V]
    have hbox : w1.cell? ⟨w.heap.size, 0, none⟩ = some (.pointer (some ⟨g, 0, none⟩)) := (World.cell?_of_block (hg1.block w.heap.size (by simp) (fun e => by injection e with e; omega))).trans (by simp [World.cell?_alloc_new])
    have HC1 := Lib.hid hc1; clear hc1
    go_wp2_with fail
    refine (HK.out _).mono ?_
    rintro r w2 ⟨rfl, rfl⟩
    have HST := Lib.hid (stop_any 4 HC1.out)
    go_wp2_with fail
    refine HST.out.mono ?_
    rintro r w3 ⟨rfl, hc3, hg3⟩
    have HC3 := Lib.hid hc3; clear hc3
    go_wp2_with fail
    go_ret
    exact ⟨rfl, HC3.out, grown_trans (grown_trans (grown_alloc _ _ _) hg1) hg3⟩
set_option maxRecDepth 100000 in
set_option maxHeartbeats 1000000 in
/-- The payload that a taker takes. -/
theorem payload_any (h : Cur 174 w K g xs p e) (hp : p ≤ xs.length) (hK : K ≤ g) (hb : ∀ x ∈ xs, 0 ≤ x ∧ x < 256) (hl : xs.length ≤ 100000000000) :
    Calls Tryz.prog 145 #[.agg #[.pointer (some ⟨g, 0, none⟩)]] w fun r w' => ∃ A c, r = .returned (.slice A (tk [] p e (getT 4096 (xs.drop p))).1.length c) ∧ Row w' w'.heap.size (.slice A (tk [] p e (getT 4096 (xs.drop p))).1.length c) (tk [] p e (getT 4096 (xs.drop p))).1 ∧
      Cur 174 w' K g xs (tk [] p e (getT 4096 (xs.drop p))).2.1 (tk [] p e (getT 4096 (xs.drop p))).2.2 ∧ w.grownBy w' (some g) ∧ ∀ a, A = some a → w.heap.size ≤ a.block := by
  have hg := h.lt
  have HB := Lib.hid (text_any 4096 (by omega) (by omega) (h.boxed hK (.cells #[.pointer (some ⟨g, 0, none⟩)] 229)) hp hK hb)
  have hbt : (∀ x ∈ (tk [] p e (getT 4096 (xs.drop p))).1, 0 ≤ x ∧ x < 256) ∧ (tk [] p e (getT 4096 (xs.drop p))).1.length ≤ 100000000000 := by
    have hs := getT_size (most := 4096) (xs.drop p) (drop_bytes hb p)
    unfold tk
    split
    · simp
    · split
      · simp
      · exact ⟨hs.2.2, by show (getT 4096 (xs.drop p)).1.length ≤ _; have := hs.2.1; rw [List.length_drop] at this; omega⟩
  clear h hb
  generalize tk [] p e (getT 4096 (xs.drop p)) = t at HB hbt ⊢
  obtain ⟨s, q, er⟩ := t
  simp only at hbt ⊢
  obtain ⟨hbs, hls⟩ := hbt
  have HBS := Lib.hid hbs; clear hbs
  go_enter Tryz.func145, Tryz.ntmps145
  go_wp2_with fail
  refine HB.out.mono ?_
  rintro r w1 ⟨rfl, hc1, hg1⟩
  simp only [txtV]
  obtain ⟨A3, c3, w3, hcv3, hrow3, hb3, hn3⟩ := conv_new (P := Tryz.prog) w1 9 23 5 Tryz.underlying9 Tryz.underlying23 Tryz.underlying5 s HBS.out (by omega)
  have HR3 := Lib.hid hrow3
  have HN3 := Lib.hid (fun a e => Nat.le_trans (Nat.le_trans (by simp : w.heap.size ≤ (w.alloc (.cells #[.pointer (some ⟨g, 0, none⟩)] 229)).heap.size) hg1.size) (hn3 a e)); clear hn3
  have HC1 := Lib.hid hc1; clear hc1 hrow3
  go_wp2_with fail
  go_ret
  exact ⟨A3, c3, rfl, HR3.out, HC1.out.below hb3 hK, grown_trans (grown_trans (grown_alloc _ _ _) hg1) (grown_below hb3 _), HN3.out⟩
end
/-- Where the cells of an array of four bytes stand behind j takes. -/
def cells4 (zs : List Int) (p : Nat) (e : Int) (j : Nat) : Array Value :=
  #[.int .u8 (if 0 < j then four zs p e 0 else 0), .int .u8 (if 1 < j then four zs p e 1 else 0), .int .u8 (if 2 < j then four zs p e 2 else 0), .int .u8 (if 3 < j then four zs p e 3 else 0)]
theorem at4_le {zs : List Int} {p : Nat} {e : Int} (hp : p ≤ zs.length) : ∀ j, (at4 zs p e j).1 ≤ zs.length
  | 0 => hp
  | j + 1 => tk_at_le 0 (at4_le hp j) (by rw [List.length_drop])
set_option maxRecDepth 100000 in
set_option maxHeartbeats 1000000 in
/-- The sum that a taker takes. -/
theorem tsum_any {K g : Nat} {zs : List Int} {p : Nat} {e : Int} {w : World} (h : Cur 174 w K g zs p e) (hp : p ≤ zs.length) (hK : K ≤ g) (hb : ∀ x ∈ zs, 0 ≤ x ∧ x < 256)
    (A : Option Addr) (c : Nat) (body : List Int) (hrow : Row w K (.slice A body.length c) body) (hbb : ∀ x ∈ body, 0 ≤ x ∧ x < 256) :
    Calls Tryz.prog 146 #[.agg #[.pointer (some ⟨g, 0, none⟩)], .slice A body.length c] w fun r w' => r = .returned (.tuple #[]) ∧ Cur 174 w' K g zs (at4 zs p e 4).1 (errS zs p e body) ∧ w.grownBy w' (some g) := by
  have hg := h.lt
  have HC := Lib.hid h
  have HZB := Lib.hid hb
  have HBB := Lib.hid hbb
  have HROW := Lib.hid hrow
  clear h hb hbb hrow
  go_enter Tryz.func146, Tryz.ntmps146
  go_wp2_with fail
  go_loopw [6] (fun i wr => ∃ j : Nat, j ≤ 4 ∧ i = .int .i64 j ∧ Hid (Cur 174 wr K g zs (at4 zs p e j).1 (at4 zs p e j).2) ∧ Hid (Held wr w.heap.size 229 #[.pointer (some ⟨g, 0, none⟩)]) ∧ Hid (Held wr (w.heap.size + 1) 270 (cells4 zs p e j)) ∧ Hid (w.grownBy wr (some g))) (fun i _ => 4 - (intOf i).toNat)
  case atStart =>
    refine ⟨0, by omega, rfl, Lib.hid ?_, Lib.hid ?_, Lib.hid ?_, Lib.hid ?_⟩
    · exact (HC.out.boxed hK _).boxed hK _
    · exact Below.heap_alloc (w.alloc _) _ w.heap.size (by simp) |>.trans (heap_alloc_new w _)
    · have := heap_alloc_new (w.alloc (.cells #[.pointer (some ⟨g, 0, none⟩)] 229)) (.cells #[.int .u8 0, .int .u8 0, .int .u8 0, .int .u8 0] 270)
      rw [World.size_alloc] at this
      exact this
    · exact grown_trans (grown_alloc _ _ _) (grown_alloc _ _ _)
  case round =>
    obtain ⟨j, hj, rfl, HCR, HBX, HAR, HGR⟩ := hrel
    by_cases hlt : j < 4
    · have hbox := HBX.out.cell 0
      have hle := at4_le (zs := zs) (e := e) hp j
      have HBY := Lib.hid (byte_any HCR.out hle hK HZB.out)
      change Hid (Calls Tryz.prog _ _ _ (Took u8V _ K g zs (takeB zs (at4 zs p e j).1 (at4 zs p e j).2))) at HBY
      have hnext : at4 zs p e (j + 1) = (takeB zs (at4 zs p e j).1 (at4 zs p e j).2).2 := rfl
      have hf : four zs p e j = (takeB zs (at4 zs p e j).1 (at4 zs p e j).2).1 := rfl
      generalize takeB zs (at4 zs p e j).1 (at4 zs p e j).2 = t at HBY hnext hf
      obtain ⟨y, q2, e2⟩ := t
      simp only at hf
      have HNX := Lib.hid hnext
      have HF := Lib.hid hf
      clear hnext hf hle
      have j0 : (0 : Int) ≤ (j : Int) := by omega
      have j1 : (j : Int) < 4 := by omega
      go_wp2_with fail
      refine HBY.out.mono ?_
      rintro r w1 ⟨rfl, hc1, hg1⟩
      simp only [u8V]
      have har := HAR.out.grown hg1 (fun e => by injection e with e; omega)
      have hbx := HBX.out.grown hg1 (fun e => by injection e with e; omega)
      have hcell := har.cell j
      rw [show (cells4 zs p e j)[j]? = some ((cells4 zs p e j)[j]'(by simp [cells4]; omega)) from Array.getElem?_eq_getElem _] at hcell
      generalize (cells4 zs p e j)[j]'(by simp [cells4]; omega) = u0 at hcell
      have hfz := har.frozen j
      have hupd : (cells4 zs p e j).setIfInBounds j (.int .u8 y) = cells4 zs p e (j + 1) := by
        rw [← HF.out]
        rcases (by omega : j = 0 ∨ j = 1 ∨ j = 2 ∨ j = 3) with rfl | rfl | rfl | rfl <;> rfl
      have hput := har.put j (.int .u8 y)
      rw [hupd] at hput
      have HPUT := Lib.hid hput
      have HBX1 := Lib.hid hbx
      have HC1 := Lib.hid hc1
      have HG1 := Lib.hid (grown_trans HGR.out hg1)
      clear hput hbx hc1 hg1 har hupd
      go_wp2_with fail
      go_roundw
      case rel =>
        refine ⟨j + 1, by omega, by go_num, Lib.hid ?_, Lib.hid ?_, HPUT, Lib.hid ?_⟩
        · rw [HNX.out]
          exact HC1.out.grown (grown_put _ _ _ _) (by right; omega) hK
        · exact HBX1.out.grown (grown_put _ _ _ _) (fun e => by injection e with e; omega)
        · exact ⟨HG1.out.os, HG1.out.tape, HG1.out.output, by simpa using HG1.out.size, fun k hk hn => (Below.heap_setCell w1 ⟨w.heap.size + 1, j, none⟩ _ k (by simp only; omega)).trans (HG1.out.block k hk hn)⟩
      case measure => simp [intOf]; omega
    · obtain rfl : j = 4 := by omega
      have hrw : Row wr K (.slice A body.length c) body := HROW.out.keep (fun q hq => World.cell?_of_block (HGR.out.block q.block (by omega) (fun e => by injection e with e; omega)))
      have hs1 := fun W v h => sum_any v [body] W h (by intro l hl; simp at hl; subst hl; exact HBB.out)
      rw [show [body].flatten = body by simp] at hs1
      have hsl := sumX_lt HBB.out
      have HS1 := Lib.hid hs1
      have HF4 := Lib.hid (fun W => four_any (sumX body) hsl W)
      simp only [le4V] at HF4
      have hc0 := HAR.out.cell 0
      have hc1 := HAR.out.cell 1
      have hc2 := HAR.out.cell 2
      have hc3 := HAR.out.cell 3
      simp [cells4] at hc0 hc1 hc2 hc3
      have hlt2 := HBX.out.lt
      have hlt3 := HAR.out.lt
      have hgl := HGR.out.size
      have HRW := Lib.hid hrw
      clear hrw hs1
      have hne := fun W => run_neq_four W (four zs p e 0) (four zs p e 1) (four zs p e 2) (four zs p e 3) ((sumX body : Int) % 256) ((sumX body : Int) / 256 % 256) ((sumX body : Int) / 65536 % 256) ((sumX body : Int) / 16777216)
      by_cases hq : fourL zs p e = le4 (sumX body)
      · have hbq : (four zs p e 0 == (sumX body : Int) % 256 && (four zs p e 1 == (sumX body : Int) / 256 % 256 && (four zs p e 2 == (sumX body : Int) / 65536 % 256 && four zs p e 3 == (sumX body : Int) / 16777216))) = true := by
          simp only [fourL, le4, List.cons.injEq, and_true] at hq
          simp only [Bool.and_eq_true, beq_iff_eq]
          exact hq
        have hfin : errS zs p e body = (at4 zs p e 4).2 := by unfold errS; rw [if_pos hq]
        simp only [hbq, Bool.not_true] at hne
        have HFIN := Lib.hid hfin
        clear hfin hbq hq
        generalize four zs p e 0 = f0 at hc0 hne
        generalize four zs p e 1 = f1 at hc1 hne
        generalize four zs p e 2 = f2 at hc2 hne
        generalize four zs p e 3 = f3 at hc3 hne
        generalize sumX body = sb at hne HS1 HF4 hsl
        go_wp2_with fail
        go_region_held3 (fun W => W.cell? ⟨w.heap.size + 1, 0, none⟩ = some (.int .u8 f0) ∧ W.cell? ⟨w.heap.size + 1, 1, none⟩ = some (.int .u8 f1) ∧ W.cell? ⟨w.heap.size + 1, 2, none⟩ = some (.int .u8 f2) ∧ W.cell? ⟨w.heap.size + 1, 3, none⟩ = some (.int .u8 f3))
          (first | go_keep | exact ⟨(b6.cell (p := ⟨w.heap.size + 1, 0, none⟩) hlt3).trans hc0, (b6.cell (p := ⟨w.heap.size + 1, 1, none⟩) hlt3).trans hc1, (b6.cell (p := ⟨w.heap.size + 1, 2, none⟩) hlt3).trans hc2, (b6.cell (p := ⟨w.heap.size + 1, 3, none⟩) hlt3).trans hc3⟩)
          (first
            | (go_at_call 191; (with_reducible refine (HS1.out _ _ (Parts.one (by simp) (by simp [World.cell?_alloc_new]) ((HRW.out.below ((Below.refl _ _).alloc (by omega) _).drew).more (by simp; omega)))).mono ?_); rintro r w5 ⟨rfl, rfl⟩)
            | (go_at_call 190; (with_reducible refine (HF4.out _).mono ?_); rintro r w6 ⟨rfl, hb6⟩; have b6 : Below wr.heap.size wr w6 := ((Below.refl _ _).alloc (Nat.le_refl _) _).drew.trans (hb6.mono (by simp))))
        go_wp2_with fail
        go_end0
        exact ⟨rfl, by rw [HFIN.out]; exact HCR.out.below b6 hK, grown_trans HGR.out (grown_below b6 _)⟩
      · have hbq : (four zs p e 0 == (sumX body : Int) % 256 && (four zs p e 1 == (sumX body : Int) / 256 % 256 && (four zs p e 2 == (sumX body : Int) / 65536 % 256 && four zs p e 3 == (sumX body : Int) / 16777216))) = false := by
          rw [Bool.eq_false_iff]
          intro hh
          simp only [Bool.and_eq_true, beq_iff_eq] at hh
          exact hq (by simp only [fourL, le4, List.cons.injEq, and_true]; exact hh)
        have hfin : errS zs p e body = stopI (at4 zs p e 4).2 5 := by unfold errS; rw [if_neg hq]
        simp only [hbq, Bool.not_false] at hne
        have HFIN := Lib.hid hfin
        clear hfin hbq hq
        generalize four zs p e 0 = f0 at hc0 hne
        generalize four zs p e 1 = f1 at hc1 hne
        generalize four zs p e 2 = f2 at hc2 hne
        generalize four zs p e 3 = f3 at hc3 hne
        generalize sumX body = sb at hne HS1 HF4 hsl
        go_wp2_with fail
        go_region_held3 (fun W => W.cell? ⟨w.heap.size + 1, 0, none⟩ = some (.int .u8 f0) ∧ W.cell? ⟨w.heap.size + 1, 1, none⟩ = some (.int .u8 f1) ∧ W.cell? ⟨w.heap.size + 1, 2, none⟩ = some (.int .u8 f2) ∧ W.cell? ⟨w.heap.size + 1, 3, none⟩ = some (.int .u8 f3))
          (first | go_keep | exact ⟨(b6.cell (p := ⟨w.heap.size + 1, 0, none⟩) hlt3).trans hc0, (b6.cell (p := ⟨w.heap.size + 1, 1, none⟩) hlt3).trans hc1, (b6.cell (p := ⟨w.heap.size + 1, 2, none⟩) hlt3).trans hc2, (b6.cell (p := ⟨w.heap.size + 1, 3, none⟩) hlt3).trans hc3⟩)
          (first
            | (go_at_call 191; (with_reducible refine (HS1.out _ _ (Parts.one (by simp) (by simp [World.cell?_alloc_new]) ((HRW.out.below ((Below.refl _ _).alloc (by omega) _).drew).more (by simp; omega)))).mono ?_); rintro r w5 ⟨rfl, rfl⟩)
            | (go_at_call 190; (with_reducible refine (HF4.out _).mono ?_); rintro r w6 ⟨rfl, hb6⟩; have b6 : Below wr.heap.size wr w6 := ((Below.refl _ _).alloc (Nat.le_refl _) _).drew.trans (hb6.mono (by simp))))
        have hbox : w6.cell? ⟨w.heap.size, 0, none⟩ = some (.pointer (some ⟨g, 0, none⟩)) := (b6.cell (p := ⟨w.heap.size, 0, none⟩) hlt2).trans (HBX.out.cell 0)
        have HST := Lib.hid (stop_any 5 (HCR.out.below b6 hK))
        have HB6 := Lib.hid b6
        clear b6 hb6
        go_wp2_with fail
        refine HST.out.mono ?_
        rintro r w7 ⟨rfl, hc7, hg7⟩
        have HC7 := Lib.hid hc7; clear hc7
        go_wp2_with fail
        go_end0
        exact ⟨rfl, by rw [HFIN.out]; exact HC7.out, grown_trans HGR.out (grown_trans (grown_below HB6.out _) hg7)⟩
end Go.Proofs.YtimihhcidbeonaaGreat

namespace Go.Proofs.YtimihhcidbeonaaGreat
open Go.RowKit
section
variable {K g : Nat} {xs : List Int} {p : Nat} {e : Int} {w : World}
/-- At. -/
theorem at_any (h : Cur 174 w K g xs p e) :
    Calls Tryz.prog 147 #[.pointer (some ⟨g, 0, none⟩)] w fun r w' => r = .returned (.int .i64 p) ∧ w = w' := by
  obtain ⟨A, c, c0, c1, c2, f1, f2, hr, _, _⟩ := h.cells
  clear h hr
  go_enter Tryz.func147, Tryz.ntmps147
  go_wp2_with fail
  go_ret
  exact ⟨rfl, rfl⟩
end
end Go.Proofs.YtimihhcidbeonaaGreat
