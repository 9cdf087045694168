/-
  A trace in blocks: cut's Blocks.
-/
import Derived.Test.YtlmpicfhbpnpbaaCutSizes
import Derived.Test.YtlmpicfhbpnpbaaPlainCuts
import Derived.Test.YtlmpicfhbpnpbaaTraceClone
import Derived.Lib.MinMax
namespace Go.Proofs.Ytlmpicfhbpnpbaa
open Go.RowKit Go.ChangeShapes Go.WideShapes
set_option linter.unusedVariables false

theorem Try.infoPoints : (Try.prog.info? 23).map (fun i => (i.zero, i.size, i.bytes)) = some (some (.slice none 0 0), 1, 24) := by kernel_rfl

section
variable {P : Program} {w : World} {ops : Array Oper} {o : Oper} {a : Act} {Q : Exit → Act → World → Prop} {K : Act → World → Prop} {E : Prop}
/-- The lesser of two, as a step of a drawn region. -/
theorem step_min (hgd : o.guard = none) (s x : Operand) (t : TypeId) (ho : o.op = .call { callee := .builtin .min, args := #[s, x], argTypes := #[t, t] }) (k : IntKind) (n m z : Int) (hs : a.eval s = .int k n) (hx : a.eval x = .int k m) (hz : min n m = z)
    (h : K (a.put o.dst (.int k z)) w) : if Region.wanted o (yielded ops a.tmps) = true then Oper.wp P o a w K Q else E := by
  have hw : Region.wanted o (yielded ops a.tmps) = true := by simp [Region.wanted, hgd]
  rw [if_pos hw]
  unfold Oper.wp execOp
  simp only [ho, resolve, invoke, builtin, Sem.run_bind, Sem.run_pure, Result.andThen_ok, List.map_toArray, List.map_cons, List.map_nil, hs, hx, Lib.run_min_ints, hz]
  exact h
end
/-- A block: where its points lie, and what they are. -/
structure Bk where
  A : Option Addr
  c : Nat
  ps : List Pm
abbrev Bk.val (b : Bk) : Value := .slice b.A b.ps.length b.c
def bkVs (l : List Bk) : List Value := l.map (·.val)
theorem bkVs_at {l : List Bk} {i : Nat} {b : Bk} (h : l[i]? = some b) : (bkVs l)[i]? = some b.val := by unfold bkVs; rw [List.getElem?_map, h]; rfl
theorem bkVs_snoc (l : List Bk) (b : Bk) : bkVs l ++ [b.val] = bkVs (l ++ [b]) := by unfold bkVs; rw [List.map_append]; rfl
/-- Blocks of the call's own. -/
def OwnK (w : World) (n : Nat) (v : Value) (bs : List Bk) : Prop := w.ownsRow n 23 1 v bs.length (bkVs bs) ∧ ∀ b ∈ bs, OwnT w n b.val b.ps
theorem OwnK.nil (w : World) (n : Nat) : OwnK w n (.slice none 0 0) [] := ⟨World.ownsRow_nil _ _ _ _, by simp⟩
section
variable {w w' : World} {n m : Nat} {v u : Value}
theorem OwnT.grown {ps : List Pm} {f : TypeId} {j t : Nat} {vs : List Value} (h : OwnT w n u ps) (h2 : w.ownsRow m f t v j vs) (hf : 61 ≠ f) (hf2 : 42 ≠ f) (hf3 : 39 ≠ f) (hg : w.grownBy w' v.ownBlock) : OwnT w' n u ps :=
  ⟨World.ownsRow.kept h.1 hg (own_unlike h.1 h2 hf3), fun d hd => ⟨(h.2 d hd).1.grown h2 hf hf2 hg, (h.2 d hd).2⟩⟩
theorem OwnT.base {ps : List Pm} (h : OwnT w n v ps) (hm : m ≤ n) : OwnT w m v ps := ⟨own_base h.1 hm, fun d hd => ⟨(h.2 d hd).1.base hm, (h.2 d hd).2⟩⟩
theorem OwnK.below {bs : List Bk} (h : OwnK w n v bs) (hb : Below w.heap.size w w') : OwnK w' n v bs := ⟨own_below h.1 hb, fun b hd => (h.2 b hd).below hb⟩
/-- One more block. -/
theorem OwnK.more {bs : List Bk} {b : Bk} {A : Option Addr} {c : Nat} (h : OwnK w n v bs) (hb : OwnT w n b.val b.ps) (ho : w'.ownsRow n 23 1 (.slice A (bs.length + 1) c) (bs.length + 1) (bkVs (bs ++ [b]))) (hg : w.grownBy w' v.ownBlock) :
    OwnK w' n (.slice A (bs ++ [b]).length c) (bs ++ [b]) := by
  have e1 : 61 ≠ 23 := by decide
  have e2 : 42 ≠ 23 := by decide
  have e3 : 39 ≠ 23 := by decide
  refine ⟨by rw [List.length_append]; exact ho, fun x hx => ?_⟩
  rcases List.mem_append.1 hx with hx | hx
  · exact (h.2 x hx).grown h.1 e1 e2 e3 hg
  · obtain rfl := List.mem_singleton.1 hx
    exact hb.grown h.1 e1 e2 e3 hg
end
theorem TrFit.take {l : List Pm} (h : TrFit l) (k : Nat) : TrFit (l.take k) := ⟨by rw [List.length_take]; have := h.1; omega, fun d hd => h.2 d (List.mem_of_mem_take hd)⟩
theorem TrFit.drop {l : List Pm} (h : TrFit l) (k : Nat) : TrFit (l.drop k) := ⟨by rw [List.length_drop]; have := h.1; omega, fun d hd => h.2 d (List.mem_of_mem_drop hd)⟩

/-- Blocks' answer. -/
def blocksR (sig : List Pr) (l : List Pm) (most : Int) : List (List Pm) × Int := if whyC sig l most = 0 then (cutsOf (sizesC sig l most) l, 0) else ([], whyC sig l most)
def BkGot (w : World) (r : List (List Pm) × Int) (e : Ending) (W' : World) : Prop :=
  ∃ A c bs, e = .returned (.tuple #[.slice A bs.length c, .int .i64 r.2]) ∧ OwnK W' w.heap.size (.slice A bs.length c) bs ∧ bs.map (fun b => b.ps.map (·.p)) = r.1.map (List.map (·.p)) ∧ Below w.heap.size w W'

/-- What holds at the loop's head. -/
def BkRel (w : World) (N n m : Nat) (sig : List Pr) (most : Int) (As : Option Addr) (cs : Nat) (ks : List Nat) (R : List (List Pn)) (gk : Nat) (tv bv iv : Value) (wr : World) : Prop :=
  ∃ (qs : List Pm) (cr : Nat) (A2 : Option Addr) (bs : List Bk) (cc : Nat) (A1 : Option Addr) (k : Nat) (ms : List Nat), tv = .slice A2 qs.length cr ∧ bv = .slice A1 bs.length cc ∧ iv = .int .i64 k ∧ qs.length ≤ cr ∧ cr ≤ 9223372036854775807 ∧ k ≤ m ∧ Hid (m - k ≤ gk) ∧
    Hid (bs.length + qs.length ≤ n) ∧ Hid (ks.drop k = ms) ∧ Hid (CutC sig most qs ms) ∧ Hid (TrRow w N (.slice A2 qs.length cr) qs) ∧ Hid (TrFit qs) ∧ Hid (wr.ownsRow N 3 1 (.slice As m cs) m (szVs ks)) ∧ Hid (OwnK wr N (.slice A1 bs.length cc) bs) ∧
    Hid (bs.map (fun b => b.ps.map (·.p)) ++ (cutsOf ms qs).map (List.map (·.p)) = R) ∧ Hid (Below N w wr)
theorem BkRel.next {w w4 w5 : World} {N n m cr cs c5 k z cc r4 c4 : Nat} {sig : List Pr} {most : Int} {As A1 A2 A4 A5 : Option Addr} {ks ms : List Nat} {R : List (List Pn)} {qs : List Pm} {bs : List Bk} {b : Bk}
    (hq : qs.length ≤ cr) (hcr : cr ≤ 9223372036854775807) (hk : k < m) (hbn : bs.length + qs.length ≤ n) (hms : ks.drop k = z :: ms) (hz1 : 1 ≤ z) (hzl : z ≤ qs.length) (hct : CutC sig most (qs.drop z) ms)
    (htq : TrRow w N (.slice A2 qs.length cr) qs) (hft : TrFit qs) (hks : w4.ownsRow N 3 1 (.slice As m cs) m (szVs ks)) (hok : OwnK w4 N (.slice A1 bs.length cc) bs) (hob : OwnT w4 N b.val b.ps) (hbp : b.ps.map (·.p) = (qs.take z).map (·.p))
    (ho : w5.ownsRow N 23 1 (.slice A5 (bs.length + 1) c5) (bs.length + 1) (bkVs (bs ++ [b]))) (hg : w4.grownBy w5 (Value.slice A1 bs.length cc).ownBlock)
    (hr : bs.map (fun b => b.ps.map (·.p)) ++ (cutsOf (z :: ms) qs).map (List.map (·.p)) = R) (hb : Below N w w4) (hN : N ≤ w4.heap.size) (h1 : r4 = qs.length - z) (h2 : c4 = cr - z) (hA : cr = z ∨ A4 = A2.map (fun x => x.add (z * 2))) :
    BkRel w N n m sig most As cs ks R (m - (k + 1)) (.slice A4 r4 c4) (.slice A5 (bs.length + 1) c5) (.int .i64 ((k : Int) + 1)) w5 := by
  have hdl : (qs.drop z).length = r4 := by rw [List.length_drop]; omega
  have htd := htq.drop (k := z) (A' := A4) hzl hA
  have e1 : 3 ≠ 23 := by decide
  have hms2 : ks.drop (k + 1) = ms := by
    have : (ks.drop k).drop 1 = ms := by rw [hms]; rfl
    rwa [List.drop_drop] at this
  have hOK := hok.more hob ho hg
  subst h1 h2
  refine ⟨qs.drop z, cr - z, A4, bs ++ [b], c5, A5, k + 1, ms, by rw [hdl], by rw [List.length_append]; rfl, by go_num, by omega, by omega, by omega, Lib.hid (Nat.le_refl _), Lib.hid (by rw [List.length_append, hdl]; simp; omega), Lib.hid hms2, Lib.hid hct, Lib.hid (by rw [hdl]; exact htd), Lib.hid (hft.drop z),
    Lib.hid (World.ownsRow.kept hks hg (own_unlike hks hok.1 e1)), Lib.hid hOK, Lib.hid ?_, Lib.hid (hb.grown hg hN (fun j e => (World.ownsRow.lt hok.1 j e).1))⟩
  rw [← hr, cutsOf, List.map_cons, List.map_append, List.append_assoc, List.map_cons, List.map_nil, hbp]
  rfl
#print axioms BkRel.next

section
variable (A : Option Addr) (c : Nat) (ds : List Pd) (T : Option Addr) (ct : Nat) (ps : List Pm) (most : Int) (w : World)
set_option maxRecDepth 100000 in
set_option maxHeartbeats 2000000 in
theorem cblocks_any (hrow : PredRow w w.heap.size (.slice A ds.length c) ds) (ht : TrRow w w.heap.size (.slice T ps.length ct) ps) (hft : TrFit ps) :
    Calls Try.prog 23 #[.slice A ds.length c, .slice T ps.length ct, .int .i64 most] w (BkGot w (blocksR (ds.map (·.p)) ps most)) := by
  obtain ⟨-, hc1, hc2⟩ := ht.1.len
  have HSZ := csizes_any A c ds T ct ps most w hrow ht hft.1
  unfold sizesR at HSZ
  unfold BkGot blocksR
  by_cases hw : whyC (ds.map (·.p)) ps most = 0
  · rw [if_pos hw] at HSZ ⊢
    have hcut := COk.cut _ (cok_of hw ht.fits) rfl
    have hmn := COk.length (cok_of hw ht.fits) _ rfl
    obtain ⟨N, hN⟩ : ∃ N, w.heap.size = N := ⟨_, rfl⟩
    obtain ⟨ks, hks⟩ : ∃ ks, sizesC (ds.map (·.p)) ps most = ks := ⟨_, rfl⟩
    rw [hks] at HSZ hcut hmn ⊢
    obtain ⟨m, hm⟩ : ∃ m, ks.length = m := ⟨_, rfl⟩
    have HSZ2 : Calls Try.prog 42 #[.slice A ds.length c, .slice T ps.length ct, .int .i64 most] w fun e W' => ∃ As cs, e = .returned (.tuple #[.slice As m cs, .int .i64 0]) ∧ W'.ownsRow N 3 1 (.slice As m cs) m (szVs ks) ∧ Below N w W' := by rw [← hm, ← hN]; exact HSZ
    have HSZ := Lib.hid HSZ2
    obtain ⟨R, hR⟩ : ∃ R, (cutsOf ks ps).map (List.map (·.p)) = R := ⟨_, rfl⟩
    have hRR : ((cutsOf ks ps, (0 : Int)).1).map (List.map (·.p)) = R := hR
    rw [hN] at ht ⊢
    rw [hRR]
    obtain ⟨i1, hi1, hy0, hy1, hy2⟩ := info_parts Try.infoPoints
    have HTR := Lib.hid ht
    have HCUT := Lib.hid hcut
    have HFT := Lib.hid hft
    have HR := Lib.hid hR
    have HM := Lib.hid hm
    have hpl := hft.1
    have hwN : N ≤ w.heap.size := by omega
    obtain ⟨n, hn⟩ : ∃ n, ps.length = n := ⟨_, rfl⟩
    rw [hn] at HSZ HTR hc1 hpl ⊢
    rw [hm, hn] at hmn
    have HN := Lib.hid hn
    clear hrow ht hft hcut hw hks HSZ2 hR hRR hm hn hN
    go_enter Try.func23, Try.ntmps23
    go_wp2_with fail
    refine HSZ.out.mono ?_
    rintro e w1 ⟨As, cs, rfl, hown, hb1⟩
    have HOWN := Lib.hid hown
    have HB1 := Lib.hid hb1
    clear hown hb1
    go_wp2_with fail
    have BNEXT := @BkRel.next w
    go_loopg [1, 10, 25] m (fun gk tv bv iv wr => BkRel w N n m (ds.map (·.p)) most As cs ks R gk tv bv iv wr)
    case atStart => exact ⟨ps, ct, T, [], 0, none, 0, ks, by rw [HN.out], rfl, rfl, by rw [HN.out]; exact hc1, hc2, Nat.zero_le _, Lib.hid (Nat.le_refl _), Lib.hid (by rw [HN.out]; simp), Lib.hid rfl, HCUT, Lib.hid (by rw [HN.out]; exact HTR.out), HFT, HOWN, Lib.hid (OwnK.nil _ _), Lib.hid (by rw [List.map_nil, List.nil_append]; exact HR.out), HB1⟩
    case round =>
      obtain ⟨qs, cr, A2, bs, cc, A1, k, ms, rfl, rfl, rfl, hq, hcr, hkm, HGK, HBN, HMS, HCT, HTQ, HFQ, HKS, HOK, HRR, HB⟩ := hrel
      by_cases hlt : k < m
      · obtain ⟨z, hz⟩ : ∃ z, ks[k]? = some z := ⟨_, List.getElem?_eq_getElem (by rw [HM.out]; exact hlt)⟩
        obtain ⟨ms2, hms2⟩ : ∃ ms2, ms = z :: ms2 := ⟨ks.drop (k + 1), by
          rw [← HMS.out, List.drop_eq_getElem_cons (by rw [HM.out]; exact hlt)]
          rw [List.getElem?_eq_getElem (by rw [HM.out]; exact hlt)] at hz
          injection hz with hz
          rw [hz]⟩
        subst hms2
        obtain ⟨hcq, hl0, hfz, hct2⟩ := HCT.out.inv
        have hf := hcq.first hl0
        rw [hfz] at hf
        have hz1 := hf.1
        have hzl := hf.2.1
        have hzc : z ≤ cr := Nat.le_trans hzl hq
        have HCT2 := Lib.hid hct2
        obtain ⟨b, o, rfl, hb, hcell⟩ := (ERow.of_own HKS.out).block (by omega)
        have x0 := hcell k _ (szVs_at hz)
        have htl : (qs.take z).length = z := by rw [List.length_take]; omega
        have hnw : N ≤ wr.heap.size := Nat.le_trans hwN HB.out.size
        have hcl := tclone_any A2 cr (qs.take z) wr (((HTQ.out.take hzl).below HB.out).more hnw) (HFQ.out.take z)
        rw [htl] at hcl
        have HCL := Lib.hid hcl
        clear hcq hl0 hfz hct2 hf hcell hz htl hcl
        rcases (show z = cr ∨ ¬ cr = z by omega) with rfl | hcz
        all_goals (
        go_wp2_with fail
        refine HCL.out.mono ?_
        rintro e w2 ⟨A5, c5, es, rfl, hOT, hep, hb2⟩
        have zz := hb2.size
        have ba := (Below.refl w2.heap.size w2).alloc (Nat.le_refl _) (.cells #[.slice A5 es.length c5] 23)
        have HO := Lib.hid ((HOK.out.below hb2).below ba)
        have HKS2 := Lib.hid (own_below (own_below HKS.out hb2) ba)
        have HOT := Lib.hid ((hOT.base hnw).below ba)
        have HB2 := Lib.hid ((HB.out.trans (hb2.mono hnw)).trans (ba.mono (by omega)))
        have HEP := Lib.hid hep
        have HER := Lib.hid (ERow.new w2 23 [.slice A5 es.length c5] (n := 1) (by unfold maxLen; omega))
        clear hOT hep hb2 ba x0
        go_wp2_with (at_builtin; refine wpList_append_erow _ rfl _ _ 53 23 rfl N i1 (.slice none 0 0) 1 24 Try.underlying53 hi1 hy0 hy1 hy2 rfl (by decide) (.slice A1 bs.length cc) bs.length (bkVs bs) (by rfl) HO.out.1 (w2.heap.size + 1) (.slice (some ⟨w2.heap.size, 0, none⟩) 1 1) 1 [.slice A5 es.length c5] (by rfl) (by simpa using HER.out) rfl (by simp [Value.oneCell']) (by have := HBN.out; unfold maxLen; omega) (by have := HBN.out; omega) (by rw [World.size_alloc]; omega) (bs.length + 1) rfl (bkVs (bs ++ [⟨A5, c5, es⟩])) (bkVs_snoc bs ⟨A5, c5, es⟩) ?_; intro A6 c6 w6 hown6 hg6 hat6; have HO6 := Lib.hid hown6; have HG6 := Lib.hid hg6; clear hown6 hg6 hat6))
        · go_roundg (m - (k + 1))
          case measure => have := HGK.out; omega
          case rel => exact BNEXT (b := ⟨A5, c5, es⟩) hq hcr hlt HBN.out HMS.out hz1 hzl HCT2.out HTQ.out HFQ.out HKS2.out HO.out HOT.out HEP.out HO6.out HG6.out HRR.out HB2.out (by rw [World.size_alloc]; omega) (by omega) (by omega) (Or.inl rfl)
        · go_roundg (m - (k + 1))
          case measure => have := HGK.out; omega
          case rel => exact BNEXT (b := ⟨A5, c5, es⟩) hq hcr hlt HBN.out HMS.out hz1 hzl HCT2.out HTQ.out HFQ.out HKS2.out HO.out HOT.out HEP.out HO6.out HG6.out HRR.out HB2.out (by rw [World.size_alloc]; omega) rfl rfl (Or.inr rfl)
      · have hkm2 : m = k := by omega
        subst hkm2
        have h0 : ms = [] := by rw [← HMS.out, List.drop_of_length_le (by rw [HM.out]; exact Nat.le_refl _)]
        have hrr : bs.map (fun b => b.ps.map (·.p)) = R := by
          have := HRR.out
          rw [h0, cutsOf, List.map_nil, List.append_nil] at this
          exact this
        have HRF := Lib.hid hrr
        clear hrr h0
        go_wp2_with fail
        go_ret2
        exact ⟨A1, cc, bs, rfl, HOK.out, HRF.out, HB.out⟩
  · rw [if_neg hw] at HSZ ⊢
    have hne : (whyC (ds.map (·.p)) ps most != 0) = true := bne_iff_ne.2 hw
    generalize whyC (ds.map (·.p)) ps most = C at HSZ hne ⊢
    have HSZ2 : Calls Try.prog 42 #[.slice A ds.length c, .slice T ps.length ct, .int .i64 most] w fun e W' => ∃ As cs, e = .returned (.tuple #[.slice As 0 cs, .int .i64 C]) ∧ W'.ownsRow w.heap.size 3 1 (.slice As 0 cs) 0 [] ∧ Below w.heap.size w W' := HSZ
    have HSZ := Lib.hid HSZ2
    clear hrow ht hw HSZ2
    go_enter Try.func23, Try.ntmps23
    go_wp2_with fail
    refine HSZ.out.mono ?_
    rintro e w1 ⟨As, cs, rfl, hown, hb1⟩
    clear hown
    go_wp2_with fail
    go_ret2
    exact ⟨none, 0, [], rfl, OwnK.nil _ _, rfl, hb1⟩
#print axioms cblocks_any
end
end Go.Proofs.Ytlmpicfhbpnpbaa
