/-
  How many points each block has: cut's Sizes.
-/
import Derived.Test.YtlmpicfhbpnpbaaCutCheck
import Derived.Test.YtlmpicfhbpnpbaaCutTop
import Derived.Test.YtlmpicfhbpnpbaaDictMaps
namespace Go.Proofs.Ytlmpicfhbpnpbaa
open Go.RowKit Go.ChangeShapes Go.WideShapes
set_option linter.unusedVariables false

def szVs (l : List Nat) : List Value := l.map fun k => .int .i64 (k : Nat)
theorem szVs_length (l : List Nat) : (szVs l).length = l.length := List.length_map _
theorem szVs_at {l : List Nat} {i n : Nat} (h : l[i]? = some n) : (szVs l)[i]? = some (.int .i64 n) := by unfold szVs; rw [List.getElem?_map, h]; rfl
theorem szVs_snoc (l : List Nat) (n : Nat) : szVs l ++ [.int .i64 (n : Nat)] = szVs (l ++ [n]) := by unfold szVs; rw [List.map_append]; rfl
/-- Sizes' answer. -/
def sizesR (sig : List Pr) (l : List Pm) (most : Int) : List Nat × Int := if whyC sig l most = 0 then (sizesC sig l most, 0) else ([], whyC sig l most)
def SzGot (w : World) (r : List Nat × Int) (e : Ending) (W' : World) : Prop :=
  ∃ A c, e = .returned (.tuple #[.slice A r.1.length c, .int .i64 r.2]) ∧ W'.ownsRow w.heap.size 3 1 (.slice A r.1.length c) r.1.length (szVs r.1) ∧ Below w.heap.size w W'

/-- The two boxes, behind an append. -/
theorem sizes_step {N k base : Nat} {t1 t2 e : TypeId} {cs1 cs2 : Array Value} {w W X : World} {v : Value} {us : List Value} (h : Held W N t1 cs1 ∧ Held W (N + 1) t2 cs2 ∧ Below N w W) (ho : W.ownsRow base e 1 v k us) (hg : W.grownBy X v.ownBlock) (hb : N + 1 < base) :
    Held X N t1 cs1 ∧ Held X (N + 1) t2 cs2 ∧ Below N w X := by
  obtain ⟨q0, q1, q2⟩ := h
  have hn : ∀ j, j < base → some j ≠ v.ownBlock := fun j hj e => by have := (World.ownsRow.lt ho j e.symm).1; omega
  exact ⟨q0.grown hg (hn _ (by omega)), q1.grown hg (hn _ (by omega)), q2.grown hg (by have := q1.lt; omega) (fun j e => by have := (World.ownsRow.lt ho j e).1; omega)⟩

/-- What holds at the loop's head: the points that are left, and the sizes so far. -/
def SzRel (w : World) (N n : Nat) (A : Option Addr) (c : Nat) (ds : List Pd) (most : Int) (L : List Nat) (gk : Nat) (sv : Value) (wr : World) : Prop :=
  ∃ (qs : List Pm) (cr : Nat) (A2 : Option Addr) (ks : List Nat) (cc : Nat) (A1 : Option Addr), sv = .slice A1 ks.length cc ∧ qs.length ≤ cr ∧ cr ≤ 9223372036854775807 ∧ Hid (qs.length ≤ gk) ∧ Hid (ks.length + qs.length ≤ n) ∧ Hid (Held wr N 22 #[.slice A ds.length c] ∧ Held wr (N + 1) 23 #[.slice A2 qs.length cr] ∧ Below N w wr) ∧ Hid (wr.ownsRow (N + 1 + 1) 3 1 (.slice A1 ks.length cc) ks.length (szVs ks)) ∧ Hid (TrRow w N (.slice A2 qs.length cr) qs) ∧ Hid (COk (ds.map (·.p)) qs most) ∧ Hid (L = ks ++ sizesC (ds.map (·.p)) qs most)
theorem SzRel.next {w w3 : World} {N n c cr z c3 r4 c4 : Nat} {A A2 A3 A4 : Option Addr} {ds : List Pd} {most : Int} {L ks : List Nat} {qs : List Pm}
    (hst : Held w3 N 22 #[.slice A ds.length c] ∧ Held w3 (N + 1) 23 #[.slice A2 qs.length cr] ∧ Below N w w3) (hown : w3.ownsRow (N + 1 + 1) 3 1 (.slice A3 (ks.length + 1) c3) (ks.length + 1) (szVs (ks ++ [z])))
    (htq : TrRow w N (.slice A2 qs.length cr) qs) (hcq : COk (ds.map (·.p)) qs most) (hl : 0 < qs.length) (hkn : ks.length + qs.length ≤ n) (hlq : L = ks ++ sizesC (ds.map (·.p)) qs most) (hz : firstC (ds.map (·.p)) qs most = z)
    (h1 : r4 = qs.length - z) (h2 : c4 = cr - z) (hA : cr = z ∨ A4 = A2.map (fun x => x.add (z * 2))) :
    SzRel w N n A c ds most L (qs.length - z) (.slice A3 (ks.length + 1) c3) (w3.setCell ⟨N + 1, 0, none⟩ (.slice A4 r4 c4)) := by
  obtain ⟨q0, q1, q2⟩ := hst
  have hf := hcq.first hl
  rw [hz] at hf
  have hsz := hcq.sizes hl
  rw [hz] at hsz
  have hdl : (qs.drop z).length = r4 := by rw [List.length_drop]; omega
  obtain ⟨-, hc1, hc2⟩ := htq.1.len
  subst h1 h2
  have htd := htq.drop (k := z) (A' := A4) hf.2.1 hA
  refine ⟨qs.drop z, cr - z, A4, ks ++ [z], c3, A3, by rw [List.length_append]; rfl, by omega, by omega, Lib.hid (by omega), Lib.hid (by rw [List.length_append, hdl]; simp; omega), Lib.hid ⟨q0.other_put (by omega) _, ?_, q2.trans (below_put _ (by omega))⟩, Lib.hid ?_, Lib.hid (by rw [hdl]; exact htd), Lib.hid (hcq.drop z), Lib.hid (by rw [hlq, hsz, List.append_assoc]; rfl)⟩
  · rw [hdl]; simpa using q1.put 0 (.slice A4 (qs.length - z) (cr - z))
  · have h : (ks ++ [z]).length = ks.length + 1 := by simp
    rw [h]
    exact own_put1 hown (by omega)

section
variable (A : Option Addr) (c : Nat) (ds : List Pd) (T : Option Addr) (ct : Nat) (ps : List Pm) (most : Int) (w : World)
set_option maxRecDepth 100000 in
set_option maxHeartbeats 2000000 in
theorem csizes_any (hrow : PredRow w w.heap.size (.slice A ds.length c) ds) (ht : TrRow w w.heap.size (.slice T ps.length ct) ps) (hlen : ps.length ≤ 4398046510976) :
    Calls Try.prog 42 #[.slice A ds.length c, .slice T ps.length ct, .int .i64 most] w (SzGot w (sizesR (ds.map (·.p)) ps most)) := by
  obtain ⟨-, hc1, hc2⟩ := ht.1.len
  obtain ⟨N, hN⟩ : ∃ N, w.heap.size = N := ⟨_, rfl⟩
  obtain ⟨u0, hu0⟩ : ∃ u, w.alloc (.cells #[.slice A ds.length c] 22) = u := ⟨_, rfl⟩
  have s0 : u0.heap.size = N + 1 := by rw [← hu0, World.size_alloc, hN]
  have b0 : Below N w u0 := by rw [← hu0]; exact (Below.refl _ _).alloc (by omega) _
  have h0 : Held u0 N 22 #[.slice A ds.length c] := by rw [← hu0, ← hN]; exact heap_alloc_new w _
  obtain ⟨u1, hu1⟩ : ∃ u, u0.alloc (.cells #[.slice T ps.length ct] 23) = u := ⟨_, rfl⟩
  have s1 : u1.heap.size = N + 1 + 1 := by rw [← hu1, World.size_alloc, s0]
  have b1 : Below (N + 1) u0 u1 := by rw [← hu1]; exact (Below.refl _ _).alloc (by omega) _
  have h1 : Held u1 (N + 1) 23 #[.slice T ps.length ct] := by rw [← hu1, ← s0]; exact heap_alloc_new u0 _
  have k0 : Held u1 N 22 #[.slice A ds.length c] := h0.below b1 (by omega)
  have hbb : Below N w u1 := b0.trans (b1.mono (by omega))
  rw [hN] at hrow ht
  have HCK := Lib.hid (ccheck_any A c ds T ct ps most u1 ((hrow.below hbb).more (by omega)) ((ht.below hbb).more (by omega)))
  have HROW := Lib.hid hrow
  have HTR := Lib.hid ht
  have HS := Lib.hid (And.intro k0 (And.intro h1 hbb))
  have x0 := k0.cell 0
  have x1 := h1.cell 0
  simp at x0 x1
  unfold SzGot sizesR
  rw [hN]
  by_cases hw : whyC (ds.map (·.p)) ps most = 0
  · rw [if_pos hw]
    rw [hw] at HCK
    have HC := Lib.hid (cok_of hw ht.fits)
    obtain ⟨L, hL⟩ : ∃ L, sizesC (ds.map (·.p)) ps most = L := ⟨_, rfl⟩
    rw [hL]
    have HL := Lib.hid hL
    obtain ⟨n, hn⟩ : ∃ n, ps.length = n := ⟨_, rfl⟩
    have HN := Lib.hid hn
    rw [hn] at HCK HTR HS hc1 hlen x1 hu1 ⊢
    clear hrow ht b0 h0 b1 h1 k0 hbb hw hL hn
    go_enter Try.func42, Try.ntmps42
    go_wp2_with fail
    refine HCK.out.mono ?_
    rintro e w1 ⟨rfl, hb1⟩
    obtain ⟨k0, h1, hbb⟩ := HS.out
    have y0 := k0.below hb1 (by omega)
    have y1 := h1.below hb1 (by omega)
    have z1 := hb1.size
    have HB1 := Lib.hid (And.intro y0 (And.intro y1 (hbb.trans (hb1.mono (by omega)))))
    clear k0 h1 hbb y0 y1 hb1 x0 x1 hu0 hu1
    go_wp2_with fail
    obtain ⟨i0, hi, hy0, hy1, hy2⟩ := info_parts Try.infoIntB
    have CSTEP := @sizes_step
    go_loopg [9] n (fun gk sv wr => SzRel w N n A c ds most L gk sv wr)
    case atStart => exact ⟨ps, ct, T, [], 0, none, rfl, by rw [HN.out]; exact hc1, hc2, Lib.hid (by rw [HN.out]; exact Nat.le_refl _), Lib.hid (by rw [HN.out]; simp), Lib.hid (by rw [HN.out]; exact HB1.out), Lib.hid (World.ownsRow_nil _ _ _ _), Lib.hid (by rw [HN.out]; exact HTR.out), HC, Lib.hid (by rw [List.nil_append]; exact HL.out.symm)⟩
    case round =>
      obtain ⟨qs, cr, A2, ks, cc, A1, rfl, hq1, hq2, HGK, HKN, HST, HOW, HTQ, HCQ, HLQ⟩ := hrel
      obtain ⟨q0, q1, q2⟩ := HST.out
      have x1 := q1.cell 0
      simp at x1
      have zr := q1.lt
      by_cases hlt : 0 < qs.length
      · have hfi := HCQ.out.first hlt
        have hm1 := HCQ.out.most
        obtain ⟨M, hM⟩ : ∃ M, min (min most.toNat 1024) qs.length = M := ⟨_, rfl⟩
        have hg := cgreatest_any wr N (N + 1) M (fun j => fitB (ds.map (·.p)) (qs.take j)) (by omega) (by omega) (HCQ.out.one hlt)
          (fun a b h1 h2 h3 h4 => HCQ.out.ok.fewer h1 h2 (by omega) (by omega) h4)
          (fun W hW j h1 h2 => chold_any A c ds A2 cr qs W N (N + 1) j (q0.below hW q0.lt) (q1.below hW q1.lt) ((HROW.out.below (q2.trans (hW.mono (by omega)))).more (by have := hW.size; omega)) ((HTQ.out.below (q2.trans (hW.mono (by omega)))).more (by have := hW.size; omega)) (by omega))
        rw [← hM, show topP (fun j => fitB (ds.map (·.p)) (qs.take j)) (min (min most.toNat 1024) qs.length) = firstC (ds.map (·.p)) qs most from rfl, hM] at hg
        have HG := Lib.hid hg
        have hMi : (if (qs.length : Int) < (if (1024 : Int) < most then 1024 else most) then (qs.length : Int) else (if (1024 : Int) < most then 1024 else most)) = (M : Int) := by split <;> split <;> omega
        have HMM := Lib.hid hM
        clear hg q0 q1 q2 hM
        obtain ⟨z, hz⟩ : ∃ z, firstC (ds.map (·.p)) qs most = z := ⟨_, rfl⟩
        rw [hz] at HG hfi
        have HZ := Lib.hid hz
        have hzl := hfi.2.1
        have hz1 := hfi.1
        clear hz hfi
        have CNEXT := @SzRel.next w
        by_cases hcz : cr = z
        all_goals (
        go_wp2_with fail
        refine HG.out.mono ?_
        rintro e w2 ⟨rfl, hb2⟩
        have zz := hb2.size
        have HO := Lib.hid (own_below (own_below HOW.out hb2) ((Below.refl w2.heap.size w2).alloc (Nat.le_refl _) (.cells #[.int .i64 (z : Int)] 3)))
        have HER := Lib.hid (ERow.new w2 3 [.int .i64 (z : Int)] (n := 1) (by unfold maxLen; omega))
        have HST2 := Lib.hid (show Held (w2.alloc (.cells #[.int .i64 (z : Int)] 3)) N 22 #[.slice A ds.length c] ∧ Held (w2.alloc (.cells #[.int .i64 (z : Int)] 3)) (N + 1) 23 #[.slice A2 qs.length cr] ∧ Below N w (w2.alloc (.cells #[.int .i64 (z : Int)] 3)) from by
          obtain ⟨q0, q1, q2⟩ := HST.out
          have ba := (Below.refl w2.heap.size w2).alloc (Nat.le_refl _) (.cells #[.int .i64 (z : Int)] 3)
          exact ⟨(q0.below hb2 q0.lt).below ba (by have := q0.lt; omega), (q1.below hb2 q1.lt).below ba (by omega), (q2.trans (hb2.mono (by omega))).trans (ba.mono (by omega))⟩)
        clear hb2 x1
        go_wp2_with (at_builtin; refine wpList_append_erow _ rfl _ _ 57 3 rfl (N + 1 + 1) i0 (.int .i64 0) 1 8 Try.underlying57 hi hy0 hy1 hy2 rfl (by decide) (.slice A1 ks.length cc) ks.length (szVs ks) (by rfl) HO.out (w2.heap.size + 1) (.slice (some ⟨w2.heap.size, 0, none⟩) 1 1) 1 [.int .i64 (z : Int)] (by rfl) (by simpa using HER.out) rfl (by simp [Value.oneCell']) (by have := HKN.out; unfold maxLen; omega) (by have := HKN.out; omega) (by rw [World.size_alloc]; omega) (ks.length + 1) rfl (szVs (ks ++ [z])) (szVs_snoc _ _) ?_; intro A3 c3 w3 hown3 hg3 hat3; obtain ⟨HY0, HY1, HY2⟩ := CSTEP HST2.out HO.out hg3 (by omega); have x3 := HY1.cell 0; have x4 := HY1.frozen 0; simp at x3; have zl3 := HY1.lt; have HSY := Lib.hid (And.intro HY0 (And.intro HY1 HY2)); have HO3 := Lib.hid hown3; clear hown3 hg3 hat3 HY0 HY1 HY2))
        · go_roundg (qs.length - z)
          case measure => have := HGK.out; omega
          case rel => exact CNEXT HSY.out HO3.out HTQ.out HCQ.out hlt HKN.out HLQ.out HZ.out rfl (by omega) (Or.inl hcz)
        · go_roundg (qs.length - z)
          case measure => have := HGK.out; omega
          case rel => exact CNEXT HSY.out HO3.out HTQ.out HCQ.out hlt HKN.out HLQ.out HZ.out rfl rfl (Or.inr rfl)
      · have h0 : qs = [] := List.eq_nil_of_length_eq_zero (by omega)
        have hl : L = ks := by rw [HLQ.out, h0, sizesC_nil, List.append_nil]
        have HL2 := Lib.hid hl
        have HBX := Lib.hid q2
        subst h0
        clear hl q0 q1 q2 HST
        go_wp2_with fail
        go_ret2
        have hl := HL2.out
        subst hl
        exact ⟨A1, cc, rfl, own_base HOW.out (by omega), HBX.out⟩
  · rw [if_neg hw]
    have hne : (whyC (ds.map (·.p)) ps most != 0) = true := bne_iff_ne.2 hw
    generalize whyC (ds.map (·.p)) ps most = C at HCK hne ⊢
    clear hrow ht b0 h0 b1 h1 k0 hbb hw
    go_enter Try.func42, Try.ntmps42
    go_wp2_with fail
    refine HCK.out.mono ?_
    rintro e w1 ⟨rfl, hb1⟩
    obtain ⟨k0, h1, hbb⟩ := HS.out
    have HB1 := Lib.hid (hbb.trans (hb1.mono (by omega)))
    clear k0 h1 hbb hb1 x0 x1 hu0 hu1
    go_wp2_with fail
    go_ret2
    exact ⟨none, 0, rfl, World.ownsRow_nil _ _ _ _, HB1.out⟩
#print axioms csizes_any
end
end Go.Proofs.Ytlmpicfhbpnpbaa
