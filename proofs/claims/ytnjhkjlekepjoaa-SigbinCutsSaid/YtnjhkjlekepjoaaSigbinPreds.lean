/-
  What sigbin's reader takes: as many predicates as the next number says.
-/
import Derived.Test.YtnjhkjlekepjoaaSigbinArgs
namespace Go.Proofs.Ytnjhkjlekepjoaa
open Go.RowKit

theorem OwnA.kept {w w' : World} {n m : Nat} {d : Pd} (h : OwnA w n d) (hg : w.grownBy w' (some m)) (hm : m < n) : OwnA w' n d := World.ownsRow.kept h hg (.inr (own_low h hm))
theorem OwnP.kept {w w' : World} {n m : Nat} {v : Value} {es : List Pd} (h : OwnP w n v es) (hg : w.grownBy w' (some m)) (hm : m < n) : OwnP w' n v es :=
  ⟨World.ownsRow.kept h.1 hg (.inr (own_low h.1 hm)), fun d hd => ⟨(h.2 d hd).1.kept hg hm, (h.2 d hd).2⟩⟩

set_option maxRecDepth 100000 in
set_option maxHeartbeats 2000000 in
theorem bpreds_any {K g n : Nat} {xs : List Int} {w : World} (h : Cur 92 w K g xs 0 0) (hK : K ≤ g) (hb : ∀ x ∈ xs, 0 ≤ x ∧ x < 256) (hl : xs.length ≤ 100000000000) (hnw : n ≤ w.heap.size) :
    Calls Try.prog 25 #[.agg #[.pointer (some ⟨g, 0, none⟩)]] w fun r w' => (∃ A c es, r = .returned (.slice A es.length c) ∧ OwnP w' n (.slice A es.length c) es ∧ es.map (·.p) = (predsC xs).1) ∧
      Cur 92 w' K g xs (predsC xs).2.1 (predsC xs).2.2 ∧ w.grownBy w' (some g) := by
  obtain ⟨i1, hi1, hy0, hy1, hy2⟩ := info_parts Try.infoPred
  have h1 := h.below ((Below.refl _ _).alloc (Nat.le_refl _) (.cells #[.pointer (some ⟨g, 0, none⟩)] 58)) hK
  have hnum := number_any 64 h1 (Nat.zero_le _) hK hb
  obtain ⟨⟨N, hN, hN8⟩, _, hq⟩ := tkN_range (e := 0) hb 64 (Nat.zero_le xs.length)
  have hN : (tk 0 0 0 (getN 64 (xs.drop 0))).1 = (N : Int) := hN
  have hq : (tk 0 0 0 (getN 64 (xs.drop 0))).2.1 ≤ xs.length := hq
  rw [List.drop_zero] at hnum hN hq
  have HNUM := Lib.hid hnum
  unfold predsC
  generalize tk 0 0 0 (getN 64 xs) = t at HNUM hN hq ⊢
  obtain ⟨Ni, q, e2⟩ := t
  simp only at hN hq ⊢
  subst hN
  rw [Int.toNat_natCast]
  have HBX0 := Lib.hid (show Held (w.alloc (.cells #[.pointer (some ⟨g, 0, none⟩)] 58)) w.heap.size 58 #[.pointer (some ⟨g, 0, none⟩)] from heap_alloc_new w _)
  have HLE := Lib.hid (fun j => stP_le (xs := xs) (e := e2) hb hq j)
  have HPL := Lib.hid (fun (p : Nat) (e : Int) (hp : p ≤ xs.length) => predC_le (e := e) hb hp)
  have HTL := Lib.hid (fun (p : Nat) (e : Int) (hp : p ≤ xs.length) => (tkT_le (e := e) hb 32 hp).2)
  have HBY0 := Lib.hid hb
  have HGL := Lib.hid h.lt
  clear h h1 hnum hb hq
  go_enter Try.func25, Try.ntmps25
  go_wp2_with fail
  refine HNUM.out.mono ?_
  rintro r w1 ⟨rfl, hc1, hg1⟩
  simp only [u64V]
  have HC1 := Lib.hid hc1
  have HBX1 := Lib.hid (HBX0.out.grown hg1 (fun e => by have := HGL.out; injection e with e; omega))
  have HG1 := Lib.hid (grown_trans (grown_alloc w (.cells #[.pointer (some ⟨g, 0, none⟩)] 58) (some g)) hg1)
  clear hc1 hg1
  go_wp2_with fail
  go_loopg [8, 3] N (fun gk i v wr => ∃ (j : Nat) (A : Option Addr) (c : Nat) (es : List Pd), j ≤ N ∧ i = .int .u64 j ∧ v = .slice A es.length c ∧ Hid (N - j = gk) ∧ Hid (Cur 92 wr K g xs (stP xs q e2 j).2.1 (stP xs q e2 j).2.2) ∧ Hid (Held wr w.heap.size 58 #[.pointer (some ⟨g, 0, none⟩)]) ∧ Hid (OwnP wr (w.heap.size + 1) (.slice A es.length c) es) ∧ Hid (es.map (·.p) = (stP xs q e2 j).1) ∧ Hid (w.grownBy wr (some g)))
  case atStart => exact ⟨0, none, 0, [], Nat.zero_le _, rfl, rfl, Lib.hid rfl, HC1, HBX1, Lib.hid (OwnP.nil _ _), Lib.hid rfl, HG1⟩
  case round =>
    obtain ⟨j, A, c, es, hj, rfl, rfl, HGK, HC, HBX, HOW, HES, HGR⟩ := hrel
    by_cases hlt : j < N
    · have hbox := HBX.out.cell 0
      simp at hbox
      obtain ⟨hle, hjl⟩ := HLE.out j
      have HEL := Lib.hid (show es.length = j by have := congrArg List.length HES.out; rw [hjl, List.length_map] at this; exact this)
      have hnext : stP xs q e2 (j + 1) = ((stP xs q e2 j).1 ++ [(predC xs (stP xs q e2 j).2.1 (stP xs q e2 j).2.2).1], (predC xs (stP xs q e2 j).2.1 (stP xs q e2 j).2.2).2) := rfl
      generalize (stP xs q e2 j).2.1 = p0 at HC hle hnext
      generalize (stP xs q e2 j).2.2 = e0 at HC hnext
      have hpc := HPL.out p0 e0 hle
      have htl := HTL.out p0 e0 hle
      have HTX := Lib.hid (text_any 32 (by omega) (by omega) HC.out hle hK HBY0.out)
      have HAR0 := Lib.hid (fun (W : World) (hc : Cur 92 W K g xs (tk [] p0 e0 (getT 32 (xs.drop p0))).2.1 (tk [] p0 e0 (getT 32 (xs.drop p0))).2.2) (hn : w.heap.size + 1 ≤ W.heap.size) => bargs_any (n := w.heap.size + 1) hc htl hK HBY0.out hn)
      unfold predC at hnext hpc
      generalize tk [] p0 e0 (getT 32 (xs.drop p0)) = t at HTX HAR0 hnext hpc
      obtain ⟨s, p1, e1⟩ := t
      simp only at HAR0 hnext hpc
      generalize argsC xs p1 e1 = u at HAR0 hnext hpc
      obtain ⟨ts, p2, e3⟩ := u
      simp only at HAR0 hnext hpc
      obtain ⟨_, hsl, htn, hsb, htb⟩ := hpc
      have HNX := Lib.hid hnext
      have HFT := Lib.hid (fun (A : Option Addr) (c : Nat) => show (⟨⟨s, ts⟩, A, c⟩ : Pd).Fits from ⟨by unfold maxLen; simp only; omega, hsb, fun x hx => by have := htb x hx; omega⟩)
      have hws := HBX.out.lt
      clear hnext hsb htb
      go_wp2_with fail
      refine HTX.out.mono ?_
      rintro r w2 ⟨rfl, hc2, hg2⟩
      simp only [txtV]
      have hbx2 := HBX.out.grown hg2 (fun e => by have := HGL.out; injection e with e; omega)
      have hs2 := hbx2.lt
      have hbox2 := hbx2.cell 0
      simp at hbox2
      have HC2 := Lib.hid (HAR0.out w2 hc2 (by omega))
      have HO2 := Lib.hid (HOW.out.kept hg2 (by have := HGL.out; omega))
      have HBX2 := Lib.hid hbx2
      have HG2 := Lib.hid (grown_trans HGR.out hg2)
      clear hc2 hg2 hbox hbx2
      go_wp2_with fail
      refine HC2.out.mono ?_
      rintro r w3 ⟨A2, c2, rfl, hoa, hc3, hg3⟩
      have hbx3 := HBX2.out.grown hg3 (fun e => by have := HGL.out; injection e with e; omega)
      have hs3 := hbx3.lt
      have HC3 := Lib.hid hc3
      have HO3 := Lib.hid (HO2.out.kept hg3 (by have := HGL.out; omega))
      have HA3 := Lib.hid (show OwnA w3 (w.heap.size + 1) ⟨⟨s, ts⟩, A2, c2⟩ from hoa)
      have HBX3 := Lib.hid hbx3
      have HG3 := Lib.hid (grown_trans HG2.out hg3)
      clear hc3 hg3 hoa hbox2 hbx3
      go_wp2_with (at_builtin; refine wpList_append_pred (by rfl) (.tmp 13) (.tmp 18) 22 (by rfl) i1 _ Try.underlying22 hi1 hy0 hy1 hy2 rfl (w.heap.size + 1) (.slice A es.length c) es (by rfl) (HO3.out.below ((Below.refl _ _).alloc (Nat.le_refl _) _)) ⟨w3.heap.size, 0, none⟩ 1 ⟨⟨s, ts⟩, A2, c2⟩ (by rfl) (by go_simp) (by go_simp) (HA3.out.below ((Below.refl _ _).alloc (Nat.le_refl _) _)) (HFT.out A2 c2) (by have := HEL.out; omega) (by simp; omega) ?_; intro v5 w5 hO5 hg5)
      have hlow : ∀ i, (Value.slice A es.length c).ownBlock = some i → w.heap.size + 1 ≤ i := fun i e => (World.ownsRow.lt HO3.out.1 i e).1
      have HC5 := Lib.hid ((HC3.out.below ((Below.refl _ _).alloc (Nat.le_refl _) (.cells #[.string (strOfNums s), .slice A2 ts.length c2] 45)) hK).past hg5 hlow (by have := HGL.out; omega) hK)
      have HBX5 := Lib.hid ((HBX3.out.below ((Below.refl _ _).alloc (Nat.le_refl _) (.cells #[.string (strOfNums s), .slice A2 ts.length c2] 45)) hs3).grown hg5 (fun e => by have := hlow _ e.symm; omega))
      have HG5 := Lib.hid (grown_past (grown_trans HG3.out (grown_alloc w3 (.cells #[.string (strOfNums s), .slice A2 ts.length c2] 45) (some g))) hg5 (fun i e => by have := hlow i e; omega))
      have HEV := Lib.hid (show (es ++ [(⟨⟨s, ts⟩, A2, c2⟩ : Pd)]).map (·.p) = (stP xs q e2 (j + 1)).1 by rw [HNX.out, List.map_append, HES.out]; rfl)
      obtain ⟨A5, c5, ev, _, _⟩ := hO5.form
      have HO5 := Lib.hid hO5
      subst ev
      clear hO5 hg5 hlow
      generalize es ++ [(⟨⟨s, ts⟩, A2, c2⟩ : Pd)] = es5 at HO5 HEV ⊢
      go_wp2_with fail
      go_roundg (N - (j + 1))
      case measure => have := HGK.out; omega
      case rel => exact ⟨j + 1, A5, c5, es5, by omega, by go_num, rfl, Lib.hid rfl, Lib.hid (by rw [HNX.out]; exact HC5.out), HBX5, HO5, HEV, HG5⟩
    · obtain rfl : j = N := by omega
      go_wp2_with fail
      go_ret
      exact ⟨⟨A, c, es, rfl, HOW.out.base (by omega), HES.out⟩, HC.out, HGR.out⟩
#print axioms bpreds_any
end Go.Proofs.Ytnjhkjlekepjoaa
