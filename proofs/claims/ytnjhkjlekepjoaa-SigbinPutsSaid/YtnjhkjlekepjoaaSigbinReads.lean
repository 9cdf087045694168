/-
  What sigbin's reader takes of a payload: arguments, predicates; what Get answers.
-/
import Derived.Test.YtnjhkjlekepjoaaCurTookN
import Derived.Test.YtnjhkjlekepjoaaCurDone
import Derived.Test.YtnjhkjlekepjoaaPredRows
import Derived.Test.YtnjhkjlekepjoaaPlainSigs
import Derived.Deep.LoopGhost
import Derived.Test.YtnjhkjlekepjoaaSigCode
import Derived.Deep.RegionHeld3
namespace Go.Proofs.Ytnjhkjlekepjoaa
open Go.RowKit

section
variable {a b c w w' : World} {g n K : Nat} {row : Option Nat} {T : TypeId} {xs : List Int} {p : Nat} {e : Int}
/-- A cursor is kept by what turns a row from n on alone. -/
theorem Cur.past (h : Cur T w K g xs p e) (hg : w.grownBy w' row) (hrow : ∀ j, row = some j → n ≤ j) (hgn : g < n) (hKg : K ≤ g) : Cur T w' K g xs p e :=
  h.keep (fun k h1 h2 => hg.block k (by have := h.lt; omega) (fun e => by have := hrow k e.symm; omega)) hKg
theorem grown_past (h : a.grownBy b (some g)) (k : b.grownBy c row) (hn : ∀ j, row = some j → a.heap.size ≤ j) : a.grownBy c (some g) :=
  ⟨k.os.trans h.os, k.tape.trans h.tape, k.output.trans h.output, Nat.le_trans h.size k.size, fun i hi hne => (k.block i (Nat.lt_of_lt_of_le hi h.size) (fun e => by have := hn i e.symm; omega)).trans (h.block i hi hne)⟩
end

set_option maxRecDepth 100000 in
set_option maxHeartbeats 2000000 in
theorem bargs_any {K g n : Nat} {xs : List Int} {p : Nat} {e : Int} {w : World} (h : Cur 92 w K g xs p e) (hp : p ≤ xs.length) (hK : K ≤ g) (hb : ∀ x ∈ xs, 0 ≤ x ∧ x < 256) (hnw : n ≤ w.heap.size) :
    Calls Try.prog 53 #[.agg #[.pointer (some ⟨g, 0, none⟩)]] w fun r w' => ∃ A c, r = .returned (.slice A (argsC xs p e).1.length c) ∧ w'.ownsRow n 3 1 (.slice A (argsC xs p e).1.length c) (argsC xs p e).1.length ((argsC xs p e).1.map (.int .i64)) ∧
      Cur 92 w' K g xs (argsC xs p e).2.1 (argsC xs p e).2.2 ∧ w.grownBy w' (some g) := by
  obtain ⟨i0, hi, hz0, hz1, hz2⟩ := info_parts Try.infoIntB
  have h1 := h.below ((Below.refl _ _).alloc (Nat.le_refl _) (.cells #[.pointer (some ⟨g, 0, none⟩)] 58)) hK
  have HNUM := Lib.hid (number_any 8 h1 hp hK hb)
  obtain ⟨⟨N, hN, hN8⟩, _, hq⟩ := tkN_range (e := e) hb 8 hp
  have hN : (tk 0 p e (getN 8 (xs.drop p))).1 = (N : Int) := hN
  have hq : (tk 0 p e (getN 8 (xs.drop p))).2.1 ≤ xs.length := hq
  unfold argsC
  generalize tk 0 p e (getN 8 (xs.drop p)) = t at HNUM hN hq ⊢
  obtain ⟨Ni, q, e2⟩ := t
  simp only at hN hq ⊢
  subst hN
  rw [Int.toNat_natCast]
  have HBX0 := Lib.hid (show Held (w.alloc (.cells #[.pointer (some ⟨g, 0, none⟩)] 58)) w.heap.size 58 #[.pointer (some ⟨g, 0, none⟩)] from heap_alloc_new w _)
  have HLE := Lib.hid (fun j => stB_le (xs := xs) (e := e2) hq j)
  have HL := Lib.hid (stB_length (xs := xs) (p := q) (e := e2) N)
  have HBY0 := Lib.hid hb
  have HGL := Lib.hid h.lt
  clear h h1 hb hp hq
  go_enter Try.func53, Try.ntmps53
  go_wp2_with fail
  refine HNUM.out.mono ?_
  rintro r w1 ⟨rfl, hc1, hg1⟩
  simp only [u64V]
  have HC1 := Lib.hid hc1
  have HBX1 := Lib.hid (HBX0.out.grown hg1 (fun e => by have := HGL.out; injection e with e; omega))
  have HG1 := Lib.hid (grown_trans (grown_alloc w (.cells #[.pointer (some ⟨g, 0, none⟩)] 58) (some g)) hg1)
  clear hc1 hg1
  go_wp2_with fail
  go_loopg [7, 3] N (fun gk i v wr => ∃ (j : Nat) (A : Option Addr) (c : Nat), j ≤ N ∧ i = .int .u64 j ∧ v = .slice A j c ∧ Hid (N - j = gk) ∧ Hid (Cur 92 wr K g xs (stB xs q e2 j).2.1 (stB xs q e2 j).2.2) ∧ Hid (Held wr w.heap.size 58 #[.pointer (some ⟨g, 0, none⟩)]) ∧ Hid (wr.ownsRow (w.heap.size + 1) 3 1 (.slice A j c) j ((stB xs q e2 j).1.map (.int .i64))) ∧ Hid (w.grownBy wr (some g)))
  case atStart => exact ⟨0, none, 0, Nat.zero_le _, rfl, rfl, Lib.hid rfl, HC1, HBX1, Lib.hid (World.ownsRow_nil _ _ _ _), HG1⟩
  case round =>
    obtain ⟨j, A, c, hj, rfl, rfl, HGK, HC, HBX, HOW, HGR⟩ := hrel
    by_cases hlt : j < N
    · have hbox := HBX.out.cell 0
      simp at hbox
      have HBY := Lib.hid (byte_any HC.out (HLE.out j).2 hK HBY0.out)
      have hby := tkB_byte HBY0.out (stB xs q e2 j).2.1 (stB xs q e2 j).2.2
      have hnext : stB xs q e2 (j + 1) = ((stB xs q e2 j).1 ++ [(tk 0 (stB xs q e2 j).2.1 (stB xs q e2 j).2.2 (getB (xs.drop (stB xs q e2 j).2.1))).1], (tk 0 (stB xs q e2 j).2.1 (stB xs q e2 j).2.2 (getB (xs.drop (stB xs q e2 j).2.1))).2) := rfl
      generalize tk 0 (stB xs q e2 j).2.1 (stB xs q e2 j).2.2 (getB (xs.drop (stB xs q e2 j).2.1)) = t at HBY hby hnext
      obtain ⟨y, q3, e3⟩ := t
      simp only at hby hnext
      obtain ⟨y0, y1⟩ := hby
      have HNX := Lib.hid hnext
      have hws := HBX.out.lt
      clear hnext
      go_wp2_with fail
      refine HBY.out.mono ?_
      rintro r w2 ⟨rfl, hc2, hg2⟩
      simp only [u8V]
      have HC2 := Lib.hid hc2
      have HO2 := Lib.hid (World.ownsRow.kept HOW.out hg2 (.inr (own_low HOW.out (by have := HGL.out; omega))))
      have HBX2 := Lib.hid (HBX.out.grown hg2 (fun e => by have := HGL.out; injection e with e; omega))
      have HG2 := Lib.hid (grown_trans HGR.out hg2)
      have hs2 := HBX2.out.lt
      clear hc2 hg2 hbox
      go_wp2_with (at_builtin; refine wpList_append_own _ rfl _ _ 43 rfl (w.heap.size + 1) 3 i0 (.int .i64 0) 1 8 Try.underlying43 hi hz0 hz1 hz2 rfl (by decide) _ _ _ rfl (HO2.out.alloc _) ⟨w2.heap.size, 0, none⟩ 1 1 [.int .i64 y] rfl rfl (cell_one_new _ _ _) (by simp [Value.oneCell']) (by simp only [maxLen]; omega) (by omega) (by simp; omega) ?_; intro v3 w3 hown3 hg3 hn3)
      have hlow : ∀ i, (Value.slice A j c).ownBlock = some i → w.heap.size + 1 ≤ i := fun i e => (World.ownsRow.lt HO2.out i e).1
      have HC3 := Lib.hid ((HC2.out.below ((Below.refl _ _).alloc (Nat.le_refl _) (.cells #[.int .i64 y] 3)) hK).past hg3 hlow (by have := HGL.out; omega) hK)
      have HBX3 := Lib.hid ((HBX2.out.below ((Below.refl _ _).alloc (Nat.le_refl _) (.cells #[.int .i64 y] 3)) hs2).grown hg3 (fun e => by have := hlow _ e.symm; omega))
      have HG3 := Lib.hid (grown_past (grown_trans HG2.out (grown_alloc w2 (.cells #[.int .i64 y] 3) (some g))) hg3 (fun i e => by have := hlow i e; omega))
      have HEV := Lib.hid (show (stB xs q e2 j).1.map (Value.int .i64) ++ [.int .i64 y] = (stB xs q e2 (j + 1)).1.map (.int .i64) by rw [HNX.out]; simp)
      obtain ⟨A3, c3, rfl⟩ := own_form hown3
      have HO3 := Lib.hid hown3
      clear hown3 hg3 hn3 hlow
      go_wp2_with fail
      go_roundg (N - (j + 1))
      case measure => have := HGK.out; omega
      case rel => exact ⟨j + 1, A3, c3, by omega, by go_num, rfl, Lib.hid rfl, Lib.hid (by rw [HNX.out]; exact HC3.out), HBX3, Lib.hid (by rw [← HEV.out]; exact HO3.out), HG3⟩
    · obtain rfl : j = N := by omega
      go_wp2_with fail
      go_ret
      rw [HL.out]
      exact ⟨A, c, rfl, own_base HOW.out (by omega), HC.out, HGR.out⟩
#print axioms bargs_any
end Go.Proofs.Ytnjhkjlekepjoaa

namespace Go.Proofs.Ytnjhkjlekepjoaa
open Go.RowKit

theorem OwnA.kept {w w' : World} {n m : Nat} {d : Pd} (h : OwnA w n d) (hg : w.grownBy w' (some m)) (hm : m < n) : OwnA w' n d := World.ownsRow.kept h hg (.inr (own_low h hm))
theorem OwnP.kept {w w' : World} {n m : Nat} {v : Value} {es : List Pd} (h : OwnP w n v es) (hg : w.grownBy w' (some m)) (hm : m < n) : OwnP w' n v es :=
  ⟨World.ownsRow.kept h.1 hg (.inr (own_low h.1 hm)), fun d hd => ⟨(h.2 d hd).1.kept hg hm, (h.2 d hd).2⟩⟩

set_option maxRecDepth 100000 in
set_option maxHeartbeats 2000000 in
theorem bpreds_any {K g n : Nat} {xs : List Int} {w : World} (h : Cur 92 w K g xs 0 0) (hK : K ≤ g) (hb : ∀ x ∈ xs, 0 ≤ x ∧ x < 256) (hl : xs.length ≤ 100000000000) (hnw : n ≤ w.heap.size) :
    Calls Try.prog 25 #[.agg #[.pointer (some ⟨g, 0, none⟩)]] w fun r w' => (∃ A c es, r = .returned (.slice A es.length c) ∧ OwnP w' n (.slice A es.length c) es ∧ es.map (·.p) = (predsC xs).1) ∧
      Cur 92 w' K g xs (predsC xs).2.1 (predsC xs).2.2 ∧ w.grownBy w' (some g) := by
  obtain ⟨i1, hi1, hy0, hy1, hy2⟩ := info_parts Try.infoPred
  have h1 := h.below ((Below.refl _ _).alloc (Nat.le_refl _) (.cells #[.pointer (some ⟨g, 0, none⟩)] 58)) hK
  have hnum := number_any 64 h1 (Nat.zero_le _) hK hb
  obtain ⟨⟨N, hN, hN8⟩, _, hq⟩ := tkN_range (e := 0) hb 64 (Nat.zero_le xs.length)
  have hN : (tk 0 0 0 (getN 64 (xs.drop 0))).1 = (N : Int) := hN
  have hq : (tk 0 0 0 (getN 64 (xs.drop 0))).2.1 ≤ xs.length := hq
  rw [List.drop_zero] at hnum hN hq
  have HNUM := Lib.hid hnum
  unfold predsC
  generalize tk 0 0 0 (getN 64 xs) = t at HNUM hN hq ⊢
  obtain ⟨Ni, q, e2⟩ := t
  simp only at hN hq ⊢
  subst hN
  rw [Int.toNat_natCast]
  have HBX0 := Lib.hid (show Held (w.alloc (.cells #[.pointer (some ⟨g, 0, none⟩)] 58)) w.heap.size 58 #[.pointer (some ⟨g, 0, none⟩)] from heap_alloc_new w _)
  have HLE := Lib.hid (fun j => stP_le (xs := xs) (e := e2) hb hq j)
  have HPL := Lib.hid (fun (p : Nat) (e : Int) (hp : p ≤ xs.length) => predC_le (e := e) hb hp)
  have HTL := Lib.hid (fun (p : Nat) (e : Int) (hp : p ≤ xs.length) => (tkT_le (e := e) hb 32 hp).2)
  have HBY0 := Lib.hid hb
  have HGL := Lib.hid h.lt
  clear h h1 hnum hb hq
  go_enter Try.func25, Try.ntmps25
  go_wp2_with fail
  refine HNUM.out.mono ?_
  rintro r w1 ⟨rfl, hc1, hg1⟩
  simp only [u64V]
  have HC1 := Lib.hid hc1
  have HBX1 := Lib.hid (HBX0.out.grown hg1 (fun e => by have := HGL.out; injection e with e; omega))
  have HG1 := Lib.hid (grown_trans (grown_alloc w (.cells #[.pointer (some ⟨g, 0, none⟩)] 58) (some g)) hg1)
  clear hc1 hg1
  go_wp2_with fail
  go_loopg [8, 3] N (fun gk i v wr => ∃ (j : Nat) (A : Option Addr) (c : Nat) (es : List Pd), j ≤ N ∧ i = .int .u64 j ∧ v = .slice A es.length c ∧ Hid (N - j = gk) ∧ Hid (Cur 92 wr K g xs (stP xs q e2 j).2.1 (stP xs q e2 j).2.2) ∧ Hid (Held wr w.heap.size 58 #[.pointer (some ⟨g, 0, none⟩)]) ∧ Hid (OwnP wr (w.heap.size + 1) (.slice A es.length c) es) ∧ Hid (es.map (·.p) = (stP xs q e2 j).1) ∧ Hid (w.grownBy wr (some g)))
  case atStart => exact ⟨0, none, 0, [], Nat.zero_le _, rfl, rfl, Lib.hid rfl, HC1, HBX1, Lib.hid (OwnP.nil _ _), Lib.hid rfl, HG1⟩
  case round =>
    obtain ⟨j, A, c, es, hj, rfl, rfl, HGK, HC, HBX, HOW, HES, HGR⟩ := hrel
    by_cases hlt : j < N
    · have hbox := HBX.out.cell 0
      simp at hbox
      obtain ⟨hle, hjl⟩ := HLE.out j
      have HEL := Lib.hid (show es.length = j by have := congrArg List.length HES.out; rw [hjl, List.length_map] at this; exact this)
      have hnext : stP xs q e2 (j + 1) = ((stP xs q e2 j).1 ++ [(predC xs (stP xs q e2 j).2.1 (stP xs q e2 j).2.2).1], (predC xs (stP xs q e2 j).2.1 (stP xs q e2 j).2.2).2) := rfl
      generalize (stP xs q e2 j).2.1 = p0 at HC hle hnext
      generalize (stP xs q e2 j).2.2 = e0 at HC hnext
      have hpc := HPL.out p0 e0 hle
      have htl := HTL.out p0 e0 hle
      have HTX := Lib.hid (text_any 32 (by omega) (by omega) HC.out hle hK HBY0.out)
      have HAR0 := Lib.hid (fun (W : World) (hc : Cur 92 W K g xs (tk [] p0 e0 (getT 32 (xs.drop p0))).2.1 (tk [] p0 e0 (getT 32 (xs.drop p0))).2.2) (hn : w.heap.size + 1 ≤ W.heap.size) => bargs_any (n := w.heap.size + 1) hc htl hK HBY0.out hn)
      unfold predC at hnext hpc
      generalize tk [] p0 e0 (getT 32 (xs.drop p0)) = t at HTX HAR0 hnext hpc
      obtain ⟨s, p1, e1⟩ := t
      simp only at HAR0 hnext hpc
      generalize argsC xs p1 e1 = u at HAR0 hnext hpc
      obtain ⟨ts, p2, e3⟩ := u
      simp only at HAR0 hnext hpc
      obtain ⟨_, hsl, htn, hsb, htb⟩ := hpc
      have HNX := Lib.hid hnext
      have HFT := Lib.hid (fun (A : Option Addr) (c : Nat) => show (⟨⟨s, ts⟩, A, c⟩ : Pd).Fits from ⟨by unfold maxLen; simp only; omega, hsb, fun x hx => by have := htb x hx; omega⟩)
      have hws := HBX.out.lt
      clear hnext hsb htb
      go_wp2_with fail
      refine HTX.out.mono ?_
      rintro r w2 ⟨rfl, hc2, hg2⟩
      simp only [txtV]
      have hbx2 := HBX.out.grown hg2 (fun e => by have := HGL.out; injection e with e; omega)
      have hs2 := hbx2.lt
      have hbox2 := hbx2.cell 0
      simp at hbox2
      have HC2 := Lib.hid (HAR0.out w2 hc2 (by omega))
      have HO2 := Lib.hid (HOW.out.kept hg2 (by have := HGL.out; omega))
      have HBX2 := Lib.hid hbx2
      have HG2 := Lib.hid (grown_trans HGR.out hg2)
      clear hc2 hg2 hbox hbx2
      go_wp2_with fail
      refine HC2.out.mono ?_
      rintro r w3 ⟨A2, c2, rfl, hoa, hc3, hg3⟩
      have hbx3 := HBX2.out.grown hg3 (fun e => by have := HGL.out; injection e with e; omega)
      have hs3 := hbx3.lt
      have HC3 := Lib.hid hc3
      have HO3 := Lib.hid (HO2.out.kept hg3 (by have := HGL.out; omega))
      have HA3 := Lib.hid (show OwnA w3 (w.heap.size + 1) ⟨⟨s, ts⟩, A2, c2⟩ from hoa)
      have HBX3 := Lib.hid hbx3
      have HG3 := Lib.hid (grown_trans HG2.out hg3)
      clear hc3 hg3 hoa hbox2 hbx3
      go_wp2_with (at_builtin; refine wpList_append_pred (by rfl) (.tmp 13) (.tmp 18) 22 (by rfl) i1 _ Try.underlying22 hi1 hy0 hy1 hy2 rfl (w.heap.size + 1) (.slice A es.length c) es (by rfl) (HO3.out.below ((Below.refl _ _).alloc (Nat.le_refl _) _)) ⟨w3.heap.size, 0, none⟩ 1 ⟨⟨s, ts⟩, A2, c2⟩ (by rfl) (by go_simp) (by go_simp) (HA3.out.below ((Below.refl _ _).alloc (Nat.le_refl _) _)) (HFT.out A2 c2) (by have := HEL.out; omega) (by simp; omega) ?_; intro v5 w5 hO5 hg5)
      have hlow : ∀ i, (Value.slice A es.length c).ownBlock = some i → w.heap.size + 1 ≤ i := fun i e => (World.ownsRow.lt HO3.out.1 i e).1
      have HC5 := Lib.hid ((HC3.out.below ((Below.refl _ _).alloc (Nat.le_refl _) (.cells #[.string (strOfNums s), .slice A2 ts.length c2] 45)) hK).past hg5 hlow (by have := HGL.out; omega) hK)
      have HBX5 := Lib.hid ((HBX3.out.below ((Below.refl _ _).alloc (Nat.le_refl _) (.cells #[.string (strOfNums s), .slice A2 ts.length c2] 45)) hs3).grown hg5 (fun e => by have := hlow _ e.symm; omega))
      have HG5 := Lib.hid (grown_past (grown_trans HG3.out (grown_alloc w3 (.cells #[.string (strOfNums s), .slice A2 ts.length c2] 45) (some g))) hg5 (fun i e => by have := hlow i e; omega))
      have HEV := Lib.hid (show (es ++ [(⟨⟨s, ts⟩, A2, c2⟩ : Pd)]).map (·.p) = (stP xs q e2 (j + 1)).1 by rw [HNX.out, List.map_append, HES.out]; rfl)
      obtain ⟨A5, c5, ev, _, _⟩ := hO5.form
      have HO5 := Lib.hid hO5
      subst ev
      clear hO5 hg5 hlow
      generalize es ++ [(⟨⟨s, ts⟩, A2, c2⟩ : Pd)] = es5 at HO5 HEV ⊢
      go_wp2_with fail
      go_roundg (N - (j + 1))
      case measure => have := HGK.out; omega
      case rel => exact ⟨j + 1, A5, c5, es5, by omega, by go_num, rfl, Lib.hid rfl, Lib.hid (by rw [HNX.out]; exact HC5.out), HBX5, HO5, HEV, HG5⟩
    · obtain rfl : j = N := by omega
      go_wp2_with fail
      go_ret
      exact ⟨⟨A, c, es, rfl, HOW.out.base (by omega), HES.out⟩, HC.out, HGR.out⟩
#print axioms bpreds_any
end Go.Proofs.Ytnjhkjlekepjoaa

namespace Go.Proofs.Ytnjhkjlekepjoaa
open Go.RowKit

/-- A signature that was read, or why none was. -/
def SigGot (n : Nat) (r : List Pr × Int) (e : Ending) (w' : World) : Prop := ∃ A c es, e = .returned (.tuple #[.slice A es.length c, .int .i64 r.2]) ∧ OwnP w' n (.slice A es.length c) es ∧ es.map (·.p) = r.1
theorem sig_bad {n : Nat} {r : List Pr × Int} {k : Int} {e : Ending} {w' : World} (hr : r = ([], k)) (he : e = .returned (.tuple #[.slice none 0 0, .int .i64 k])) : SigGot n r e w' := by
  subst hr
  exact ⟨none, 0, [], he, OwnP.nil _ _, rfl⟩

set_option maxRecDepth 100000 in
set_option maxHeartbeats 2000000 in
theorem bsget_any (A : Option Addr) (c : Nat) (xs : List Int) (hl : xs.length ≤ 1000000000) (hb : ∀ x ∈ xs, 0 ≤ x ∧ x < 256) (w : World) (hrow : Row w w.heap.size (.slice A xs.length c) xs) :
    Calls Try.prog 12 #[.slice A xs.length c] w fun e w' => SigGot w.heap.size (getSig xs) e w' ∧ Below w.heap.size w w' := by
  rw [← getC_eq hb]
  have HNEW := Lib.hid (new_any A c xs (by omega) w hrow)
  have HPR := Lib.hid (fun (g n : Nat) (W : World) (h : Cur 92 W w.heap.size g xs 0 0) (hK : w.heap.size ≤ g) (hn : n ≤ W.heap.size) => bpreds_any (n := n) h hK hb (by omega) hn)
  have hple := predsC_le hb
  unfold getC
  generalize predsC xs = t at HPR hple ⊢
  obtain ⟨l, p, er⟩ := t
  simp only at hple HPR ⊢
  have hbad : er ≠ 0 ∨ p < xs.length → (doneI xs.length p er).1 = false ∧ (doneI xs.length p er).2 ≠ 0 ∧ (if endC xs.length p er (checkP l) = 0 then (l, 0) else ([], endC xs.length p er (checkP l))) = (([] : List Pr), (doneI xs.length p er).2) := by
    intro h
    unfold doneI endC
    by_cases h0 : er = 0
    · have h1 : p < xs.length := h.resolve_left (fun q => q h0)
      simp [h0, h1]
    · simp [h0]
  have hok : ¬ (er ≠ 0 ∨ p < xs.length) → doneI xs.length p er = (true, 0) ∧ er = 0 ∧ endC xs.length p er (checkP l) = checkP l := by
    intro h
    have h0 : er = 0 := Classical.byContradiction fun q => h (.inl q)
    have h1 : ¬ p < xs.length := fun q => h (.inr q)
    unfold doneI endC
    simp [h0, h1]
  generalize hn : w.heap.size = n at HPR ⊢
  have HN := Lib.hid hn
  have HB0 := Lib.hid hb
  clear hn hrow hb
  by_cases hway : er ≠ 0 ∨ p < xs.length
  · obtain ⟨q1, q2, q3⟩ := hbad hway
    rw [q3]
    clear hok hbad hway q3
    have HDN := Lib.hid (fun (g : Nat) (W : World) (h : Cur 92 W n g xs p er) (hK : n ≤ g) => done_any h hple hK)
    generalize doneI xs.length p er = dn at HDN q1 q2 ⊢
    obtain ⟨d1, d2⟩ := dn
    simp only at q1 q2 ⊢
    subst q1
    have hne : (d2 != 0) = true := bne_iff_ne.2 q2
    clear q2
    go_enter Try.func12, Try.ntmps12
    go_wp2_with fail
    refine HNEW.out.mono ?_
    rintro e w1 ⟨g, rfl, hwg, hc1, hb1⟩
    rw [HN.out] at hwg hc1 hb1
    have hn1 := hb1.size
    rw [HN.out] at hn1
    have hgl := hc1.lt
    obtain ⟨w2, hw2⟩ : ∃ w2, w1.alloc (.cells #[.pointer (some ⟨g, 0, none⟩)] 58) = w2 := ⟨_, rfl⟩
    have b2 : Below w1.heap.size w1 w2 := by rw [← hw2]; exact (Below.refl _ _).alloc (Nat.le_refl _) _
    have s2 : w2.heap.size = w1.heap.size + 1 := by rw [← hw2]; simp
    have h2 : Held w2 w1.heap.size 58 #[.pointer (some ⟨g, 0, none⟩)] := by rw [← hw2]; exact heap_alloc_new w1 _
    have HBX2 := Lib.hid h2
    have HC2 := Lib.hid (HPR.out g (w1.heap.size + 1) w2 (hc1.below b2 hwg) hwg (by omega))
    have HB2 := Lib.hid (hb1.trans (b2.mono hn1))
    have hbox2 := h2.cell 0
    simp at hbox2
    clear h2 b2 hc1 hb1
    go_wp2_with fail
    refine HC2.out.mono ?_
    rintro e w3 ⟨⟨A3, c3, es, rfl, ho3, he3⟩, hc3, hg3⟩
    have hbx3 := HBX2.out.grown hg3 (fun e => by injection e with e; omega)
    have hbox3 := hbx3.cell 0
    simp at hbox3
    have HBX3 := Lib.hid hbx3
    have HB3 := Lib.hid (HB2.out.grown hg3 (by omega) (fun j e => by injection e with e; omega))
    have HD := Lib.hid (HDN.out g w3 hc3 hwg)
    clear hbox2 hbx3 hc3 hg3 ho3 he3
    go_wp2_with fail
    refine HD.out.mono ?_
    rintro e w4 ⟨rfl, hc4, hg4⟩
    have hbx4 := HBX3.out.grown hg4 (fun e => by injection e with e; omega)
    have hbox4 := hbx4.cell 0
    simp at hbox4
    have HB4 := Lib.hid (HB3.out.grown hg4 (by have := HB3.out.size; rw [HN.out] at this; exact this) (fun j e => by injection e with e; omega))
    have HE := Lib.hid (err_any hc4)
    clear hbox3 hbx4 hc4 hg4
    go_wp2_with fail
    refine HE.out.mono ?_
    rintro e w5 ⟨rfl, rfl⟩
    go_wp2_with fail
    go_ret2
    exact ⟨sig_bad rfl rfl, HB4.out⟩
  · obtain ⟨q1, rfl, q3⟩ := hok hway
    rw [q3]
    clear hok hbad hway q3
    have HDN := Lib.hid (fun (g : Nat) (W : World) (h : Cur 92 W n g xs p 0) (hK : n ≤ g) => done_any h hple hK)
    rw [q1] at HDN
    clear q1
    obtain ⟨ck, hck⟩ : ∃ ck, checkP l = ck := ⟨_, rfl⟩
    have HCK := Lib.hid (fun (A : Option Addr) (c : Nat) (ds : List Pd) (W : World) (h : PredRow W W.heap.size (.slice A ds.length c) ds) (e : ds.map (·.p) = l) => (show Calls Try.prog 16 #[.slice A ds.length c] W fun e w' => e = .returned (.int .i64 ck) ∧ Below W.heap.size W w' by rw [← hck, ← e]; exact scheck_any A c ds W h))
    rw [hck]
    clear hck
    go_enter Try.func12, Try.ntmps12
    go_wp2_with fail
    refine HNEW.out.mono ?_
    rintro e w1 ⟨g, rfl, hwg, hc1, hb1⟩
    rw [HN.out] at hwg hc1 hb1
    have hn1 := hb1.size
    rw [HN.out] at hn1
    have hgl := hc1.lt
    obtain ⟨w2, hw2⟩ : ∃ w2, w1.alloc (.cells #[.pointer (some ⟨g, 0, none⟩)] 58) = w2 := ⟨_, rfl⟩
    have b2 : Below w1.heap.size w1 w2 := by rw [← hw2]; exact (Below.refl _ _).alloc (Nat.le_refl _) _
    have s2 : w2.heap.size = w1.heap.size + 1 := by rw [← hw2]; simp
    have h2 : Held w2 w1.heap.size 58 #[.pointer (some ⟨g, 0, none⟩)] := by rw [← hw2]; exact heap_alloc_new w1 _
    have HBX2 := Lib.hid h2
    have HC2 := Lib.hid (HPR.out g (w1.heap.size + 1) w2 (hc1.below b2 hwg) hwg (by omega))
    have HB2 := Lib.hid (hb1.trans (b2.mono hn1))
    have hbox2 := h2.cell 0
    simp at hbox2
    clear h2 b2 hc1 hb1
    go_wp2_with fail
    refine HC2.out.mono ?_
    rintro e w3 ⟨⟨A3, c3, es, rfl, ho3, he3⟩, hc3, hg3⟩
    have hbx3 := HBX2.out.grown hg3 (fun e => by injection e with e; omega)
    have hbox3 := hbx3.cell 0
    simp at hbox3
    have HBX3 := Lib.hid hbx3
    have HB3 := Lib.hid (HB2.out.grown hg3 (by omega) (fun j e => by injection e with e; omega))
    have HD := Lib.hid (HDN.out g w3 hc3 hwg)
    have HO3 := Lib.hid ho3
    have HES := Lib.hid he3
    clear hbox2 hbx3 hc3 hg3 ho3 he3
    go_wp2_with fail
    refine HD.out.mono ?_
    rintro e w4 ⟨rfl, hc4, hg4⟩
    have hbx4 := HBX3.out.grown hg4 (fun e => by injection e with e; omega)
    have hbox4 := hbx4.cell 0
    simp at hbox4
    have hb4 := HB3.out.grown hg4 (by have := HB3.out.size; rw [HN.out] at this; exact this) (fun j e => by injection e with e; omega)
    have ho4 := HO3.out.kept hg4 (by omega)
    have hs4 := hbx4.lt
    have HB4 := Lib.hid hb4
    have HC4 := Lib.hid hc4
    have HO4 := Lib.hid ho4
    have HBX4 := Lib.hid hbx4
    have HKEEP := Lib.hid (fun (W : World) (h : Below w4.heap.size w4 W) => (show W.cell? ⟨w1.heap.size, 0, none⟩ = some (.pointer (some ⟨g, 0, none⟩)) from by have e := (hbx4.below h (by omega)).cell 0; simpa using e))
    have HCK4 := Lib.hid (fun (W : World) (h : Below w4.heap.size w4 W) => HCK.out A3 c3 es W ((ho4.below h).fresh).1 HES.out)
    clear hbox3 hc4 hg4 hb4 ho4 hbx4
    go_wp2_with fail
    go_region_held3 (fun W => W.cell? ⟨w1.heap.size, 0, none⟩ = some (.pointer (some ⟨g, 0, none⟩)))
      (first | exact HKEEP.out _ (Below.refl _ _) | exact HKEEP.out _ (Below.refl _ _).drew | exact HKEEP.out _ b5 | exact hbox6)
      (first
        | (go_at_call 16; (with_reducible refine (HCK4.out _ (by first | exact Below.refl _ _ | exact (Below.refl _ _).drew)).mono ?_); rintro r w5 ⟨rfl, hb5⟩; have b5 : Below w4.heap.size w4 w5 := (Below.refl _ _).drew.trans hb5)
        | (go_at_call 27; (with_reducible refine (stop_any ck (HC4.out.below b5 hwg)).mono ?_); rintro r w6 ⟨rfl, hc6, hg6⟩; have hbx6 := (HBX4.out.below b5 hs4).grown hg6 (fun e => by injection e with e; omega); have hbox6 : w6.cell? ⟨w1.heap.size, 0, none⟩ = some (.pointer (some ⟨g, 0, none⟩)) := by { have e := hbx6.cell 0; simpa using e }))
    rw [stopI_zero] at hc6
    have HE := Lib.hid (err_any hc6)
    have HO6 := Lib.hid ((HO4.out.below b5).kept hg6 (by omega))
    have HB6 := Lib.hid ((HB4.out.trans (b5.mono (by have := HB4.out.size; rw [HN.out] at this; exact this))).grown hg6 (by have := (HB4.out.trans (b5.mono (by have := HB4.out.size; rw [HN.out] at this; exact this))).size; rw [HN.out] at this; exact this) (fun j e => by injection e with e; omega))
    by_cases hz : ck = 0
    · subst hz
      go_wp2_with fail
      refine HE.out.mono ?_
      rintro e w7 ⟨rfl, rfl⟩
      go_wp2_with fail
      go_ret2
      exact ⟨⟨A3, c3, es, rfl, HO6.out.base (by omega), HES.out⟩, HB6.out⟩
    · have hne : (ck != 0) = true := bne_iff_ne.2 hz
      have HZ := Lib.hid hz
      clear hz
      go_wp2_with fail
      refine HE.out.mono ?_
      rintro e w7 ⟨rfl, rfl⟩
      go_wp2_with fail
      go_ret2
      exact ⟨sig_bad rfl rfl, HB6.out⟩
#print axioms bsget_any
end Go.Proofs.Ytnjhkjlekepjoaa
