/-
  What sigbin's reader takes: a predicate's arguments.
-/
import Derived.Test.YtnjhkjlekepjoaaCurTookN
import Derived.Test.YtnjhkjlekepjoaaCurDone
import Derived.Test.YtnjhkjlekepjoaaOwnRows
import Derived.Test.YtnjhkjlekepjoaaPlainSigCur
import Derived.Deep.LoopGhost
namespace Go.Proofs.Ytnjhkjlekepjoaa
open Go.RowKit

section
variable {a b c w w' : World} {g n K : Nat} {row : Option Nat} {T : TypeId} {xs : List Int} {p : Nat} {e : Int}
/-- A cursor is kept by what turns a row from n on alone. -/
theorem Cur.past (h : Cur T w K g xs p e) (hg : w.grownBy w' row) (hrow : ∀ j, row = some j → n ≤ j) (hgn : g < n) (hKg : K ≤ g) : Cur T w' K g xs p e :=
  h.keep (fun k h1 h2 => hg.block k (by have := h.lt; omega) (fun e => by have := hrow k e.symm; omega)) hKg
theorem grown_past (h : a.grownBy b (some g)) (k : b.grownBy c row) (hn : ∀ j, row = some j → a.heap.size ≤ j) : a.grownBy c (some g) :=
  ⟨k.os.trans h.os, k.tape.trans h.tape, k.output.trans h.output, Nat.le_trans h.size k.size, fun i hi hne => (k.block i (Nat.lt_of_lt_of_le hi h.size) (fun e => by have := hn i e.symm; omega)).trans (h.block i hi hne)⟩
end

set_option maxRecDepth 100000 in
set_option maxHeartbeats 2000000 in
theorem bargs_any {K g n : Nat} {xs : List Int} {p : Nat} {e : Int} {w : World} (h : Cur 92 w K g xs p e) (hp : p ≤ xs.length) (hK : K ≤ g) (hb : ∀ x ∈ xs, 0 ≤ x ∧ x < 256) (hnw : n ≤ w.heap.size) :
    Calls Try.prog 53 #[.agg #[.pointer (some ⟨g, 0, none⟩)]] w fun r w' => ∃ A c, r = .returned (.slice A (argsC xs p e).1.length c) ∧ w'.ownsRow n 3 1 (.slice A (argsC xs p e).1.length c) (argsC xs p e).1.length ((argsC xs p e).1.map (.int .i64)) ∧
      Cur 92 w' K g xs (argsC xs p e).2.1 (argsC xs p e).2.2 ∧ w.grownBy w' (some g) := by
  obtain ⟨i0, hi, hz0, hz1, hz2⟩ := info_parts Try.infoIntB
  have h1 := h.below ((Below.refl _ _).alloc (Nat.le_refl _) (.cells #[.pointer (some ⟨g, 0, none⟩)] 58)) hK
  have HNUM := Lib.hid (number_any 8 h1 hp hK hb)
  obtain ⟨⟨N, hN, hN8⟩, _, hq⟩ := tkN_range (e := e) hb 8 hp
  have hN : (tk 0 p e (getN 8 (xs.drop p))).1 = (N : Int) := hN
  have hq : (tk 0 p e (getN 8 (xs.drop p))).2.1 ≤ xs.length := hq
  unfold argsC
  generalize tk 0 p e (getN 8 (xs.drop p)) = t at HNUM hN hq ⊢
  obtain ⟨Ni, q, e2⟩ := t
  simp only at hN hq ⊢
  subst hN
  rw [Int.toNat_natCast]
  have HBX0 := Lib.hid (show Held (w.alloc (.cells #[.pointer (some ⟨g, 0, none⟩)] 58)) w.heap.size 58 #[.pointer (some ⟨g, 0, none⟩)] from heap_alloc_new w _)
  have HLE := Lib.hid (fun j => stB_le (xs := xs) (e := e2) hq j)
  have HL := Lib.hid (stB_length (xs := xs) (p := q) (e := e2) N)
  have HBY0 := Lib.hid hb
  have HGL := Lib.hid h.lt
  clear h h1 hb hp hq
  go_enter Try.func53, Try.ntmps53
  go_wp2_with fail
  refine HNUM.out.mono ?_
  rintro r w1 ⟨rfl, hc1, hg1⟩
  simp only [u64V]
  have HC1 := Lib.hid hc1
  have HBX1 := Lib.hid (HBX0.out.grown hg1 (fun e => by have := HGL.out; injection e with e; omega))
  have HG1 := Lib.hid (grown_trans (grown_alloc w (.cells #[.pointer (some ⟨g, 0, none⟩)] 58) (some g)) hg1)
  clear hc1 hg1
  go_wp2_with fail
  go_loopg [7, 3] N (fun gk i v wr => ∃ (j : Nat) (A : Option Addr) (c : Nat), j ≤ N ∧ i = .int .u64 j ∧ v = .slice A j c ∧ Hid (N - j = gk) ∧ Hid (Cur 92 wr K g xs (stB xs q e2 j).2.1 (stB xs q e2 j).2.2) ∧ Hid (Held wr w.heap.size 58 #[.pointer (some ⟨g, 0, none⟩)]) ∧ Hid (wr.ownsRow (w.heap.size + 1) 3 1 (.slice A j c) j ((stB xs q e2 j).1.map (.int .i64))) ∧ Hid (w.grownBy wr (some g)))
  case atStart => exact ⟨0, none, 0, Nat.zero_le _, rfl, rfl, Lib.hid rfl, HC1, HBX1, Lib.hid (World.ownsRow_nil _ _ _ _), HG1⟩
  case round =>
    obtain ⟨j, A, c, hj, rfl, rfl, HGK, HC, HBX, HOW, HGR⟩ := hrel
    by_cases hlt : j < N
    · have hbox := HBX.out.cell 0
      simp at hbox
      have HBY := Lib.hid (byte_any HC.out (HLE.out j).2 hK HBY0.out)
      have hby := tkB_byte HBY0.out (stB xs q e2 j).2.1 (stB xs q e2 j).2.2
      have hnext : stB xs q e2 (j + 1) = ((stB xs q e2 j).1 ++ [(tk 0 (stB xs q e2 j).2.1 (stB xs q e2 j).2.2 (getB (xs.drop (stB xs q e2 j).2.1))).1], (tk 0 (stB xs q e2 j).2.1 (stB xs q e2 j).2.2 (getB (xs.drop (stB xs q e2 j).2.1))).2) := rfl
      generalize tk 0 (stB xs q e2 j).2.1 (stB xs q e2 j).2.2 (getB (xs.drop (stB xs q e2 j).2.1)) = t at HBY hby hnext
      obtain ⟨y, q3, e3⟩ := t
      simp only at hby hnext
      obtain ⟨y0, y1⟩ := hby
      have HNX := Lib.hid hnext
      have hws := HBX.out.lt
      clear hnext
      go_wp2_with fail
      refine HBY.out.mono ?_
      rintro r w2 ⟨rfl, hc2, hg2⟩
      simp only [u8V]
      have HC2 := Lib.hid hc2
      have HO2 := Lib.hid (World.ownsRow.kept HOW.out hg2 (.inr (own_low HOW.out (by have := HGL.out; omega))))
      have HBX2 := Lib.hid (HBX.out.grown hg2 (fun e => by have := HGL.out; injection e with e; omega))
      have HG2 := Lib.hid (grown_trans HGR.out hg2)
      have hs2 := HBX2.out.lt
      clear hc2 hg2 hbox
      go_wp2_with (at_builtin; refine wpList_append_own _ rfl _ _ 43 rfl (w.heap.size + 1) 3 i0 (.int .i64 0) 1 8 Try.underlying43 hi hz0 hz1 hz2 rfl (by decide) _ _ _ rfl (HO2.out.alloc _) ⟨w2.heap.size, 0, none⟩ 1 1 [.int .i64 y] rfl rfl (cell_one_new _ _ _) (by simp [Value.oneCell']) (by simp only [maxLen]; omega) (by omega) (by simp; omega) ?_; intro v3 w3 hown3 hg3 hn3)
      have hlow : ∀ i, (Value.slice A j c).ownBlock = some i → w.heap.size + 1 ≤ i := fun i e => (World.ownsRow.lt HO2.out i e).1
      have HC3 := Lib.hid ((HC2.out.below ((Below.refl _ _).alloc (Nat.le_refl _) (.cells #[.int .i64 y] 3)) hK).past hg3 hlow (by have := HGL.out; omega) hK)
      have HBX3 := Lib.hid ((HBX2.out.below ((Below.refl _ _).alloc (Nat.le_refl _) (.cells #[.int .i64 y] 3)) hs2).grown hg3 (fun e => by have := hlow _ e.symm; omega))
      have HG3 := Lib.hid (grown_past (grown_trans HG2.out (grown_alloc w2 (.cells #[.int .i64 y] 3) (some g))) hg3 (fun i e => by have := hlow i e; omega))
      have HEV := Lib.hid (show (stB xs q e2 j).1.map (Value.int .i64) ++ [.int .i64 y] = (stB xs q e2 (j + 1)).1.map (.int .i64) by rw [HNX.out]; simp)
      obtain ⟨A3, c3, rfl⟩ := own_form hown3
      have HO3 := Lib.hid hown3
      clear hown3 hg3 hn3 hlow
      go_wp2_with fail
      go_roundg (N - (j + 1))
      case measure => have := HGK.out; omega
      case rel => exact ⟨j + 1, A3, c3, by omega, by go_num, rfl, Lib.hid rfl, Lib.hid (by rw [HNX.out]; exact HC3.out), HBX3, Lib.hid (by rw [← HEV.out]; exact HO3.out), HG3⟩
    · obtain rfl : j = N := by omega
      go_wp2_with fail
      go_ret
      rw [HL.out]
      exact ⟨A, c, rfl, own_base HOW.out (by omega), HC.out, HGR.out⟩
#print axioms bargs_any
end Go.Proofs.Ytnjhkjlekepjoaa
