/-
  What the theorem of ReadTakes rests on, part 9 of 17.
-/
import Derived.WalkKit
import Derived.Deep.LoopGhost
import Derived.Deep.RegionHeld3
import Derived.Deep.RegionLaw
import Derived.Test.YtimihhcidbeonaaGreatReadTakesZ8
set_option maxRecDepth 100000
set_option maxHeartbeats 16000000
namespace Go.Proofs.YtimihhcidbeonaaGreat
open Lib (hid)
open Go.RowKit
set_option linter.unusedVariables false
abbrev PV (xs : List Int) (p : Nat) (e : Int) (TA : Option Addr) (TL TC : Nat) (LA : Option Addr) (LL LC : Nat) (n : Int) : Value :=
 .agg #[.string (strOfNums xs), .int .i64 p, .int .i64 e, .slice TA TL TC, .slice LA LL LC, .int .u64 n]
abbrev PC (xs : List Int) (p : Nat) (e : Int) (TA : Option Addr) (TL TC : Nat) (LA : Option Addr) (LL LC : Nat) (n : Int) : Array Value :=
 #[.string (strOfNums xs), .int .i64 p, .int .i64 e, .slice TA TL TC, .slice LA LL LC, .int .u64 n]
theorem held_put6 {w : World} {B : Nat} {t : TypeId} {a b c d e f : Value} (h : Held w B t #[a, b, c, d, e, f]) (a' b' c' d' e' f' : Value) :
  Held ((((((w.setCell ⟨B, 0, none⟩ a').setCell ⟨B, 1, none⟩ b').setCell ⟨B, 2, none⟩ c').setCell ⟨B, 3, none⟩ d').setCell ⟨B, 4, none⟩ e').setCell ⟨B, 5, none⟩ f') B t #[a', b', c', d', e', f'] := by
 simpa using (((((h.put 0 a').put 1 b').put 2 c').put 3 d').put 4 e').put 5 f'
theorem grown_put6 (w : World) (B : Nat) (a' b' c' d' e' f' : Value) :
  w.grownBy ((((((w.setCell ⟨B, 0, none⟩ a').setCell ⟨B, 1, none⟩ b').setCell ⟨B, 2, none⟩ c').setCell ⟨B, 3, none⟩ d').setCell ⟨B, 4, none⟩ e').setCell ⟨B, 5, none⟩ f') (some B) :=
 grown_trans (grown_trans (grown_trans (grown_trans (grown_trans (grown_put _ _ _ _) (grown_put _ _ _ _)) (grown_put _ _ _ _)) (grown_put _ _ _ _)) (grown_put _ _ _ _)) (grown_put _ _ _ _)
section
variable {xs : List Int} {p : Nat} {e : Int} {TA LA : Option Addr} {TL TC LL LC : Nat} {n m : Int} {w : World}
theorem pnum_any (hp : p ≤ xs.length) (hl : xs.length ≤ 1000000) (hb : ∀ x ∈ xs, 0 ≤ x ∧ x < 256) :
  Calls Tryz.prog 50 #[PV xs p e TA TL TC LA LL LC n, .int .u64 m] w fun r w' => r = .returned (PV xs (nx m xs p e).2.1 (nx m xs p e).2.2 TA TL TC LA LL LC (nx m xs p e).1) ∧ Below w.heap.size w w' := by
 obtain ⟨B, hB⟩ : ∃ B, w.heap.size = B := ⟨_, rfl⟩
 have hz : ∀ (o1 : Obj) (cs : Array Value) (i : Nat), ((w.alloc o1).alloc (.cells cs 111)).cell? ⟨B + 1, i, none⟩ = cs[i]? := fun o1 cs i => by
  have h : Held ((w.alloc o1).alloc (.cells cs 111)) (w.alloc o1).heap.size 111 cs := heap_alloc_new _ _
  rw [World.size_alloc, hB] at h
  exact h.cell i
 have hbl : ∀ (o1 o2 : Obj), Below B w ((w.alloc o1).alloc o2) := fun o1 o2 => ((Below.refl _ _).alloc (by omega) _).alloc (by rw [World.size_alloc]; omega) _
 have hss : (strOfNums xs).size = xs.length := strOfNums_size xs
 have hcut : (strOfNums xs).extract p xs.length = strOfNums (xs.drop p) := by rw [str_cut, List.take_length]
 have hg := fun W => rget_any (xs.drop p) (drop_bytes hb p) (by rw [List.length_drop]; omega) W
 have hfit := getI_fits (xs.drop p) (drop_bytes hb p)
 have hzero := getI_zero (xs.drop p)
 have hpi : (p : Int) ≤ (xs.length : Int) := by omega
 have hld : (xs.drop p).length = xs.length - p := List.length_drop
 rw [hB]
 by_cases he : e = 0
 ·subst he
  unfold nx getN Fits at *
  generalize getI (xs.drop p) = t at hg hfit hzero ⊢
  obtain ⟨N, s, er⟩ := t
  simp only at hg hfit hzero ⊢
  have HG := hid hg
  clear hg hb
  by_cases h0 : er = 0
  ·subst h0
   by_cases hm : m < N
   ·rw [if_pos ⟨rfl, hm⟩, tk_err (by simp)]
    clear hfit hzero hld
    go_enter Tryz.func50, Tryz.ntmps50
    go_wp2_with fail
    refine (HG.out _).mono ?_
    rintro r w1 ⟨rfl, rfl⟩
    go_wp2_with fail
    exact bodyPost_ret (v := .agg #[.string (strOfNums xs), .int .i64 p, .int .i64 6, .slice TA TL TC, .slice LA LL LC, .int .u64 0]) (by simp [results, Tryz.results50, go_sem, hz]) rfl ⟨rfl, hbl _ _⟩
   ·rw [if_neg (fun h => hm h.2), tk_ok rfl]
    have hsz := hfit.1 rfl
    have hws : IntKind.i64.wrap ((p : Int) + (s : Int)) = ((p + s : Nat) : Int) := by rw [IntWalk.i64_in _ (by omega)]; rfl
    clear hfit hzero hld hsz
    go_enter Tryz.func50, Tryz.ntmps50
    go_wp2_with fail
    refine (HG.out _).mono ?_
    rintro r w1 ⟨rfl, rfl⟩
    go_wp2_with fail
    exact bodyPost_ret (v := .agg #[.string (strOfNums xs), .int .i64 (p + s : Nat), .int .i64 0, .slice TA TL TC, .slice LA LL LC, .int .u64 N]) (by simp [results, Tryz.results50, go_sem, hz]) rfl ⟨rfl, hbl _ _⟩
  ·have hn0 : (er == 0) = false := beq_eq_false_iff_ne.2 h0
   have hn1 : (er != 0) = true := bne_iff_ne.2 h0
   rw [if_neg (fun h => h0 h.1), tk_err h0]
   clear hfit hzero hld h0
   go_enter Tryz.func50, Tryz.ntmps50
   go_wp2_with fail
   refine (HG.out _).mono ?_
   rintro r w1 ⟨rfl, rfl⟩
   go_wp2_with fail
   exact bodyPost_ret (v := .agg #[.string (strOfNums xs), .int .i64 p, .int .i64 er, .slice TA TL TC, .slice LA LL LC, .int .u64 0]) (by simp [results, Tryz.results50, go_sem, hz]) rfl ⟨rfl, hbl _ _⟩
 ·have hne : (e != 0) = true := bne_iff_ne.2 he
  rw [nx_stop he]
  clear hg hfit hzero hb he hld
  go_enter Tryz.func50, Tryz.ntmps50
  go_wp2_with fail
  exact bodyPost_ret (v := .agg #[.string (strOfNums xs), .int .i64 p, .int .i64 e, .slice TA TL TC, .slice LA LL LC, .int .u64 0]) (by simp [results, Tryz.results50, go_sem, hz]) rfl ⟨rfl, hbl _ _⟩
theorem pbad_any (q : Int) :
  Calls Tryz.prog 51 #[PV xs p e TA TL TC LA LL LC n, .int .i64 q] w fun r w' => r = .returned (PV xs p (stU e q) TA TL TC LA LL LC n) ∧ Below w.heap.size w w' := by
 obtain ⟨B, hB⟩ : ∃ B, w.heap.size = B := ⟨_, rfl⟩
 have hz : ∀ (o1 : Obj) (cs : Array Value) (i : Nat), ((w.alloc o1).alloc (.cells cs 111)).cell? ⟨B + 1, i, none⟩ = cs[i]? := fun o1 cs i => by
  have h : Held ((w.alloc o1).alloc (.cells cs 111)) (w.alloc o1).heap.size 111 cs := heap_alloc_new _ _
  rw [World.size_alloc, hB] at h
  exact h.cell i
 have hbl : ∀ (o1 o2 : Obj), Below B w ((w.alloc o1).alloc o2) := fun o1 o2 => ((Below.refl _ _).alloc (by omega) _).alloc (by rw [World.size_alloc]; omega) _
 rw [hB]
 by_cases he : e = 0
 ·subst he
  rw [stU_zero]
  go_enter Tryz.func51, Tryz.ntmps51
  go_wp2_with fail
  exact bodyPost_ret (v := .agg #[.string (strOfNums xs), .int .i64 p, .int .i64 q, .slice TA TL TC, .slice LA LL LC, .int .u64 n]) (by simp [results, Tryz.results51, go_sem, hz]) rfl ⟨rfl, hbl _ _⟩
 ·have hne : (e == 0) = false := beq_eq_false_iff_ne.2 he
  rw [stU_kept he]
  clear he
  go_enter Tryz.func51, Tryz.ntmps51
  go_wp2_with fail
  exact bodyPost_ret (v := .agg #[.string (strOfNums xs), .int .i64 p, .int .i64 e, .slice TA TL TC, .slice LA LL LC, .int .u64 n]) (by simp [results, Tryz.results51, go_sem, hz]) rfl ⟨rfl, hbl _ _⟩
end
section
variable {w : World} {R : Nat} {a b c d e f : Value} {T : Array Value}
theorem res_texts (h : T[2]?.getD undef = .pointer (some ⟨R, 0, none⟩)) (hz : Held w R 111 #[a, b, c, d, e, f]) :
  (results Tryz.f52 T).run Tryz.prog w = .ok (.agg #[a, b, c, d, e, f]) w := by
 obtain ⟨z0, z1, z2, z3, z4, z5⟩ := cC6 hz
 simp at z0 z1 z2 z3 z4 z5
 simp [results, Tryz.results52, go_sem, h, z0, z1, z2, z3, z4, z5]
theorem res_event (h : T[4]?.getD undef = .pointer (some ⟨R, 0, none⟩)) (hz : Held w R 111 #[a, b, c, d, e, f]) :
  (results Tryz.f103 T).run Tryz.prog w = .ok (.agg #[a, b, c, d, e, f]) w := by
 obtain ⟨z0, z1, z2, z3, z4, z5⟩ := cC6 hz
 simp at z0 z1 z2 z3 z4 z5
 simp [results, Tryz.results103, go_sem, h, z0, z1, z2, z3, z4, z5]
theorem res_point (h : T[8]?.getD undef = .pointer (some ⟨R, 0, none⟩)) (hz : Held w R 111 #[a, b, c, d, e, f]) :
  (results Tryz.f53 T).run Tryz.prog w = .ok (.agg #[a, b, c, d, e, f]) w := by
 obtain ⟨z0, z1, z2, z3, z4, z5⟩ := cC6 hz
 simp at z0 z1 z2 z3 z4 z5
 simp [results, Tryz.results53, go_sem, h, z0, z1, z2, z3, z4, z5]
end
abbrev zeroPC : Array Value := #[.string ⟨#[]⟩, .int .i64 0, .int .i64 0, .slice none 0 0, .slice none 0 0, .int .u64 0]
section
variable {xs : List Int} {p : Nat} {e : Int} {LA : Option Addr} {LL LC B : Nat} {n : Int} {w : World}
structure TxAt (w : World) (B : Nat) (xs : List Int) (LA : Option Addr) (LL LC : Nat) (n : Int) (A : Option Addr) (c : Nat) (r : List (List Int) × Nat × Int) (wr : World) : Prop where
 box : Held wr B 111 (PC xs r.2.1 r.2.2 A r.1.length c LA LL LC n)
 own : wr.ownsRow B 9 1 (.slice A r.1.length c) r.1.length (strVs r.1)
 res : Held wr (B + 1) 111 zeroPC
 bel : Below B w wr
theorem TxAt.more {A A5 : Option Addr} {c c5 : Nat} {r : List (List Int) × Nat × Int} {s : List Int} {q : Nat} {er : Int} {wr w5 : World} (h : TxAt w B xs LA LL LC n A c r wr)
  (ho : w5.ownsRow B 9 1 (.slice A5 (r.1 ++ [s]).length c5) (r.1 ++ [s]).length (strVs (r.1 ++ [s])))
  (hg : (((wr.setCell ⟨B, 2, none⟩ (.int .i64 er)).setCell ⟨B, 1, none⟩ (.int .i64 (q : Nat))).alloc (.cells #[.string (strOfNums s)] 9)).grownBy w5 (Value.slice A r.1.length c).ownBlock) :
  TxAt w B xs LA LL LC n A5 c5 (r.1 ++ [s], q, er) (w5.setCell ⟨B, 3, none⟩ (.slice A5 (r.1 ++ [s]).length c5)) ∧ Held w5 B 111 (PC xs q er A r.1.length c LA LL LC n) := by
 obtain ⟨h1, h2, h3, h4⟩ := h
 have hlow : ∀ i, (Value.slice A r.1.length c).ownBlock = some i → B ≤ i := fun i e => (World.ownsRow.lt h2 i e).1
 have hb2 : Held ((wr.setCell ⟨B, 2, none⟩ (.int .i64 er)).setCell ⟨B, 1, none⟩ (.int .i64 (q : Nat))) B 111 (PC xs q er A r.1.length c LA LL LC n) := by simpa using (h1.put 2 (.int .i64 er)).put 1 (.int .i64 (q : Nat))
 have hr2 : Held ((wr.setCell ⟨B, 2, none⟩ (.int .i64 er)).setCell ⟨B, 1, none⟩ (.int .i64 (q : Nat))) (B + 1) 111 zeroPC := (h3.other_put (by omega) _).other_put (by omega) _
 have ho2 : ((wr.setCell ⟨B, 2, none⟩ (.int .i64 er)).setCell ⟨B, 1, none⟩ (.int .i64 (q : Nat))).ownsRow B 9 1 (.slice A r.1.length c) r.1.length (strVs r.1) := World.ownsRow.kept (World.ownsRow.kept h2 (grown_put _ _ _ _) (.inr (fun e => own_not_held h2 h1 (by decide) e.symm))) (grown_put _ _ _ _) (.inr (fun e => own_not_held h2 h1 (by decide) e.symm))
 generalize hw2 : (wr.setCell ⟨B, 2, none⟩ (.int .i64 er)).setCell ⟨B, 1, none⟩ (.int .i64 (q : Nat)) = w2 at hb2 hr2 ho2 hg
 have hbl2 : Below B w w2 := by rw [← hw2]; exact (h4.setCell (p := ⟨B, 2, none⟩) (Nat.le_refl _) _).setCell (p := ⟨B, 1, none⟩) (Nat.le_refl _) _
 have al := (Below.refl w2.heap.size w2).alloc (Nat.le_refl _) (.cells #[.string (strOfNums s)] 9)
 have hb5 : Held w5 B 111 (PC xs q er A r.1.length c LA LL LC n) := (hb2.below al hb2.lt).grown hg (fun e => own_not_held ho2 hb2 (by decide) e)
 have hr5 : Held w5 (B + 1) 111 zeroPC := (hr2.below al hr2.lt).grown hg (fun e => own_not_held ho2 hr2 (by decide) e)
 have hsz := hb2.lt
 refine ⟨⟨?_, ?_, hr5.other_put (by omega) _, ?_⟩, hb5⟩
 ·simpa using hb5.put 3 (.slice A5 (r.1 ++ [s]).length c5)
 ·exact World.ownsRow.kept ho (grown_put w5 B 3 _) (.inr (fun e => own_not_held ho hb5 (by decide) e.symm))
 ·exact ((hbl2.alloc (by omega) _).grown hg (by rw [World.size_alloc]; omega) hlow).setCell (p := ⟨B, 3, none⟩) (Nat.le_refl _) _
def TxGot (w : World) (xs : List Int) (R : List (List Int) × Nat × Int) (LA : Option Addr) (LL LC : Nat) (r : Ending) (w' : World) : Prop :=
 ∃ q E A Tl c n, r = .returned (PV xs q E A Tl c LA LL LC n) ∧ q ≤ xs.length ∧ E = R.2.2 ∧ (E = 0 → q = R.2.1 ∧ Tl = R.1.length ∧ w'.ownsRow w.heap.size 9 1 (.slice A Tl c) Tl (strVs R.1)) ∧ Below w.heap.size w w'
theorem ptexts_any (hp : p ≤ xs.length) (hl : xs.length ≤ 1000000) (hb : ∀ x ∈ xs, 0 ≤ x ∧ x < 256) :
  Calls Tryz.prog 52 #[PV xs p e none 0 0 LA LL LC n] w (TxGot w xs (dictU xs p e) LA LL LC) := by
 obtain ⟨B, hB⟩ : ∃ B, w.heap.size = B := ⟨_, rfl⟩
 obtain ⟨i0, hi, hz0, hz1, hz2⟩ := info_parts Tryz.infoStr15
 have hss : (strOfNums xs).size = xs.length := strOfNums_size xs
 have HNUM := hid (fun W => pnum_any (TA := none) (TL := 0) (TC := 0) (LA := LA) (LL := LL) (LC := LC) (n := n) (m := 4096) (e := e) (w := W) hp hl hb)
 obtain ⟨⟨N, hN, hN1, hN64⟩, _, hq⟩ := nx_range (e := e) hb (m := 4096) (by decide) hp
 unfold TxGot dictU
 rw [hB]
 generalize nx 4096 xs p e = t at HNUM hN hq ⊢
 obtain ⟨Ni, q, e2⟩ := t
 simp only at hN hq HNUM ⊢
 subst hN
 rw [Int.toNat_natCast]
 obtain ⟨F, hF⟩ : ∃ F : Nat → List (List Int) × Nat × Int, txsU xs (q, e2) = F := ⟨_, rfl⟩
 have HF0 := hid (show F 0 = ([], q, e2) by rw [← hF]; rfl)
 have HFS := hid (fun j => show F (j + 1) = ((F j).1 ++ [(tx xs (F j).2.1 (F j).2.2).1], (tx xs (F j).2.1 (F j).2.2).2) by rw [← hF]; rfl)
 have HFL := hid (fun j => show (F j).1.length = j by rw [← hF]; exact stepsU_length j)
 have HFP := hid (fun j => show (F j).2.1 ≤ xs.length by rw [← hF]; exact stepsU_inv (I := fun s : Nat × Int => s.1 ≤ xs.length) hq (fun j s h => (tx_range hb h).2) j)
 have HFE := hid (fun (k j : Nat) (h : (F k).2.2 ≠ 0) (hk : k ≤ j) => show (F j).2.2 = (F k).2.2 by
  rw [← hF] at h ⊢
  exact stepsU_stop (f := fun _ s => tx xs s.1 s.2) (er := fun s : Nat × Int => s.2) (fun j s hs => by rw [tx_stop hs]) h j hk)
 rw [hF]
 have HGT := hid (fun (q : Nat) (hq : q ≤ xs.length) => fun W => rbget_any (xs.drop q) 200 (by omega) (by omega) W (drop_bytes hb q) (by rw [List.length_drop]; omega))
 have HGZ := hid (fun (q : Nat) (hq : q ≤ xs.length) => show (getT 200 (xs.drop q)).2.1 ≤ xs.length - q from by have := (getT_size (most := 200) (xs.drop q) (drop_bytes hb q)).1; rw [List.length_drop] at this; exact this)
 have HTX := hid (fun (q : Nat) => show tx xs q 0 = ((getT 200 (xs.drop q)).1, q + (getT 200 (xs.drop q)).2.1, (getT 200 (xs.drop q)).2.2) from by
  unfold tx
  by_cases h : (getT 200 (xs.drop q)).2.2 = 0
  ·rw [tk_ok h, h]
  ·obtain ⟨z1, z2⟩ := getT_zero 200 (xs.drop q) h
   rw [tk_err h, z1, z2, Nat.add_zero])
 clear hF hb hq hp
 have hHB : ∀ (o1 : Array Value) (cs : Array Value), Held ((w.alloc (.cells o1 111)).alloc (.cells cs 111)) B 111 o1 ∧ Held ((w.alloc (.cells o1 111)).alloc (.cells cs 111)) (B + 1) 111 cs := fun o1 cs => by
  have h : Held ((w.alloc (.cells o1 111)).alloc (.cells cs 111)) (w.alloc (.cells o1 111)).heap.size 111 cs := heap_alloc_new _ _
  have h1 : Held (w.alloc (.cells o1 111)) w.heap.size 111 o1 := heap_alloc_new _ _
  rw [World.size_alloc, hB] at h
  rw [hB] at h1
  exact ⟨h1.below ((Below.refl _ _).alloc (Nat.le_refl _) _) h1.lt, h⟩
 have hbl : ∀ (o1 o2 : Obj), Below B w ((w.alloc o1).alloc o2) ∧ ((w.alloc o1).alloc o2).heap.size = B + 2 := fun o1 o2 => ⟨((Below.refl _ _).alloc (by omega) _).alloc (by rw [World.size_alloc]; omega) _, by rw [World.size_alloc, World.size_alloc, hB]⟩
 have HHB := hid hHB
 have HBL := hid hbl
 clear hHB hbl
 go_enter Tryz.func52, Tryz.ntmps52
 go_wp2_with fail
 refine (HNUM.out _).mono ?_
 rintro r w1 ⟨rfl, hb1⟩
 obtain ⟨q1, q2⟩ := HHB.out (PC xs p e none 0 0 LA LL LC n) zeroPC
 obtain ⟨q3, q4⟩ := HBL.out (.cells (PC xs p e none 0 0 LA LL LC n) 111) (.cells zeroPC 111)
 have hs1 := hb1.size
 rw [q4] at hb1 hs1
 have h1 := q1.below hb1 (by omega)
 have r1 := q2.below hb1 (by omega)
 have bl1 := q3.trans (hb1.mono (by omega))
 obtain ⟨⟨f0, f1, f2, f3, f4, f5⟩, c0, c1, c2, c3, c4, c5⟩ := cG6 h1
 simp at c0 c1 c2 c3 c4 c5
 have HTA := hid (show TxAt w B xs LA LL LC N none 0 (F 0) ((((((w1.setCell ⟨B, 0, none⟩ (.string (strOfNums xs))).setCell ⟨B, 1, none⟩ (.int .i64 q)).setCell ⟨B, 2, none⟩ (.int .i64 e2)).setCell ⟨B, 3, none⟩ (.slice none 0 0)).setCell ⟨B, 4, none⟩ (.slice LA LL LC)).setCell ⟨B, 5, none⟩ (.int .u64 N)) by
  rw [HF0.out]
  refine ⟨held_put6 h1 _ _ _ _ _ _, World.ownsRow_nil _ _ _ _, r1.grown (grown_put6 w1 B _ _ _ _ _ _) (by simp), ?_⟩
  exact bl1.grown (grown_put6 w1 B _ _ _ _ _ _) (by omega) (fun j e => by injection e with e; omega))
 clear h1 r1 bl1 q1 q2 q3 q4 hb1
 go_wp2_with fail
 generalize (((((w1.setCell ⟨B, 0, none⟩ (.string (strOfNums xs))).setCell ⟨B, 1, none⟩ (.int .i64 q)).setCell ⟨B, 2, none⟩ (.int .i64 e2)).setCell ⟨B, 3, none⟩ (.slice none 0 0)).setCell ⟨B, 4, none⟩ (.slice LA LL LC)).setCell ⟨B, 5, none⟩ (.int .u64 N) = w4 at HTA ⊢
 clear f0 f1 f2 f3 f4 f5 c0 c1 c2 c3 c4 c5
 go_loopg [4] N (fun gk i wr => ∃ (j : Nat) (A : Option Addr) (c : Nat), j ≤ N ∧ i = .int .i64 j ∧ Hid (N - j = gk) ∧ Hid (TxAt w B xs LA LL LC N A c (F j) wr))
 case atStart => exact ⟨0, none, 0, Nat.zero_le _, rfl, hid rfl, HTA⟩
 case round =>
  obtain ⟨j, A, c, hj, rfl, HGK, HTA⟩ := hrel
  have hta := HTA.out
  obtain ⟨c0, c1, c2, c3, c4, c5⟩ := cC6 hta.box
  have f1 := hta.box.frozen 1
  have f2 := hta.box.frozen 2
  have f3 := hta.box.frozen 3
  simp at c0 c1 c2 c3 c4 c5
  have hlen := HFL.out j
  by_cases hgo : j < N ∧ (F j).2.2 = 0
  ·obtain ⟨hlt, he⟩ := hgo
   rw [he] at c2
   have hjq := HFP.out j
   have hnext := HFS.out j
   rw [he, HTX.out] at hnext
   have hgt := HGT.out (F j).2.1 hjq
   have hgz := HGZ.out (F j).2.1 hjq
   have hcut : (strOfNums xs).extract (F j).2.1 xs.length = strOfNums (xs.drop (F j).2.1) := by rw [str_cut, List.take_length]
   have has : (F j).1.length ≤ 4096 := by rw [hlen]; omega
   have hbs := hta.bel.size
   have hbx := hta.box.lt
   have HOA := hid (fun (u v : Value) => show ((wr.setCell ⟨B, 2, none⟩ u).setCell ⟨B, 1, none⟩ v).ownsRow B 9 1 (.slice A (F j).1.length c) (F j).1.length (strVs (F j).1) from World.ownsRow.kept (World.ownsRow.kept hta.own (grown_put _ _ _ _) (.inr (fun e => own_not_held hta.own hta.box (by decide) e.symm))) (grown_put _ _ _ _) (.inr (fun e => own_not_held hta.own hta.box (by decide) e.symm)))
   generalize getT 200 (xs.drop (F j).2.1) = t at hgt hgz hnext
   obtain ⟨s, sz, er⟩ := t
   simp only at hgt hgz hnext
   have HGT2 := hid hgt
   have HNX := hid hnext
   have HHE := hid he
   clear hgt hnext he hta hlen
   generalize F j = r at HTA HNX HOA HHE c1 c2 c3 has hcut hjq hgz HGT2
   obtain ⟨D, pp, ee⟩ := r
   simp only at c1 c2 c3 has hcut hjq hgz HOA HHE HGT2
   have hpi : (pp : Int) ≤ (xs.length : Int) := by omega
   have hws : IntKind.i64.wrap ((pp : Int) + (sz : Int)) = ((pp + sz : Nat) : Int) := by rw [IntWalk.i64_in _ (by omega)]; rfl
   have HCN := hid (fun (u v : Value) => show ∀ j z, [Value.string (strOfNums s)][j]? = some z → (((wr.setCell ⟨B, 2, none⟩ u).setCell ⟨B, 1, none⟩ v).alloc (.cells #[.string (strOfNums s)] 9)).cell? ((⟨wr.heap.size, 0, none⟩ : Addr).add j) = some z from by
    have h := cell_one_new ((wr.setCell ⟨B, 2, none⟩ u).setCell ⟨B, 1, none⟩ v) (.string (strOfNums s)) 9
    rw [World.size_setCell, World.size_setCell] at h
    exact h)
   go_wp2_with fail
   refine (HGT2.out _).mono ?_
   rintro rr w2 ⟨rfl, rfl⟩
   go_wp2_with (at_builtin; refine wpList_append_own _ rfl _ _ 55 rfl B 9 i0 (.string ⟨#[]⟩) 1 16 Tryz.underlying55 hi hz0 hz1 hz2 rfl (by decide) _ _ _ rfl ((HOA.out _ _).alloc _) ⟨wr.heap.size, 0, none⟩ 1 1 [.string (strOfNums s)] rfl rfl (HCN.out _ _) (by simp [Value.oneCell']) (by simp only [maxLen]; omega) (by omega) (by simp; omega) ?_; intro v3 w3 hown3 hg3 hn3; obtain ⟨A3, c3', rfl⟩ := own_form hown3; have hown4 := (show w3.ownsRow B 9 1 (.slice A3 (D ++ [s]).length c3') (D ++ [s]).length (strVs (D ++ [s])) by { simpa [strVs, strV] using hown3 }); obtain ⟨hmore, hB3⟩ := HTA.out.more hown4 hg3; have d3 := hB3.cell 3; have g3 := hB3.frozen 3; simp at d3)
   have HMORE := hid hmore
   clear hown3 hown4 hg3 hn3 hmore hB3 d3 g3
   go_roundg (N - (j + 1))
   case measure => have := HGK.out; omega
   case rel => exact ⟨j + 1, A3, c3', by omega, by go_num, hid rfl, hid (by rw [HNX.out]; have h := HMORE.out; simp only [pW] at h; exact h)⟩
  ·by_cases hlt : j < N
   ·have he : (F j).2.2 ≠ 0 := fun q => hgo ⟨hlt, q⟩
    have hne : ((F j).2.2 == 0) = false := beq_eq_false_iff_ne.2 he
    have HEE := hid (HFE.out j N he hj)
    have HE0 := hid he
    clear hgo he hlen
    obtain ⟨⟨d0, d1, d2, d3, d4, d5⟩, e0, e1, e2', e3, e4, e5⟩ := cG6 hta.res
    simp at e0 e1 e2' e3 e4 e5
    have hz := held_put6 hta.res (.string (strOfNums xs)) (.int .i64 (F j).2.1) (.int .i64 (F j).2.2) (.slice A (F j).1.length c) (.slice LA LL LC) (.int .u64 N)
    have HZ := hid hz
    have HBE := hid (hta.bel.grown (grown_put6 wr (B + 1) (.string (strOfNums xs)) (.int .i64 (F j).2.1) (.int .i64 (F j).2.2) (.slice A (F j).1.length c) (.slice LA LL LC) (.int .u64 N)) (by have := hta.res.lt; omega) (fun j e => by injection e with e; omega))
    have HOE := hid (World.ownsRow.kept hta.own (grown_put6 wr (B + 1) (.string (strOfNums xs)) (.int .i64 (F j).2.1) (.int .i64 (F j).2.2) (.slice A (F j).1.length c) (.slice LA LL LC) (.int .u64 N)) (.inr (fun e => own_not_held hta.own hta.res (by decide) e.symm)))
    have HPJ := hid (HFP.out j)
    clear hta hz
    go_wp2_with fail
    generalize (((((wr.setCell ⟨B + 1, 0, none⟩ (.string (strOfNums xs))).setCell ⟨B + 1, 1, none⟩ (.int .i64 (F j).2.1)).setCell ⟨B + 1, 2, none⟩ (.int .i64 (F j).2.2)).setCell ⟨B + 1, 3, none⟩ (.slice A (F j).1.length c)).setCell ⟨B + 1, 4, none⟩ (.slice LA LL LC)).setCell ⟨B + 1, 5, none⟩ (.int .u64 N) = wf at HZ HBE HOE ⊢
    refine bodyPost_ret (v := PV xs (F j).2.1 (F j).2.2 A (F j).1.length c LA LL LC N) ?_ ?_ ?_
    ·exact res_texts (by simp only [pV]) HZ.out
    ·rfl
    ·exact ⟨(F j).2.1, (F j).2.2, A, (F j).1.length, c, N, rfl, HPJ.out, HEE.out.symm, fun q => absurd q HE0.out, HBE.out⟩
   ·obtain rfl : j = N := by omega
    clear hgo hlen
    obtain ⟨⟨d0, d1, d2, d3, d4, d5⟩, e0, e1, e2', e3, e4, e5⟩ := cG6 hta.res
    simp at e0 e1 e2' e3 e4 e5
    have hz := held_put6 hta.res (.string (strOfNums xs)) (.int .i64 (F j).2.1) (.int .i64 (F j).2.2) (.slice A (F j).1.length c) (.slice LA LL LC) (.int .u64 j)
    have HZ := hid hz
    have HBE := hid (hta.bel.grown (grown_put6 wr (B + 1) (.string (strOfNums xs)) (.int .i64 (F j).2.1) (.int .i64 (F j).2.2) (.slice A (F j).1.length c) (.slice LA LL LC) (.int .u64 j)) (by have := hta.res.lt; omega) (fun j e => by injection e with e; omega))
    have HOE := hid (World.ownsRow.kept hta.own (grown_put6 wr (B + 1) (.string (strOfNums xs)) (.int .i64 (F j).2.1) (.int .i64 (F j).2.2) (.slice A (F j).1.length c) (.slice LA LL LC) (.int .u64 j)) (.inr (fun e => own_not_held hta.own hta.res (by decide) e.symm)))
    have HPJ := hid (HFP.out j)
    clear hta hz
    go_wp2_with fail
    generalize (((((wr.setCell ⟨B + 1, 0, none⟩ (.string (strOfNums xs))).setCell ⟨B + 1, 1, none⟩ (.int .i64 (F j).2.1)).setCell ⟨B + 1, 2, none⟩ (.int .i64 (F j).2.2)).setCell ⟨B + 1, 3, none⟩ (.slice A (F j).1.length c)).setCell ⟨B + 1, 4, none⟩ (.slice LA LL LC)).setCell ⟨B + 1, 5, none⟩ (.int .u64 j) = wf at HZ HBE HOE ⊢
    refine bodyPost_ret (v := PV xs (F j).2.1 (F j).2.2 A (F j).1.length c LA LL LC j) ?_ ?_ ?_
    ·exact res_texts (by simp only [pV]) HZ.out
    ·rfl
    ·exact ⟨(F j).2.1, (F j).2.2, A, (F j).1.length, c, j, rfl, HPJ.out, rfl, fun _ => ⟨rfl, rfl, HOE.out⟩, HBE.out⟩
end
set_option linter.unusedSimpArgs false
section
variable {xs : List Int} {p : Nat} {e : Int} {D : List (List Int)} {sig : List Pr}
theorem evU_err (h : (nx m64 xs p e).2.2 ≠ 0) : (evU sig D xs p e).2.2 = (nx m64 xs p e).2.2 := by
 unfold evU
 split
 ·exact stU_kept h 9
 ·rw [show (nx m64 xs p e).2 = ((nx m64 xs p e).2.1, (nx m64 xs p e).2.2) from rfl]
  exact argsU_stop h _
theorem sx_nx (hb : ∀ x ∈ xs, 0 ≤ x ∧ x < 256) : sx xs p e = (unfoldI (nx m64 xs p e).1, (nx m64 xs p e).2) := by
 have hN : getN m64 (xs.drop p) = getI (xs.drop p) := by
  have h := (getI_range (xs.drop p) (drop_bytes hb p)).2
  unfold getN
  rw [if_neg (fun q => by have := q.2; unfold m64 at this; omega)]
 have h0 : unfoldI 0 = 0 := by decide
 unfold sx nx
 rw [hN]
 by_cases he : e = 0
 ·subst he
  by_cases h : (getI (xs.drop p)).2.2 = 0
  ·rw [tk_ok h, tk_ok (by exact h)]
   rfl
  ·rw [tk_err h, tk_err (by exact h), h0]
   rfl
 ·rw [tk_stopped he, tk_stopped he, h0]
end
def Turns (n : Nat) (w w' : World) : Prop := Below n w w' ∧ w.heap.size ≤ w'.heap.size ∧ ∀ (k : Nat) (cs : Array Value) (t : TypeId) (fz : Nat × Nat), w.heap[k]? = some (Obj.cells cs t fz) → t ≠ 51 → t ≠ 100 → w'.heap[k]? = some (Obj.cells cs t fz)
section
variable {w w' w2 : World} {n m k : Nat}
theorem Turns.trans (h : Turns n w w') (h2 : Turns n w' w2) : Turns n w w2 := ⟨h.1.trans h2.1, Nat.le_trans h.2.1 h2.2.1, fun k cs t fz q a b => h2.2.2 k cs t fz (h.2.2 k cs t fz q a b) a b⟩
theorem Turns.of_below (h : Below w.heap.size w w') (hn : n ≤ w.heap.size) : Turns n w w' := ⟨h.mono hn, h.size, fun k cs t fz q _ _ => (h.block k (Array.getElem?_eq_some_iff.1 q).1).trans q⟩
theorem Turns.held (h : Turns n w w') {g : Nat} {t : TypeId} {cs : Array Value} (hh : Held w g t cs) (h1 : t ≠ 51) (h2 : t ≠ 100) : Held w' g t cs := h.2.2 g cs t _ hh h1 h2
theorem Turns.own (h : Turns n w w') {e : TypeId} {size : Nat} {v : Value} {us : List Value} (ho : w.ownsRow m e size v k us) (h1 : e ≠ 51) (h2 : e ≠ 100) : w'.ownsRow m e size v k us := by
 refine ⟨ho.1, ?_⟩
 rcases ho.2 with q | ⟨g, cap, cur, q1, q2, q3, r⟩
 ·exact .inl q
 ·exact .inr ⟨g, cap, cur, q1, q2, h.2.2 g _ _ _ q3 h1 h2, r⟩
theorem Turns.grown {e : TypeId} {size : Nat} {v : Value} {us : List Value} (ho : w.ownsRow n e size v k us) (he : e = 51 ∨ e = 100) (hg : w.grownBy w' v.ownBlock) (hn : n ≤ w.heap.size) : Turns n w w' := by
 refine ⟨(Below.refl n w).grown hg hn (fun i hi => (World.ownsRow.lt ho i hi).1), hg.size, fun g cs t fz q h1 h2 => ?_⟩
 refine (hg.block g (Array.getElem?_eq_some_iff.1 q).1 (fun e2 => ?_)).trans q
 rcases ho.2 with ⟨rfl, _⟩ | ⟨g2, cap, cur, rfl, _, q3, _⟩
 ·simp [Value.ownBlock] at e2
 ·obtain rfl : g = g2 := by simpa [Value.ownBlock] using e2
  rw [q] at q3
  injection q3 with q3
  injection q3 with _ e3 _
  rcases he with he | he
  ·exact h1 (e3.trans he)
  ·exact h2 (e3.trans he)
theorem Turns.put {g i : Nat} {u : Value} (hg : n ≤ g) (ht : ∀ cs t fz, w.heap[g]? = some (.cells cs t fz) → t = 51 ∨ t = 100) : Turns n w (w.setCell ⟨g, i, none⟩ u) := by
 refine ⟨(Below.refl n w).setCell (p := ⟨g, i, none⟩) hg u, (grown_put w g i u).size, fun k cs t fz q h1 h2 => ?_⟩
 by_cases hk : k = g
 ·subst hk
  rcases ht cs t fz q with h | h
  ·exact absurd h h1
  ·exact absurd h h2
 ·exact (Below.heap_setCell w ⟨g, i, none⟩ u k (by simpa using hk)).trans q
end
section
variable {w wr w1 w5 : World} {n0 n1 B E1 : Nat} {xs : List Int} {TA LA : Option Addr} {TL TC LL LC : Nat} {n k : Int}
structure PvAt (w : World) (B E1 : Nat) (xs : List Int) (TA : Option Addr) (TL TC : Nat) (LA : Option Addr) (LL LC : Nat) (k : Int) (n : Int) (A : Option Addr) (c : Nat) (ags : List Ag) (q : Nat) (e : Int) (wr : World) : Prop where
 box : Held wr B 111 (PC xs q e TA TL TC LA LL LC n)
 res : Held wr (B + 1) 111 zeroPC
 ev : Held wr E1 100 #[.int .i64 k, .slice A ags.length c]
 own : wr.ownsRow B 97 3 (.slice A ags.length c) ags.length (flatG ags)
 bel : Below B w wr
theorem PvAt.more {A A5 : Option Addr} {c c5 : Nat} {ags : List Ag} {q q' : Nat} {e e' n' : Int} {a : Ag} {wa : World} (h : PvAt w B E1 xs TA TL TC LA LL LC k n A c ags q e wr) (hE : B + 1 < E1) (hbw : Below wr.heap.size wr w1)
  (hwa : ∀ g, g < wr.heap.size → g ≠ B → wa.heap[g]? = w1.heap[g]?) (hsz : wr.heap.size ≤ wa.heap.size) (hbox : Held wa B 111 (PC xs q' e' TA TL TC LA LL LC n')) (hbel : Below B w wa)
  (ho : w5.ownsRow B 97 3 (.slice A5 (ags ++ [a]).length c5) (ags ++ [a]).length (flatG (ags ++ [a])))
  (hg : (wa.alloc (.cells #[.int .i64 a.t, .int .i64 a.n, .string (strOfNums a.s)] 97)).grownBy w5 (Value.slice A ags.length c).ownBlock) :
  PvAt w B E1 xs TA TL TC LA LL LC k n' A5 c5 (ags ++ [a]) q' e' (w5.setCell ⟨E1, 1, none⟩ (.slice A5 (ags ++ [a]).length c5)) ∧ Held w5 E1 100 #[.int .i64 k, .slice A ags.length c] := by
 obtain ⟨h1, h2, h3, h4, h5⟩ := h
 have up : ∀ {g : Nat} {t : TypeId} {cs : Array Value}, Held wr g t cs → g ≠ B → Held wa g t cs := fun hh hne => ((hwa _ hh.lt hne).trans (hbw.block _ hh.lt)).trans hh
 have hr2 := up h2 (by omega)
 have he2 := up h3 (by omega)
 have ho2 : wa.ownsRow B 97 3 (.slice A ags.length c) ags.length (flatG ags) := by
  refine ⟨h4.1, ?_⟩
  rcases h4.2 with q | ⟨g, cap, cur, q1, q2, q3, r⟩
  ·exact .inl q
  ·have hne : g ≠ B := fun e => by
    subst e
    rw [Held, q3] at h1
    injection h1 with h1
    injection h1 with _ e3 _
    exact absurd e3 (by decide)
   exact .inr ⟨g, cap, cur, q1, q2, ((hwa g (Array.getElem?_eq_some_iff.1 q3).1 hne).trans (hbw.block g (Array.getElem?_eq_some_iff.1 q3).1)).trans q3, r⟩
 have hlow : ∀ i, (Value.slice A ags.length c).ownBlock = some i → B ≤ i := fun i e => (World.ownsRow.lt ho2 i e).1
 have al := (Below.refl wa.heap.size wa).alloc (Nat.le_refl _) (.cells #[.int .i64 a.t, .int .i64 a.n, .string (strOfNums a.s)] 97)
 have he5 : Held w5 E1 100 #[.int .i64 k, .slice A ags.length c] := (he2.below al he2.lt).grown hg (fun e => own_not_held ho2 he2 (by decide) e)
 have hb5 : Held w5 B 111 (PC xs q' e' TA TL TC LA LL LC n') := (hbox.below al hbox.lt).grown hg (fun e => own_not_held ho2 hbox (by decide) e)
 have hr5 : Held w5 (B + 1) 111 zeroPC := (hr2.below al hr2.lt).grown hg (fun e => own_not_held ho2 hr2 (by decide) e)
 have hbz := hbox.lt
 refine ⟨⟨hb5.other_put (by omega) _, hr5.other_put (by omega) _, ?_, ?_, ?_⟩, he5⟩
 ·simpa using he5.put 1 (.slice A5 (ags ++ [a]).length c5)
 ·exact World.ownsRow.kept ho (grown_put w5 E1 1 _) (.inr (fun e => own_not_held ho he5 (by decide) e.symm))
 ·exact ((hbel.alloc (by omega) _).grown hg (by rw [World.size_alloc]; omega) hlow).setCell (p := ⟨E1, 1, none⟩) (by simp only; omega) _
theorem ev_end {A A5 : Option Addr} {c c5 : Nat} {ags : List Ag} {ps : List Pm} {d0 : Pm} (hL : OwnT wr n0 (.slice LA LL LC) (ps ++ [d0])) (hn0 : n0 ≤ n1) (hn1 : n1 ≤ wr.heap.size) (hlo : wr.ownsRow n1 100 2 (.slice d0.A d0.evs.length d0.c) d0.evs.length (flatE d0.evs)) (hhi : ∀ d ∈ ps, ∀ i, (Value.slice d.A d.evs.length d.c).ownBlock = some i → i < n1) (hv : wr.ownsRow n0 97 3 (.slice A ags.length c) ags.length (flatG ags))
  (ho : w5.ownsRow n1 100 2 (.slice A5 (d0.evs ++ [(⟨k, ags, A, c⟩ : Em)]).length c5) (d0.evs ++ [(⟨k, ags, A, c⟩ : Em)]).length (flatE (d0.evs ++ [(⟨k, ags, A, c⟩ : Em)])))
  (hg : (wr.alloc (.cells #[.int .i64 k, .slice A ags.length c] 100)).grownBy w5 (Value.slice d0.A d0.evs.length d0.c).ownBlock) :
  ∃ bL, LA = some ⟨bL, 0, none⟩ ∧ n0 ≤ bL ∧ w5.cell? ⟨bL, ps.length * 2 + 1, none⟩ = some (.slice d0.A d0.evs.length d0.c) ∧ w5.frozen? ⟨bL, ps.length * 2 + 1, none⟩ = false ∧
   Turns n0 wr (w5.setCell ⟨bL, ps.length * 2 + 1, none⟩ (.slice A5 (d0.evs ++ [(⟨k, ags, A, c⟩ : Em)]).length c5)) ∧
   ((∀ a ∈ ags, a.Fits) → (-9223372036854775808 ≤ k ∧ k ≤ 9223372036854775807) → OwnT (w5.setCell ⟨bL, ps.length * 2 + 1, none⟩ (.slice A5 (d0.evs ++ [(⟨k, ags, A, c⟩ : Em)]).length c5)) n0 (.slice LA LL LC) (ps ++ [(⟨d0.tm, d0.evs ++ [(⟨k, ags, A, c⟩ : Em)], A5, c5⟩ : Pm)]) ∧ (w5.setCell ⟨bL, ps.length * 2 + 1, none⟩ (.slice A5 (d0.evs ++ [(⟨k, ags, A, c⟩ : Em)]).length c5)).ownsRow n1 100 2 (.slice A5 (d0.evs ++ [(⟨k, ags, A, c⟩ : Em)]).length c5) (d0.evs ++ [(⟨k, ags, A, c⟩ : Em)]).length (flatE (d0.evs ++ [(⟨k, ags, A, c⟩ : Em)]))) := by
 have hLL := hL.row.1.len.1
 subst hLL
 have al := (Below.refl wr.heap.size wr).alloc (Nat.le_refl _) (.cells #[.int .i64 k, .slice A ags.length c] 100)
 have hLa := hL.below al
 have hva := own_below hv al
 obtain ⟨hd0, hd0f⟩ := hLa.2 d0 (by simp)
 have hlast := own_unlike hLa.1 hd0.1 (show 51 ≠ 100 by decide)
 have hL5 := World.ownsRow.kept hLa.1 hg hlast
 have hc := flatN_at (ps ++ [d0]) ps.length d0 (by simp)
 have hlen : (flatN (ps ++ [d0])).length = ps.length * 2 + 2 := by rw [flatN_length]; simp; omega
 obtain ⟨bL, rfl, hbL, hheap⟩ : ∃ bL, LA = some ⟨bL, 0, none⟩ ∧ n0 ≤ bL ∧ ∀ cs t fz, w5.heap[bL]? = some (.cells cs t fz) → t = 51 ∨ t = 100 := by
  rcases hL5.2 with ⟨h1, h2⟩ | ⟨b, cap, cur, h1, hb, h3, _⟩
  ·simp at h2
  ·injection h1 with e1 _ _
   exact ⟨b, e1, hb, fun cs t fz q => by rw [h3] at q; injection q with q; injection q with _ e3 _; exact .inl e3.symm⟩
 have hcell := (hL5.cellAt (ps.length * 2 + 1) (by rw [← hL5.1, hlen]; omega)).trans hc.2
 have hset : (flatN (ps ++ [d0])).set (ps.length * 2 + 1) (.slice A5 (d0.evs ++ [(⟨k, ags, A, c⟩ : Em)]).length c5) = flatN (ps ++ [(⟨d0.tm, d0.evs ++ [(⟨k, ags, A, c⟩ : Em)], A5, c5⟩ : Pm)]) := by
  rw [flatN_append, flatN_append, List.set_append_right _ _ (by rw [flatN_length]; omega), flatN_length, show ps.length * 2 + 1 - ps.length * 2 = 1 by omega]
  rfl
 have hst := (hL5.stored (ps.length * 2 + 1) (.slice A5 (d0.evs ++ [(⟨k, ags, A, c⟩ : Em)]).length c5)).1
 rw [hset] at hst
 have hall : ∀ x ∈ d0.evs, OwnG w5 n0 x := fun x hx => (hd0.2 x hx).grown hd0.1 (by decide) hg
 have hvg : w5.ownsRow n0 97 3 (.slice A ags.length c) ags.length (flatG ags) := World.ownsRow.kept hva hg (own_unlike hva hd0.1 (by decide))
 have hput : ∀ {m j t : Nat} {e : TypeId} {v : Value} {us : List Value}, w5.ownsRow m e t v j us → e ≠ 51 → (w5.setCell ⟨bL, ps.length * 2 + 1, none⟩ (.slice A5 (d0.evs ++ [(⟨k, ags, A, c⟩ : Em)]).length c5)).ownsRow m e t v j us := fun h hne => World.ownsRow.kept h (grown_put _ _ _ _) (by
  rcases own_unlike h hL5 hne with q | q
  ·exact .inl q
  ·exact .inr q)
 refine ⟨bL, rfl, hbL, hcell, hL5.frozenAt _, ?_, fun hf hk => ⟨⟨?_, fun d hd => ?_⟩, hput ho (by decide)⟩⟩
 ·exact ((Turns.of_below al (by omega)).trans (Turns.grown hd0.1 (.inr rfl) hg (by rw [World.size_alloc]; omega))).trans (Turns.put hbL hheap)
 ·rw [show (ps ++ [(⟨d0.tm, d0.evs ++ [(⟨k, ags, A, c⟩ : Em)], A5, c5⟩ : Pm)]).length = (ps ++ [d0]).length by simp]
  exact hst
 ·rcases List.mem_append.1 hd with hd | hd
  ·obtain ⟨hx0, hxf⟩ := hLa.2 d (by simp [hd])
   have hne : (Value.slice d.A d.evs.length d.c).ownBlock = none ∨ (Value.slice d.A d.evs.length d.c).ownBlock ≠ (Value.slice d0.A d0.evs.length d0.c).ownBlock := by
    rcases h : (Value.slice d.A d.evs.length d.c).ownBlock with _ | i
    ·exact .inl rfl
    ·refine .inr fun q => ?_
     have h1 := hhi d hd i h
     have h2 := (World.ownsRow.lt hlo i q.symm).1
     omega
   exact ⟨⟨hput (World.ownsRow.kept hx0.1 hg hne) (by decide), fun x hx => ⟨hput (World.ownsRow.kept (hx0.2 x hx).1 hg (own_unlike (hx0.2 x hx).1 hd0.1 (by decide))) (by decide), (hx0.2 x hx).2⟩⟩, hxf⟩
  ·rw [List.mem_singleton.1 hd]
   refine ⟨⟨own_base (hput ho (by decide)) hn0, fun x hx => ?_⟩, hd0f⟩
   rcases List.mem_append.1 hx with hx | hx
   ·exact ⟨hput (hall x hx).1 (by decide), (hall x hx).2⟩
   ·rw [List.mem_singleton.1 hx]
    exact ⟨hput hvg (by decide), hf, hk⟩
end
section
variable {w w' w6 wf : World} {n g : Nat}
theorem Turns.then (h : Turns n w w6) (hg : w6.grownBy wf (some g)) (hw : w.heap.size ≤ g) (hn : n ≤ w.heap.size) : Turns n w wf := by
 refine ⟨⟨hg.os.trans h.1.os, hg.tape.trans h.1.tape, hg.output.trans h.1.output, Nat.le_trans h.1.size hg.size, fun k hk => ?_⟩, Nat.le_trans h.2.1 hg.size, fun k cs t fz q a b => ?_⟩
 ·exact (hg.block k (by have := h.2.1; omega) (fun e => by injection e with e; omega)).trans (h.1.block k hk)
 ·have hk := (Array.getElem?_eq_some_iff.1 q).1
  have q6 := h.2.2 k cs t fz q a b
  exact (hg.block k (Array.getElem?_eq_some_iff.1 q6).1 (fun e => by injection e with e; omega)).trans q6
theorem OwnT.aside {v : Value} {ps : List Pm} {t : TypeId} {cs : Array Value} (h : OwnT w n v ps) (hh : Held w g t cs) (h1 : 51 ≠ t) (h2 : 100 ≠ t) (h3 : 97 ≠ t) (hg : w.grownBy w' (some g)) : OwnT w' n v ps :=
 ⟨World.ownsRow.kept h.1 hg (.inr (fun e => own_not_held h.1 hh h1 e.symm)), fun d hd => ⟨⟨World.ownsRow.kept (h.2 d hd).1.1 hg (.inr (fun e => own_not_held (h.2 d hd).1.1 hh h2 e.symm)), fun x hx => ⟨World.ownsRow.kept ((h.2 d hd).1.2 x hx).1 hg (.inr (fun e => own_not_held ((h.2 d hd).1.2 x hx).1 hh h3 e.symm)), ((h.2 d hd).1.2 x hx).2⟩⟩, (h.2 d hd).2⟩⟩
end
def PEvGot (w : World) (n0 n1 : Nat) (xs : List Int) (R : Ev × Nat × Int) (TA : Option Addr) (TL TC : Nat) (LA : Option Addr) (LL LC : Nat) (ps : List Pm) (d0 : Pm) (r : Ending) (w' : World) : Prop :=
 ∃ q E n, r = .returned (PV xs q E TA TL TC LA LL LC n) ∧ q ≤ xs.length ∧ E = R.2.2 ∧ (E = 0 → q = R.2.1 ∧ ∃ d1 : Pm, OwnT w' n0 (.slice LA LL LC) (ps ++ [d1]) ∧ d1.tm = d0.tm ∧ d1.evs.map (·.e) = d0.evs.map (·.e) ++ [R.1] ∧ w'.ownsRow n1 100 2 (.slice d1.A d1.evs.length d1.c) d1.evs.length (flatE d1.evs)) ∧ Turns n0 w w'
theorem pevent_any {w : World} {n0 n1 : Nat} {xs : List Int} {D : List (List Int)} {p : Nat} {TA LA : Option Addr} {TC LC : Nat} {n : Int} {ds : List Pd} (sA : Option Addr) (sc : Nat) {ps : List Pm} {d0 : Pm} (hp : p ≤ xs.length) (hl : xs.length ≤ 1000000) (hb : ∀ x ∈ xs, 0 ≤ x ∧ x < 256)
  (hT : ERow w w.heap.size (.slice TA D.length TC) D.length (strVs D)) (hDl : D.length ≤ 4096) (hD : Tx200 D) (hL : OwnT w n0 (.slice LA (ps.length + 1) LC) (ps ++ [d0])) (hpl : ps.length ≤ 1024) (hel : d0.evs.length ≤ 1024) (hn0 : n0 ≤ n1) (hn1 : n1 ≤ w.heap.size)
  (hlo : w.ownsRow n1 100 2 (.slice d0.A d0.evs.length d0.c) d0.evs.length (flatE d0.evs)) (hhi : ∀ d ∈ ps, ∀ i, (Value.slice d.A d.evs.length d.c).ownBlock = some i → i < n1)
  (hS : PredRow w w.heap.size (.slice sA ds.length sc) ds) (hck : checkP (ds.map (·.p)) = 0) :
  Calls Tryz.prog 103 #[PV xs p 0 TA D.length TC LA (ps.length + 1) LC n, .slice sA ds.length sc] w (PEvGot w n0 n1 xs (evU (ds.map (·.p)) D xs p 0) TA D.length TC LA (ps.length + 1) LC ps d0) := by
 obtain ⟨B, hB⟩ : ∃ B, w.heap.size = B := ⟨_, rfl⟩
 obtain ⟨hsl, hsm⟩ := check_small hck
 rw [List.length_map] at hsl
 obtain ⟨hsc1, hsc2⟩ : ds.length ≤ sc ∧ sc ≤ 9223372036854775807 := by
  obtain ⟨A', c', hv, q1, q2⟩ := hS.form
  injection hv with _ _ e3
  exact ⟨by omega, by omega⟩
 obtain ⟨-, htc1, htc2⟩ := hT.len
 obtain ⟨-, hlc1, hlc2⟩ := hL.row.1.len
 have hhe := evU_err (xs := xs) (p := p) (e := 0) (D := D) (sig := ds.map (·.p))
 have HNUM := hid (fun W => pnum_any (TA := TA) (TL := D.length) (TC := TC) (LA := LA) (LL := ps.length + 1) (LC := LC) (n := n) (m := m64) (e := 0) (w := W) hp hl hb)
 unfold m64 at HNUM
 obtain ⟨⟨N, hN, _, hN64⟩, _, hq⟩ := nx_range (e := 0) hb (m := m64) (by decide) hp
 have hev : evU (ds.map (·.p)) D xs p 0 = if (ds.length : Int) ≤ (nx m64 xs p 0).1 then (⟨0, []⟩, (nx m64 xs p 0).2.1, stU (nx m64 xs p 0).2.2 9)
   else (⟨(nx m64 xs p 0).1, (argsU D ((List.map (fun x : Pd => x.p) ds).getD (nx m64 xs p 0).1.toNat default).args xs (nx m64 xs p 0).2 ((List.map (fun x : Pd => x.p) ds).getD (nx m64 xs p 0).1.toNat default).args.length).1⟩, (argsU D ((List.map (fun x : Pd => x.p) ds).getD (nx m64 xs p 0).1.toNat default).args xs (nx m64 xs p 0).2 ((List.map (fun x : Pd => x.p) ds).getD (nx m64 xs p 0).1.toNat default).args.length).2) := by unfold evU; rw [List.length_map]
 change Hid (∀ W, Calls _ _ _ W _) at HNUM
 have hnm : nx 18446744073709551615 xs p 0 = nx m64 xs p 0 := rfl
 rw [hnm] at HNUM
 clear hnm
 generalize nx m64 xs p 0 = t at HNUM hN hq hhe hev
 obtain ⟨Ni, q, e2⟩ := t
 simp only at hN hq hhe hev HNUM
 subst hN
 rw [Int.toNat_natCast] at hev
 have hHB : ∀ (o1 : Array Value) (cs : Array Value), Held ((w.alloc (.cells o1 111)).alloc (.cells cs 111)) B 111 o1 ∧ Held ((w.alloc (.cells o1 111)).alloc (.cells cs 111)) (B + 1) 111 cs := fun o1 cs => by
  have h : Held ((w.alloc (.cells o1 111)).alloc (.cells cs 111)) (w.alloc (.cells o1 111)).heap.size 111 cs := heap_alloc_new _ _
  have h1 : Held (w.alloc (.cells o1 111)) w.heap.size 111 o1 := heap_alloc_new _ _
  rw [World.size_alloc, hB] at h
  rw [hB] at h1
  exact ⟨h1.below ((Below.refl _ _).alloc (Nat.le_refl _) _) h1.lt, h⟩
 have hbl : ∀ (o1 o2 : Obj), Below B w ((w.alloc o1).alloc o2) ∧ ((w.alloc o1).alloc o2).heap.size = B + 2 := fun o1 o2 => ⟨((Below.refl _ _).alloc (by omega) _).alloc (by rw [World.size_alloc]; omega) _, by rw [World.size_alloc, World.size_alloc, hB]⟩
 have HHB := hid hHB
 have HBL := hid hbl
 clear hHB hbl
 by_cases he2 : e2 = 0
 ·subst he2
  clear hhe
  have HN0B : Hid (n0 ≤ B) := hid (by omega)
  by_cases hlt : ds.length ≤ N
  ·rw [if_pos (by omega)] at hev
   have hli : (ds.length : Int) ≤ (N : Int) := by omega
   have hcv : IntKind.u64.wrap (ds.length : Int) = (ds.length : Int) := IntWalk.u64_in _ (by omega)
   have HEE := hid (show (evU (ds.map (·.p)) D xs p 0).2.2 = 9 by rw [hev]; rfl)
   have HBAD := hid (fun W => pbad_any (xs := xs) (p := q) (e := 0) (TA := TA) (TL := D.length) (TC := TC) (LA := LA) (LL := ps.length + 1) (LC := LC) (n := (N : Int)) (w := W) 9)
   rw [stU_zero] at HBAD
   clear hev hsm hck hS hlo hhi hL hD hT
   unfold PEvGot
   generalize evU (ds.map (·.p)) D xs p 0 = R at HEE ⊢
   generalize ds.length = m at *
   go_enter Tryz.func103, Tryz.ntmps103
   go_wp2_with fail
   refine (HNUM.out _).mono ?_
   rintro r w1 ⟨rfl, hb1⟩
   obtain ⟨q1, q2⟩ := HHB.out (PC xs p 0 TA D.length TC LA (ps.length + 1) LC n) zeroPC
   obtain ⟨q3, q4⟩ := HBL.out (.cells (PC xs p 0 TA D.length TC LA (ps.length + 1) LC n) 111) (.cells zeroPC 111)
   have hs1 := hb1.size
   rw [q4] at hb1 hs1
   have h1 := q1.below hb1 (by omega)
   have r1 := q2.below hb1 (by omega)
   have bl1 := q3.trans (hb1.mono (by omega))
   obtain ⟨⟨f0, f1, f2, f3, f4, f5⟩, c0, c1, c2, c3, c4, c5⟩ := cG6 h1
   simp at c0 c1 c2 c3 c4 c5
   obtain ⟨⟨d0', d1, d2, d3, d4, d5⟩, e0, e1, e2', e3, e4, e5⟩ := cG6 r1
   simp at e0 e1 e2' e3 e4 e5
   have h4 := held_put6 h1 (.string (strOfNums xs)) (.int .i64 q) (.int .i64 0) (.slice TA D.length TC) (.slice LA (ps.length + 1) LC) (.int .u64 N)
   have r4 := r1.grown (grown_put6 w1 B (.string (strOfNums xs)) (.int .i64 q) (.int .i64 0) (.slice TA D.length TC) (.slice LA (ps.length + 1) LC) (.int .u64 N)) (by simp)
   have bl4 := bl1.grown (grown_put6 w1 B (.string (strOfNums xs)) (.int .i64 q) (.int .i64 0) (.slice TA D.length TC) (.slice LA (ps.length + 1) LC) (.int .u64 N)) (by omega) (fun j e => by injection e with e; omega)
   clear h1 r1 bl1 q1 q2 q3 q4 hb1
   have HR4 := hid r4
   have HBL4 := hid bl4
   clear h4 r4 bl4
   go_wp2_with fail
   refine (HBAD.out _).mono ?_
   rintro r w2 ⟨rfl, hb2⟩
   have r5 := HR4.out.below hb2 HR4.out.lt
   have bl5 := HBL4.out.trans (hb2.mono (by have := HBL4.out.size; omega))
   obtain ⟨⟨g0, g1, g2, g3, g4, g5⟩, k0, k1, k2, k3, k4, k5⟩ := cG6 r5
   simp at k0 k1 k2 k3 k4 k5
   have HZ := hid (held_put6 r5 (.string (strOfNums xs)) (.int .i64 q) (.int .i64 9) (.slice TA D.length TC) (.slice LA (ps.length + 1) LC) (.int .u64 N))
   have HBE := hid (bl5.grown (grown_put6 w2 (B + 1) (.string (strOfNums xs)) (.int .i64 q) (.int .i64 9) (.slice TA D.length TC) (.slice LA (ps.length + 1) LC) (.int .u64 N)) (by have := r5.lt; omega) (fun j e => by injection e with e; omega))
   clear r5 bl5 hb2
   go_wp2_with fail
   generalize ((((((w2.setCell ⟨(B + 1), 0, none⟩ (.string (strOfNums xs))).setCell ⟨(B + 1), 1, none⟩ (.int .i64 q)).setCell ⟨(B + 1), 2, none⟩ (.int .i64 9)).setCell ⟨(B + 1), 3, none⟩ (.slice TA D.length TC)).setCell ⟨(B + 1), 4, none⟩ (.slice LA (ps.length + 1) LC)).setCell ⟨(B + 1), 5, none⟩ (.int .u64 N)) = wf at HZ HBE ⊢
   refine bodyPost_ret (v := PV xs q 9 TA D.length TC LA (ps.length + 1) LC N) ?_ ?_ ?_
   ·exact res_event (by simp only [pV]) HZ.out
   ·rfl
   ·exact ⟨q, 9, N, rfl, hq, HEE.out.symm, fun h => absurd h (by decide), Turns.of_below (by rw [hB]; exact HBE.out) (by rw [hB]; exact HN0B.out)⟩
  ·rw [if_neg (by omega)] at hev
   have hltn : N < ds.length := by omega
   obtain ⟨d, hd⟩ : ∃ d, ds[N]? = some d := ⟨_, List.getElem?_eq_getElem hltn⟩
   have hdp : (List.map (fun x : Pd => x.p) ds).getD N default = d.p := by simp [List.getD, hd]
   rw [hdp] at hev
   obtain ⟨_, hargs, _, _⟩ := hsm d.p (List.mem_map.2 ⟨d, List.mem_of_getElem? hd, rfl⟩)
   obtain ⟨b, o, rfl, hbs, _, hsc, hir, hfit, qc1, qc2⟩ := hS.at hd
   have hrg := fun j => argsU_range (p := q) (e := 0) (D := D) (ts := d.p.args) hb hfit.2.2 hD hq j
   have hli : ¬ (ds.length : Int) ≤ (N : Int) := by omega
   have hli2 : (N : Int) < (ds.length : Int) := by omega
   have hcv : IntKind.u64.wrap (ds.length : Int) = (ds.length : Int) := IntWalk.u64_in _ (by omega)
   have hcv2 : IntKind.i64.wrap (N : Int) = (N : Int) := IntWalk.i64_in _ (by omega)
   have hln := hlt
   rw [hB] at hbs
   obtain ⟨F, hF⟩ : ∃ F : Nat → List Ag × Nat × Int, argsU D d.p.args xs (q, 0) = F := ⟨_, rfl⟩
   have HF0 := hid (show F 0 = ([], q, 0) by rw [← hF]; rfl)
   have HFS := hid (fun j => show F (j + 1) = ((F j).1 ++ [(argU D (d.p.args.getD j 0) xs (F j).2.1 (F j).2.2).1], (argU D (d.p.args.getD j 0) xs (F j).2.1 (F j).2.2).2) by rw [← hF]; rfl)
   have HFP := hid (fun j => show (F j).2.1 ≤ xs.length by rw [← hF]; exact (hrg j).2)
   have HFF := hid (fun j => show ∀ a ∈ (F j).1, a.Fits by rw [← hF]; exact (hrg j).1)
   have HFZ := hid (fun j (h : (F (j + 1)).2.2 = 0) => show (F j).2.2 = 0 from by
    rw [← hF] at h ⊢
    exact stepsU_zero (f := fun j s => argU D (d.p.args.getD j 0) xs s.1 s.2) (er := fun s : Nat × Int => s.2) (fun j s hs => by rw [argU_stop hs]) (Nat.le_succ j) h)
   rw [hF] at hev
   obtain ⟨m, hm⟩ : ∃ m, d.p.args.length = m := ⟨_, rfl⟩
   rw [hm] at hargs hev qc1 hsc
   have HEV := hid (show evU (ds.map (·.p)) D xs p 0 = (⟨(N : Int), (F m).1⟩, (F m).2) from hev)
   have HIR := hid hir
   have HDM := hid hm
   obtain ⟨dA, hdA⟩ : ∃ x, d.A = x := ⟨_, rfl⟩
   rw [hdA] at hsc
   have HDA := hid hdA
   obtain ⟨dc, hdc⟩ : ∃ x, d.c = x := ⟨_, rfl⟩
   rw [hdc] at hsc qc1 qc2
   have HDC := hid hdc
   have HT := hid hT
   have HL := hid hL
   have HLO := hid hlo
   have HHI := hid hhi
   have HBY := hid hb
   have HBB := hid hB
   clear hev hsm hck hS hlo hhi hL hD hT hrg hF hdp hd hfit hir hlt hm hdA hdc
   generalize evU (ds.map (·.p)) D xs p 0 = R at HEV ⊢
   obtain ⟨ig, hig, hg0, hg1, hg2⟩ := info_parts Tryz.infoArg
   obtain ⟨iv, hiv, hv0, hv1, hv2⟩ := info_parts Tryz.infoEvent
   go_enter Tryz.func103, Tryz.ntmps103
   go_wp2_with fail
   refine (HNUM.out _).mono ?_
   rintro r w1 ⟨rfl, hb1⟩
   obtain ⟨q1, q2⟩ := HHB.out (PC xs p 0 TA D.length TC LA (ps.length + 1) LC n) zeroPC
   obtain ⟨q3, q4⟩ := HBL.out (.cells (PC xs p 0 TA D.length TC LA (ps.length + 1) LC n) 111) (.cells zeroPC 111)
   have hs1 := hb1.size
   rw [q4] at hb1 hs1
   have h1 := q1.below hb1 (by omega)
   have r1 := q2.below hb1 (by omega)
   have bl1 := q3.trans (hb1.mono (by omega))
   obtain ⟨⟨f0, f1, f2, f3, f4, f5⟩, c0, c1, c2, c3, c4, c5⟩ := cG6 h1
   simp at c0 c1 c2 c3 c4 c5
   obtain ⟨⟨d0', d1, d2, d3, d4, d5⟩, e0, e1, e2', e3, e4, e5⟩ := cG6 r1
   simp at e0 e1 e2' e3 e4 e5
   have h4 := held_put6 h1 (.string (strOfNums xs)) (.int .i64 q) (.int .i64 0) (.slice TA D.length TC) (.slice LA (ps.length + 1) LC) (.int .u64 N)
   have r4 := r1.grown (grown_put6 w1 B (.string (strOfNums xs)) (.int .i64 q) (.int .i64 0) (.slice TA D.length TC) (.slice LA (ps.length + 1) LC) (.int .u64 N)) (by simp)
   have bl4 := bl1.grown (grown_put6 w1 B (.string (strOfNums xs)) (.int .i64 q) (.int .i64 0) (.slice TA D.length TC) (.slice LA (ps.length + 1) LC) (.int .u64 N)) (by omega) (fun j e => by injection e with e; omega)
   clear h1 r1 bl1 q1 q2 q3 q4 hb1
   have hgp := grown_put6 w1 B (.string (strOfNums xs)) (.int .i64 q) (.int .i64 0) (.slice TA D.length TC) (.slice LA (ps.length + 1) LC) (.int .u64 N)
   have hsg : (((((((w1.setCell ⟨B, 0, none⟩ (.string (strOfNums xs))).setCell ⟨B, 1, none⟩ (.int .i64 q)).setCell ⟨B, 2, none⟩ (.int .i64 0)).setCell ⟨B, 3, none⟩ (.slice TA D.length TC)).setCell ⟨B, 4, none⟩ (.slice LA (ps.length + 1) LC)).setCell ⟨B, 5, none⟩ (.int .u64 N))).cell? ⟨b, o + N * 2 + 1, none⟩ = some (.slice dA m dc) := (bl4.cell (p := ⟨b, o + N * 2 + 1, none⟩) hbs).trans hsc
   have hb1w : b < w1.heap.size := by omega
   obtain ⟨E1, hE1'⟩ : ∃ E1, w1.heap.size = E1 := ⟨_, rfl⟩
   have hbE : b < E1 := by omega
   have hE1 : B + 1 < E1 := by omega
   have al := (Below.refl (((((((w1.setCell ⟨B, 0, none⟩ (.string (strOfNums xs))).setCell ⟨B, 1, none⟩ (.int .i64 q)).setCell ⟨B, 2, none⟩ (.int .i64 0)).setCell ⟨B, 3, none⟩ (.slice TA D.length TC)).setCell ⟨B, 4, none⟩ (.slice LA (ps.length + 1) LC)).setCell ⟨B, 5, none⟩ (.int .u64 N))).heap.size (((((((w1.setCell ⟨B, 0, none⟩ (.string (strOfNums xs))).setCell ⟨B, 1, none⟩ (.int .i64 q)).setCell ⟨B, 2, none⟩ (.int .i64 0)).setCell ⟨B, 3, none⟩ (.slice TA D.length TC)).setCell ⟨B, 4, none⟩ (.slice LA (ps.length + 1) LC)).setCell ⟨B, 5, none⟩ (.int .u64 N)))).alloc (Nat.le_refl _) (.cells #[.int .i64 N, .slice none 0 0] 100)
   have HPV := hid (show PvAt w B E1 xs TA D.length TC LA (ps.length + 1) LC N N none 0 [] q 0 ((((((((w1.setCell ⟨B, 0, none⟩ (.string (strOfNums xs))).setCell ⟨B, 1, none⟩ (.int .i64 q)).setCell ⟨B, 2, none⟩ (.int .i64 0)).setCell ⟨B, 3, none⟩ (.slice TA D.length TC)).setCell ⟨B, 4, none⟩ (.slice LA (ps.length + 1) LC)).setCell ⟨B, 5, none⟩ (.int .u64 N))).alloc (.cells #[.int .i64 N, .slice none 0 0] 100)) from
    ⟨h4.below al h4.lt, r4.below al r4.lt, by have h := heap_alloc_new (((((((w1.setCell ⟨B, 0, none⟩ (.string (strOfNums xs))).setCell ⟨B, 1, none⟩ (.int .i64 q)).setCell ⟨B, 2, none⟩ (.int .i64 0)).setCell ⟨B, 3, none⟩ (.slice TA D.length TC)).setCell ⟨B, 4, none⟩ (.slice LA (ps.length + 1) LC)).setCell ⟨B, 5, none⟩ (.int .u64 N))) (.cells #[.int .i64 N, .slice none 0 0] 100); rw [show (((((((w1.setCell ⟨B, 0, none⟩ (.string (strOfNums xs))).setCell ⟨B, 1, none⟩ (.int .i64 q)).setCell ⟨B, 2, none⟩ (.int .i64 0)).setCell ⟨B, 3, none⟩ (.slice TA D.length TC)).setCell ⟨B, 4, none⟩ (.slice LA (ps.length + 1) LC)).setCell ⟨B, 5, none⟩ (.int .u64 N))).heap.size = E1 by simp [hE1']] at h; exact h, World.ownsRow_nil _ _ _ _, bl4.alloc (by have := h4.lt; omega) _⟩)
   clear h4 r4 bl4 hgp al
   go_wp2_with fail
   generalize (((((((w1.setCell ⟨B, 0, none⟩ (.string (strOfNums xs))).setCell ⟨B, 1, none⟩ (.int .i64 q)).setCell ⟨B, 2, none⟩ (.int .i64 0)).setCell ⟨B, 3, none⟩ (.slice TA D.length TC)).setCell ⟨B, 4, none⟩ (.slice LA (ps.length + 1) LC)).setCell ⟨B, 5, none⟩ (.int .u64 N))).alloc (.cells #[.int .i64 N, .slice none 0 0] 100) = w4 at HPV ⊢
   clear f0 f1 f2 f3 f4 f5 c0 c1 c2 c3 c4 c5 d0' d1 d2 d3 d4 d5 e0 e1 e2' e3 e4 e5 hsg hb1w hbE hE1' hs1
   go_loopg [7] m (fun gk i wr => ∃ (j : Nat) (A3 : Option Addr) (c3 : Nat) (ags : List Ag) (nk : Int), j ≤ m ∧ i = .int .i64 j ∧ Hid (m - j = gk) ∧ Hid (ags.length = j) ∧ Hid (PvAt w B E1 xs TA D.length TC LA (ps.length + 1) LC N nk A3 c3 ags (F j).2.1 (F j).2.2 wr) ∧ Hid ((F j).2.2 = 0 → ags = (F j).1))
   case atStart => exact ⟨0, none, 0, [], N, Nat.zero_le _, rfl, hid rfl, hid rfl, hid (by rw [HF0.out]; exact HPV.out), hid (by rw [HF0.out]; exact fun _ => rfl)⟩
   case round =>
    obtain ⟨j, A3, c3, ags, nk, hj, rfl, HGK, HAL, HPV, HDT⟩ := hrel
    have hpv := HPV.out
    by_cases hlj : j < m
    ·obtain ⟨b2, o2, hA2, hbb2, hct0⟩ := HIR.out.at (i := j) (by rw [HDM.out]; exact hlj)
     rw [HDA.out] at hA2
     subst hA2
     rw [HBB.out] at hbb2
     obtain ⟨t, htv⟩ : ∃ t, d.p.args.getD j 0 = t := ⟨_, rfl⟩
     rw [htv] at hct0
     have hct : wr.cell? ⟨b2, o2 + j, none⟩ = some (.int .i64 t) := (hpv.bel.cell (p := ⟨b2, o2 + j, none⟩) hbb2).trans hct0
     have hnext := HFS.out j
     rw [htv] at hnext
     unfold argU txtU at hnext
     rw [sx_nx HBY.out] at hnext
     have HST := hid (HFZ.out j)
     have hjq := HFP.out j
     have hagl : ags.length ≤ 8 := by rw [HAL.out]; omega
     have HNU2 := hid (fun W => (show Calls Tryz.prog 50 #[PV xs (F j).2.1 (F j).2.2 TA D.length TC LA (ps.length + 1) LC nk, .int .u64 18446744073709551615] W _ from pnum_any (m := m64) (TA := TA) (TL := D.length) (TC := TC) (LA := LA) (LL := ps.length + 1) (LC := LC) (n := nk) (e := (F j).2.2) (w := W) hjq hl HBY.out))
     obtain ⟨⟨N3, hN3, _, hN364⟩, _, hq3⟩ := nx_range (e := (F j).2.2) HBY.out (m := m64) (by decide) hjq
     generalize nx m64 xs (F j).2.1 (F j).2.2 = t3 at HNU2 hN3 hq3 hnext
     obtain ⟨N3i, q3, e3⟩ := t3
     simp only at hN3 hq3 hnext HNU2
     subst hN3
     rw [Int.toNat_natCast] at hnext
     obtain ⟨z0, z1, z2, z3, z4, z5⟩ := cC6 hpv.box
     simp at z0 z1 z2 z3 z4 z5
     clear hct0 htv
     have HNJ := hid (show F j = ((F j).1, (F j).2.1, (F j).2.2) from rfl)
     by_cases h1 : t = 1
     ·subst h1
      rw [if_pos rfl] at hnext
      have HNX := hid hnext
      clear hnext
      go_wp2_with fail
      refine (HNU2.out _).mono ?_
      rintro rr w2 ⟨rfl, hb2⟩
      have hbw := hb2
      have hx1 := hpv.box.below hb2 hpv.box.lt
      have hx2 := hpv.res.below hb2 hpv.res.lt
      have hx3 := hpv.ev.below hb2 hpv.ev.lt
      have hbl2 := hpv.bel.trans (hb2.mono (by have := hpv.box.lt; omega))
      obtain ⟨⟨f0, f1, f2, f3, f4, f5⟩, i0, i1, i2, i3', i4, i5⟩ := cG6 hx1
      simp at i0 i1 i2 i3' i4 i5
      obtain ⟨nb, hnb⟩ : ∃ nb, ((((((w2.setCell ⟨B, 0, none⟩ (.string (strOfNums xs))).setCell ⟨B, 1, none⟩ (.int .i64 q3)).setCell ⟨B, 2, none⟩ (.int .i64 e3)).setCell ⟨B, 3, none⟩ (.slice TA D.length TC)).setCell ⟨B, 4, none⟩ (.slice LA (ps.length + 1) LC)).setCell ⟨B, 5, none⟩ (.int .u64 N3)) = nb := ⟨_, rfl⟩
      obtain ⟨V2, hV2⟩ : ∃ V2, w2.heap.size = V2 := ⟨_, rfl⟩
      have y1 : Held nb B 111 (PC xs q3 e3 TA D.length TC LA (ps.length + 1) LC N3) := by rw [← hnb]; exact held_put6 hx1 _ _ _ _ _ _
      have hgp : w2.grownBy nb (some B) := by rw [← hnb]; exact grown_put6 w2 B _ _ _ _ _ _
      have hnz : nb.heap.size = V2 := by rw [← hnb]; simp only [World.size_setCell]; exact hV2
      have hxl := hx1.lt
      have hxl3 := hx3.lt
      have hvl := hpv.box.lt
      have hsw := hbw.size
      have y3 := hx3.grown hgp (by intro e; injection e with e; omega)
      have hbl3 := hbl2.grown hgp (by omega) (fun j e => by injection e with e; omega)
      have ct3 : nb.cell? ⟨b2, o2 + j, none⟩ = some (.int .i64 1) := (World.cell?_of_block (hgp.block b2 (by omega) (fun e => by injection e with e; omega))).trans ((hbw.cell (p := ⟨b2, o2 + j, none⟩) (by simp only; omega)).trans hct)
      obtain ⟨p0, p1⟩ := cC2 y3
      have pf := y3.frozen 1
      simp at p0 p1
      have hb2w : b2 < w2.heap.size := by omega
      have hEV : E1 < V2 := by omega
      have hbV : b2 < V2 := by omega
      have hBV : B < V2 := by omega
      have HUF := hid (fun W => runfold_any (N3 : Int) (by omega) (by omega) W)
      obtain ⟨wa, hwa⟩ : ∃ wa, nb.alloc (.cells #[.int .i64 1, .int .i64 (unfoldI N3), .string ⟨#[]⟩] 97) = wa := ⟨_, rfl⟩
      have al : Below nb.heap.size nb wa := by rw [← hwa]; exact (Below.refl _ _).alloc (Nat.le_refl _) _
      have alz : wa.heap.size = V2 + 1 := by rw [← hwa, World.size_alloc, hnz]
      have HMO := hid (fun (A5 : Option Addr) (c5 : Nat) (w5 : World) ho hg => PvAt.more (A5 := A5) (c5 := c5) (w5 := w5) (a := (⟨1, unfoldI N3, []⟩ : Ag)) (q' := q3) (e' := e3) (n' := (N3 : Int)) (wa := wa) hpv hE1 hbw (fun g h1 h2 => (al.block g (by omega)).trans (hgp.block g (by omega) (fun e => by injection e with e; omega))) (by omega) (y1.below al y1.lt) (hbl3.trans (al.mono (by omega))) ho hg)
      have HOA := hid (show wa.ownsRow B 97 3 (.slice A3 ags.length c3) ags.length (flatG ags) from own_below (World.ownsRow.kept (own_below hpv.own hbw) hgp (.inr (fun e => own_not_held (own_below hpv.own hbw) hx1 (by decide) e.symm))) al)
      have HEW := hid (show ERow (wa.alloc (.cells #[.int .i64 1, .int .i64 (unfoldI N3), .string ⟨#[]⟩] 97)) (V2 + 2) (.slice (some ⟨V2 + 1, 0, none⟩) 1 1) 1 (flatG [(⟨1, unfoldI N3, []⟩ : Ag)]) from ERow.held (t := 97) (by have h := heap_alloc_new wa (.cells #[.int .i64 1, .int .i64 (unfoldI N3), .string ⟨#[]⟩] 97); rw [alz] at h; exact h) (by omega) (by unfold maxLen; omega))
      clear al alz hx1 hx2 hx3 hbl2 hbl3 hgp y1 y3 hb2 hpv hnz hxl hxl3 hvl hsw
      subst hwa hnb
      go_wp2_with fail
      refine (HUF.out _).mono ?_
      rintro rr w3 ⟨rfl, rfl⟩
      go_wp2_with (at_builtin; refine wpList_append_erow _ rfl _ _ 98 97 rfl B ig _ 3 32 Tryz.underlying98 hig hg0 hg1 hg2 rfl (by decide) (.slice A3 ags.length c3) ags.length (flatG ags) rfl (HOA.out.alloc _) (V2 + 2) (.slice (some ⟨V2 + 1, 0, none⟩) 1 1) 1 (flatG [(⟨1, unfoldI N3, []⟩ : Ag)]) (by rfl) HEW.out (flatG_length _) (oneG _) (by unfold maxLen; omega) (by omega) (by simp; omega) (ags ++ [(⟨1, unfoldI N3, []⟩ : Ag)]).length (by simp) (flatG (ags ++ [(⟨1, unfoldI N3, []⟩ : Ag)])) (by rw [flatG_append]) ?_; intro A5 c5 w5 hO5 hg5 _; obtain ⟨hmore, hE5⟩ := HMO.out A5 c5 w5 hO5 hg5; have l1 := hE5.cell 1; have lf := hE5.frozen 1; simp at l1)
      have HMORE := hid hmore
      clear hO5 hg5 hmore hE5 l1 lf
      go_roundg (m - (j + 1))
      case measure => have := HGK.out; omega
      case rel => exact ⟨j + 1, A5, c5, ags ++ [(⟨1, unfoldI N3, []⟩ : Ag)], N3, by omega, by go_num, hid rfl, hid (by rw [List.length_append, HAL.out]; rfl), hid (by rw [HNX.out]; have h := HMORE.out; simp only [pW] at h; exact h), hid (by intro hz; have h2 := HDT.out (HST.out hz); rw [HNX.out, h2])⟩
     ·rw [if_neg h1] at hnext
      have hn1 : (t == 1) = false := beq_eq_false_iff_ne.2 h1
      by_cases he3 : e3 = 0
      ·subst he3
       by_cases hlD : D.length ≤ N3
       ·rw [if_pos (by omega), stU_zero] at hnext
        have HNX := hid hnext
        have hcvD : IntKind.u64.wrap (D.length : Int) = (D.length : Int) := IntWalk.u64_in _ (by omega)
        have hlDi : (D.length : Int) ≤ (N3 : Int) := by omega
        have HBD := hid (fun W => pbad_any (xs := xs) (p := q3) (e := 0) (TA := TA) (TL := D.length) (TC := TC) (LA := LA) (LL := ps.length + 1) (LC := LC) (n := (N3 : Int)) (w := W) 10)
        rw [stU_zero] at HBD
        clear hnext
        go_wp2_with fail
        refine (HNU2.out _).mono ?_
        rintro rr w2 ⟨rfl, hb2⟩
        have hbw := hb2
        have hx1 := hpv.box.below hb2 hpv.box.lt
        have hx2 := hpv.res.below hb2 hpv.res.lt
        have hx3 := hpv.ev.below hb2 hpv.ev.lt
        have hbl2 := hpv.bel.trans (hb2.mono (by have := hpv.box.lt; omega))
        obtain ⟨⟨f0, f1, f2, f3, f4, f5⟩, i0, i1, i2, i3', i4, i5⟩ := cG6 hx1
        simp at i0 i1 i2 i3' i4 i5
        obtain ⟨nb, hnb⟩ : ∃ nb, ((((((w2.setCell ⟨B, 0, none⟩ (.string (strOfNums xs))).setCell ⟨B, 1, none⟩ (.int .i64 q3)).setCell ⟨B, 2, none⟩ (.int .i64 0)).setCell ⟨B, 3, none⟩ (.slice TA D.length TC)).setCell ⟨B, 4, none⟩ (.slice LA (ps.length + 1) LC)).setCell ⟨B, 5, none⟩ (.int .u64 N3)) = nb := ⟨_, rfl⟩
        obtain ⟨V2, hV2⟩ : ∃ V2, w2.heap.size = V2 := ⟨_, rfl⟩
        have y1 : Held nb B 111 (PC xs q3 0 TA D.length TC LA (ps.length + 1) LC N3) := by rw [← hnb]; exact held_put6 hx1 _ _ _ _ _ _
        have hgp : w2.grownBy nb (some B) := by rw [← hnb]; exact grown_put6 w2 B _ _ _ _ _ _
        have hnz : nb.heap.size = V2 := by rw [← hnb]; simp only [World.size_setCell]; exact hV2
        have hxl := hx1.lt
        have hxl3 := hx3.lt
        have hvl := hpv.box.lt
        have hsw := hbw.size
        have y3 := hx3.grown hgp (by intro e; injection e with e; omega)
        have hbl3 := hbl2.grown hgp (by omega) (fun j e => by injection e with e; omega)
        have ct3 : nb.cell? ⟨b2, o2 + j, none⟩ = some (.int .i64 t) := (World.cell?_of_block (hgp.block b2 (by omega) (fun e => by injection e with e; omega))).trans ((hbw.cell (p := ⟨b2, o2 + j, none⟩) (by simp only; omega)).trans hct)
        obtain ⟨p0, p1⟩ := cC2 y3
        have pf := y3.frozen 1
        simp at p0 p1
        have hb2w : b2 < w2.heap.size := by omega
        have hEV : E1 < V2 := by omega
        have hbV : b2 < V2 := by omega
        have hBV : B < V2 := by omega
        obtain ⟨wv, hwv⟩ : ∃ wv, nb.alloc (.cells #[.int .i64 t, .int .i64 0, .string ⟨#[]⟩] 97) = wv := ⟨_, rfl⟩
        have al : Below nb.heap.size nb wv := by rw [← hwv]; exact (Below.refl _ _).alloc (Nat.le_refl _) _
        have alz : wv.heap.size = V2 + 1 := by rw [← hwv, World.size_alloc, hnz]
        have hva : Held wv V2 97 #[.int .i64 t, .int .i64 0, .string ⟨#[]⟩] := by rw [← hwv, ← hnz]; exact heap_alloc_new nb _
        have Y1 := hid (y1.below al y1.lt)
        have Y3 := hid (y3.below al y3.lt)
        have HVA := hid hva
        have HUP := hid (fun (g : Nat) (h1 : g < wr.heap.size) (h2 : g ≠ B) => show wv.heap[g]? = w2.heap[g]? from (al.block g (by omega)).trans (hgp.block g (by omega) (fun e => by injection e with e; omega)))
        have HLZ := hid (show wv.heap.size = V2 + 1 ∧ wr.heap.size ≤ V2 ∧ B < wr.heap.size from ⟨alz, by omega, hvl⟩)
        have HBL := hid (show Below B w wv from hbl3.trans (al.mono (by omega)))
        have HOA0 := hid (show wv.ownsRow B 97 3 (.slice A3 ags.length c3) ags.length (flatG ags) from own_below (World.ownsRow.kept (own_below hpv.own hbw) hgp (.inr (fun e => own_not_held (own_below hpv.own hbw) hx1 (by decide) e.symm))) al)
        have HBW := hid hbw
        clear al alz hva hx1 hx2 hx3 hbl2 hbl3 hgp y1 y3 hb2 hpv hnz hxl hxl3 hvl hsw hbw
        subst hwv hnb
        go_wp2_with fail
        generalize ((((((((w2.setCell ⟨B, 0, none⟩ (.string (strOfNums xs))).setCell ⟨B, 1, none⟩ (.int .i64 q3)).setCell ⟨B, 2, none⟩ (.int .i64 0)).setCell ⟨B, 3, none⟩ (.slice TA D.length TC)).setCell ⟨B, 4, none⟩ (.slice LA (ps.length + 1) LC)).setCell ⟨B, 5, none⟩ (.int .u64 N3))).alloc (.cells #[.int .i64 t, .int .i64 0, .string ⟨#[]⟩] 97)) = wv at Y1 Y3 HVA HUP HLZ HBL HOA0 ⊢
        refine (HBD.out _).mono ?_
        rintro rr w3 ⟨rfl, hb3⟩
        obtain ⟨z1', z2', z3'⟩ := HLZ.out
        have u1 := Y1.out.below hb3 Y1.out.lt
        have u3 := Y3.out.below hb3 Y3.out.lt
        have uv := HVA.out.below hb3 HVA.out.lt
        have hs3 := hb3.size
        clear i0 i1 i2 i3' i4 i5 f0 f1 f2 f3 f4 f5 p0 p1 pf ct3
        obtain ⟨⟨f0, f1, f2, f3, f4, f5⟩, i0, i1, i2, i3', i4, i5⟩ := cG6 u1
        simp at i0 i1 i2 i3' i4 i5
        obtain ⟨wa, hwa⟩ : ∃ wa, ((((((w3.setCell ⟨B, 0, none⟩ (.string (strOfNums xs))).setCell ⟨B, 1, none⟩ (.int .i64 q3)).setCell ⟨B, 2, none⟩ (.int .i64 10)).setCell ⟨B, 3, none⟩ (.slice TA D.length TC)).setCell ⟨B, 4, none⟩ (.slice LA (ps.length + 1) LC)).setCell ⟨B, 5, none⟩ (.int .u64 N3)) = wa := ⟨_, rfl⟩
        obtain ⟨V3, hV3⟩ : ∃ V3, w3.heap.size = V3 := ⟨_, rfl⟩
        have y1 : Held wa B 111 (PC xs q3 10 TA D.length TC LA (ps.length + 1) LC N3) := by rw [← hwa]; exact held_put6 u1 _ _ _ _ _ _
        have hgp : w3.grownBy wa (some B) := by rw [← hwa]; exact grown_put6 w3 B _ _ _ _ _ _
        have haz : wa.heap.size = V3 := by rw [← hwa]; simp only [World.size_setCell]; exact hV3
        have y3 := u3.grown hgp (by intro e; injection e with e; omega)
        have yv := uv.grown hgp (by intro e; injection e with e; omega)
        obtain ⟨p0, p1⟩ := cC2 y3
        have pf := y3.frozen 1
        obtain ⟨v0, v1, v2⟩ := cC3 yv
        simp at p0 p1 v0 v1 v2
        have hV3g : V2 < V3 := by omega
        have hE3g : E1 < V3 := by omega
        have HMO := hid (fun (A5 : Option Addr) (c5 : Nat) (w5 : World) ho hg => PvAt.more (A5 := A5) (c5 := c5) (w5 := w5) (a := (⟨t, 0, []⟩ : Ag)) (q' := q3) (e' := 10) (n' := (N3 : Int)) (wa := wa) HPV.out hE1 HBW.out (fun g h1 h2 => ((hgp.block g (by omega) (fun e => by injection e with e; omega)).trans (hb3.block g (by omega))).trans (HUP.out g h1 h2)) (by omega) y1 ((HBL.out.trans (hb3.mono (by omega))).grown hgp (by omega) (fun j e => by injection e with e; omega)) ho hg)
        have HOA := hid (show wa.ownsRow B 97 3 (.slice A3 ags.length c3) ags.length (flatG ags) from World.ownsRow.kept (own_below HOA0.out hb3) hgp (.inr (fun e => own_not_held (own_below HOA0.out hb3) u1 (by decide) e.symm)))
        have HEW := hid (show ERow (wa.alloc (.cells #[.int .i64 t, .int .i64 0, .string ⟨#[]⟩] 97)) (V3 + 1) (.slice (some ⟨V3, 0, none⟩) 1 1) 1 (flatG [(⟨t, 0, []⟩ : Ag)]) from ERow.held (t := 97) (by have h := heap_alloc_new wa (.cells #[.int .i64 t, .int .i64 0, .string ⟨#[]⟩] 97); rw [haz] at h; exact h) (by omega) (by unfold maxLen; omega))
        have hBsz : B ≤ V3 := by omega
        clear u1 u3 uv hb3 y1 y3 yv hgp haz z1' z2' z3' hs3
        subst hwa
        go_wp2_with (at_builtin; refine wpList_append_erow _ rfl _ _ 98 97 rfl B ig _ 3 32 Tryz.underlying98 hig hg0 hg1 hg2 rfl (by decide) (.slice A3 ags.length c3) ags.length (flatG ags) rfl (HOA.out.alloc _) (V3 + 1) (.slice (some ⟨V3, 0, none⟩) 1 1) 1 (flatG [(⟨t, 0, []⟩ : Ag)]) (by rfl) HEW.out (flatG_length _) (oneG _) (by unfold maxLen; omega) (by omega) (by simp; omega) (ags ++ [(⟨t, 0, []⟩ : Ag)]).length (by simp) (flatG (ags ++ [(⟨t, 0, []⟩ : Ag)])) (by rw [flatG_append]) ?_; intro A5 c5 w5 hO5 hg5 _; obtain ⟨hmore, hE5⟩ := HMO.out A5 c5 w5 hO5 hg5; have l1 := hE5.cell 1; have lf := hE5.frozen 1; simp at l1)
        have HMORE := hid hmore
        clear hO5 hg5 hmore hE5 l1 lf
        go_roundg (m - (j + 1))
        case measure => have := HGK.out; omega
        case rel => exact ⟨j + 1, A5, c5, ags ++ [(⟨t, 0, []⟩ : Ag)], N3, by omega, by go_num, hid rfl, hid (by rw [List.length_append, HAL.out]; rfl), hid (by rw [HNX.out]; have h := HMORE.out; simp only [pW] at h; exact h), hid (by rw [HNX.out]; intro hz; exact absurd hz (by simp))⟩
       ·rw [if_neg (by omega)] at hnext
        obtain ⟨s, hs⟩ : ∃ s, D[N3]? = some s := ⟨_, List.getElem?_eq_getElem (by omega)⟩
        rw [show D.getD N3 [] = s by simp [List.getD, hs]] at hnext
        have HNX := hid hnext
        have hcvD : IntKind.u64.wrap (D.length : Int) = (D.length : Int) := IntWalk.u64_in _ (by omega)
        have hcvN : IntKind.i64.wrap (N3 : Int) = (N3 : Int) := IntWalk.i64_in _ (by omega)
        have hlDi : ¬ (D.length : Int) ≤ (N3 : Int) := by omega
        have hlDj : (N3 : Int) < (D.length : Int) := by omega
        have hlDk : N3 < D.length := by omega
        obtain ⟨bT, oT, hTA, hbT, hcT⟩ := HT.out.block (by omega)
        have hcs := hcT N3 _ (strVs_at D hs)
        rw [HBB.out] at hbT
        subst hTA
        clear hnext hs hcT
        go_wp2_with fail
        refine (HNU2.out _).mono ?_
        rintro rr w2 ⟨rfl, hb2⟩
        have hbw := hb2
        have hx1 := hpv.box.below hb2 hpv.box.lt
        have hx2 := hpv.res.below hb2 hpv.res.lt
        have hx3 := hpv.ev.below hb2 hpv.ev.lt
        have hbl2 := hpv.bel.trans (hb2.mono (by have := hpv.box.lt; omega))
        obtain ⟨⟨f0, f1, f2, f3, f4, f5⟩, i0, i1, i2, i3', i4, i5⟩ := cG6 hx1
        simp at i0 i1 i2 i3' i4 i5
        obtain ⟨nb, hnb⟩ : ∃ nb, ((((((w2.setCell ⟨B, 0, none⟩ (.string (strOfNums xs))).setCell ⟨B, 1, none⟩ (.int .i64 q3)).setCell ⟨B, 2, none⟩ (.int .i64 0)).setCell ⟨B, 3, none⟩ (.slice (some ⟨bT, oT, none⟩) D.length TC)).setCell ⟨B, 4, none⟩ (.slice LA (ps.length + 1) LC)).setCell ⟨B, 5, none⟩ (.int .u64 N3)) = nb := ⟨_, rfl⟩
        obtain ⟨V2, hV2⟩ : ∃ V2, w2.heap.size = V2 := ⟨_, rfl⟩
        have y1 : Held nb B 111 (PC xs q3 0 (some ⟨bT, oT, none⟩) D.length TC LA (ps.length + 1) LC N3) := by rw [← hnb]; exact held_put6 hx1 _ _ _ _ _ _
        have hgp : w2.grownBy nb (some B) := by rw [← hnb]; exact grown_put6 w2 B _ _ _ _ _ _
        have hnz : nb.heap.size = V2 := by rw [← hnb]; simp only [World.size_setCell]; exact hV2
        have hxl := hx1.lt
        have hxl3 := hx3.lt
        have hvl := hpv.box.lt
        have hsw := hbw.size
        have y3 := hx3.grown hgp (by intro e; injection e with e; omega)
        have hbl3 := hbl2.grown hgp (by omega) (fun j e => by injection e with e; omega)
        have ct3 : nb.cell? ⟨b2, o2 + j, none⟩ = some (.int .i64 t) := (World.cell?_of_block (hgp.block b2 (by omega) (fun e => by injection e with e; omega))).trans ((hbw.cell (p := ⟨b2, o2 + j, none⟩) (by simp only; omega)).trans hct)
        obtain ⟨p0, p1⟩ := cC2 y3
        have pf := y3.frozen 1
        simp at p0 p1
        have hb2w : b2 < w2.heap.size := by omega
        have hEV : E1 < V2 := by omega
        have hbV : b2 < V2 := by omega
        have hBV : B < V2 := by omega
        have cs3 : nb.cell? ⟨bT, oT + N3, none⟩ = some (.string (strOfNums s)) := (World.cell?_of_block (hgp.block bT (by omega) (fun e => by injection e with e; omega))).trans ((hbl2.cell (p := ⟨bT, oT + N3, none⟩) hbT).trans hcs)
        have hbTV : bT < V2 := by omega
        obtain ⟨wa, hwa⟩ : ∃ wa, nb.alloc (.cells #[.int .i64 t, .int .i64 0, .string (strOfNums s)] 97) = wa := ⟨_, rfl⟩
        have al : Below nb.heap.size nb wa := by rw [← hwa]; exact (Below.refl _ _).alloc (Nat.le_refl _) _
        have alz : wa.heap.size = V2 + 1 := by rw [← hwa, World.size_alloc, hnz]
        have HMO := hid (fun (A5 : Option Addr) (c5 : Nat) (w5 : World) ho hg => PvAt.more (A5 := A5) (c5 := c5) (w5 := w5) (a := (⟨t, 0, s⟩ : Ag)) (q' := q3) (e' := 0) (n' := (N3 : Int)) (wa := wa) hpv hE1 hbw (fun g h1 h2 => (al.block g (by omega)).trans (hgp.block g (by omega) (fun e => by injection e with e; omega))) (by omega) (y1.below al y1.lt) (hbl3.trans (al.mono (by omega))) ho hg)
        have HOA := hid (show wa.ownsRow B 97 3 (.slice A3 ags.length c3) ags.length (flatG ags) from own_below (World.ownsRow.kept (own_below hpv.own hbw) hgp (.inr (fun e => own_not_held (own_below hpv.own hbw) hx1 (by decide) e.symm))) al)
        have HEW := hid (show ERow (wa.alloc (.cells #[.int .i64 t, .int .i64 0, .string (strOfNums s)] 97)) (V2 + 2) (.slice (some ⟨V2 + 1, 0, none⟩) 1 1) 1 (flatG [(⟨t, 0, s⟩ : Ag)]) from ERow.held (t := 97) (by have h := heap_alloc_new wa (.cells #[.int .i64 t, .int .i64 0, .string (strOfNums s)] 97); rw [alz] at h; exact h) (by omega) (by unfold maxLen; omega))
        clear al alz hx1 hx2 hx3 hbl2 hbl3 hgp y1 y3 hb2 hpv hnz hxl hxl3 hvl hsw
        subst hwa hnb
        go_wp2_with (at_builtin; refine wpList_append_erow _ rfl _ _ 98 97 rfl B ig _ 3 32 Tryz.underlying98 hig hg0 hg1 hg2 rfl (by decide) (.slice A3 ags.length c3) ags.length (flatG ags) rfl (HOA.out.alloc _) (V2 + 2) (.slice (some ⟨V2 + 1, 0, none⟩) 1 1) 1 (flatG [(⟨t, 0, s⟩ : Ag)]) (by rfl) HEW.out (flatG_length _) (oneG _) (by unfold maxLen; omega) (by omega) (by simp; omega) (ags ++ [(⟨t, 0, s⟩ : Ag)]).length (by simp) (flatG (ags ++ [(⟨t, 0, s⟩ : Ag)])) (by rw [flatG_append]) ?_; intro A5 c5 w5 hO5 hg5 _; obtain ⟨hmore, hE5⟩ := HMO.out A5 c5 w5 hO5 hg5; have l1 := hE5.cell 1; have lf := hE5.frozen 1; simp at l1)
        have HMORE := hid hmore
        clear hO5 hg5 hmore hE5 l1 lf
        go_roundg (m - (j + 1))
        case measure => have := HGK.out; omega
        case rel => exact ⟨j + 1, A5, c5, ags ++ [(⟨t, 0, s⟩ : Ag)], N3, by omega, by go_num, hid rfl, hid (by rw [List.length_append, HAL.out]; rfl), hid (by rw [HNX.out]; have h := HMORE.out; simp only [pW] at h; exact h), hid (by intro hz; have h2 := HDT.out (HST.out hz); rw [HNX.out, h2])⟩
      ·have HE0 := hid he3
       have hne3 : (e3 == 0) = false := beq_eq_false_iff_ne.2 he3
       obtain ⟨x, hx⟩ : ∃ x, F (j + 1) = ((F j).1 ++ [x], q3, e3) := by
        split at hnext
        ·rw [stU_kept he3] at hnext
         exact ⟨_, hnext⟩
        ·exact ⟨_, hnext⟩
       have HNX := hid hx
       clear hnext hx he3
       go_wp2_with fail
       refine (HNU2.out _).mono ?_
       rintro rr w2 ⟨rfl, hb2⟩
       have hbw := hb2
       have hx1 := hpv.box.below hb2 hpv.box.lt
       have hx2 := hpv.res.below hb2 hpv.res.lt
       have hx3 := hpv.ev.below hb2 hpv.ev.lt
       have hbl2 := hpv.bel.trans (hb2.mono (by have := hpv.box.lt; omega))
       obtain ⟨⟨f0, f1, f2, f3, f4, f5⟩, i0, i1, i2, i3', i4, i5⟩ := cG6 hx1
       simp at i0 i1 i2 i3' i4 i5
       obtain ⟨nb, hnb⟩ : ∃ nb, ((((((w2.setCell ⟨B, 0, none⟩ (.string (strOfNums xs))).setCell ⟨B, 1, none⟩ (.int .i64 q3)).setCell ⟨B, 2, none⟩ (.int .i64 e3)).setCell ⟨B, 3, none⟩ (.slice TA D.length TC)).setCell ⟨B, 4, none⟩ (.slice LA (ps.length + 1) LC)).setCell ⟨B, 5, none⟩ (.int .u64 N3)) = nb := ⟨_, rfl⟩
       obtain ⟨V2, hV2⟩ : ∃ V2, w2.heap.size = V2 := ⟨_, rfl⟩
       have y1 : Held nb B 111 (PC xs q3 e3 TA D.length TC LA (ps.length + 1) LC N3) := by rw [← hnb]; exact held_put6 hx1 _ _ _ _ _ _
       have hgp : w2.grownBy nb (some B) := by rw [← hnb]; exact grown_put6 w2 B _ _ _ _ _ _
       have hnz : nb.heap.size = V2 := by rw [← hnb]; simp only [World.size_setCell]; exact hV2
       have hxl := hx1.lt
       have hxl3 := hx3.lt
       have hvl := hpv.box.lt
       have hsw := hbw.size
       have y3 := hx3.grown hgp (by intro e; injection e with e; omega)
       have hbl3 := hbl2.grown hgp (by omega) (fun j e => by injection e with e; omega)
       have ct3 : nb.cell? ⟨b2, o2 + j, none⟩ = some (.int .i64 t) := (World.cell?_of_block (hgp.block b2 (by omega) (fun e => by injection e with e; omega))).trans ((hbw.cell (p := ⟨b2, o2 + j, none⟩) (by simp only; omega)).trans hct)
       obtain ⟨p0, p1⟩ := cC2 y3
       have pf := y3.frozen 1
       simp at p0 p1
       have hb2w : b2 < w2.heap.size := by omega
       have hEV : E1 < V2 := by omega
       have hbV : b2 < V2 := by omega
       have hBV : B < V2 := by omega
       obtain ⟨wa, hwa⟩ : ∃ wa, nb.alloc (.cells #[.int .i64 t, .int .i64 0, .string ⟨#[]⟩] 97) = wa := ⟨_, rfl⟩
       have al : Below nb.heap.size nb wa := by rw [← hwa]; exact (Below.refl _ _).alloc (Nat.le_refl _) _
       have alz : wa.heap.size = V2 + 1 := by rw [← hwa, World.size_alloc, hnz]
       have HMO := hid (fun (A5 : Option Addr) (c5 : Nat) (w5 : World) ho hg => PvAt.more (A5 := A5) (c5 := c5) (w5 := w5) (a := (⟨t, 0, []⟩ : Ag)) (q' := q3) (e' := e3) (n' := (N3 : Int)) (wa := wa) hpv hE1 hbw (fun g h1 h2 => (al.block g (by omega)).trans (hgp.block g (by omega) (fun e => by injection e with e; omega))) (by omega) (y1.below al y1.lt) (hbl3.trans (al.mono (by omega))) ho hg)
       have HOA := hid (show wa.ownsRow B 97 3 (.slice A3 ags.length c3) ags.length (flatG ags) from own_below (World.ownsRow.kept (own_below hpv.own hbw) hgp (.inr (fun e => own_not_held (own_below hpv.own hbw) hx1 (by decide) e.symm))) al)
       have HEW := hid (show ERow (wa.alloc (.cells #[.int .i64 t, .int .i64 0, .string ⟨#[]⟩] 97)) (V2 + 2) (.slice (some ⟨V2 + 1, 0, none⟩) 1 1) 1 (flatG [(⟨t, 0, []⟩ : Ag)]) from ERow.held (t := 97) (by have h := heap_alloc_new wa (.cells #[.int .i64 t, .int .i64 0, .string ⟨#[]⟩] 97); rw [alz] at h; exact h) (by omega) (by unfold maxLen; omega))
       clear al alz hx1 hx2 hx3 hbl2 hbl3 hgp y1 y3 hb2 hpv hnz hxl hxl3 hvl hsw
       subst hwa hnb
       go_wp2_with (at_builtin; refine wpList_append_erow _ rfl _ _ 98 97 rfl B ig _ 3 32 Tryz.underlying98 hig hg0 hg1 hg2 rfl (by decide) (.slice A3 ags.length c3) ags.length (flatG ags) rfl (HOA.out.alloc _) (V2 + 2) (.slice (some ⟨V2 + 1, 0, none⟩) 1 1) 1 (flatG [(⟨t, 0, []⟩ : Ag)]) (by rfl) HEW.out (flatG_length _) (oneG _) (by unfold maxLen; omega) (by omega) (by simp; omega) (ags ++ [(⟨t, 0, []⟩ : Ag)]).length (by simp) (flatG (ags ++ [(⟨t, 0, []⟩ : Ag)])) (by rw [flatG_append]) ?_; intro A5 c5 w5 hO5 hg5 _; obtain ⟨hmore, hE5⟩ := HMO.out A5 c5 w5 hO5 hg5; have l1 := hE5.cell 1; have lf := hE5.frozen 1; simp at l1)
       have HMORE := hid hmore
       clear hO5 hg5 hmore hE5 l1 lf
       go_roundg (m - (j + 1))
       case measure => have := HGK.out; omega
       case rel => exact ⟨j + 1, A5, c5, ags ++ [(⟨t, 0, []⟩ : Ag)], N3, by omega, by go_num, hid rfl, hid (by rw [List.length_append, HAL.out]; rfl), hid (by rw [HNX.out]; have h := HMORE.out; simp only [pW] at h; exact h), hid (by rw [HNX.out]; intro hz; exact absurd hz HE0.out)⟩
    ·obtain rfl : j = m := by omega
     have hLr := HL.out.below (by rw [HBB.out]; exact hpv.bel)
     obtain ⟨bL, hLA, hbL⟩ : ∃ bL, LA = some ⟨bL, 0, none⟩ ∧ n0 ≤ bL := by
      rcases hLr.1.2 with ⟨h1, h2⟩ | ⟨b, cap, cur, h1, hb, h3, _⟩
      ·simp at h2
      ·injection h1 with e1 _ _
       exact ⟨b, e1, hb⟩
     subst hLA
     obtain ⟨bL', oL, hLA2, hbL2, _, hlc, _, hel1, hel2⟩ := hLr.row.at (i := ps.length) (d := d0) (by simp)
     injection hLA2 with hLA2
     injection hLA2 with e1 e2 _
     subst e1 e2
     rw [Nat.zero_add] at hlc
     have HLO2 := hid (show wr.ownsRow n1 100 2 (.slice d0.A d0.evs.length d0.c) d0.evs.length (flatE d0.evs) from own_below HLO.out (by rw [HBB.out]; exact hpv.bel))
     have hbz := hpv.box.lt
     have HEND := hid (fun (A5 : Option Addr) (c5 : Nat) (w5 : World) ho hg => ev_end (A5 := A5) (c5 := c5) (w5 := w5) (k := (N : Int)) hLr hn0 (by have := HBB.out; omega) HLO2.out HHI.out (own_base hpv.own HN0B.out) ho hg)
     obtain ⟨z0, z1, z2, z3, z4, z5⟩ := cC6 hpv.box
     obtain ⟨v0, v1⟩ := cC2 hpv.ev
     simp at z0 z1 z2 z3 z4 z5 v0 v1
     have hwl : IntKind.i64.wrap ((ps.length : Int) + 1 - 1) = (ps.length : Int) := by rw [IntWalk.i64_in _ (by omega)]; omega
     have hpi : (ps.length : Int) < (ps.length : Int) + 1 := by omega
     have hpi0 : (0 : Int) ≤ (ps.length : Int) := by omega
     have hpn : ps.length < ps.length + 1 := by omega
     obtain ⟨V5, hV5⟩ : ∃ V5, wr.heap.size = V5 := ⟨_, rfl⟩
     have HEW := hid (show ERow (wr.alloc (.cells #[.int .i64 N, .slice A3 ags.length c3] 100)) (V5 + 1) (.slice (some ⟨V5, 0, none⟩) 1 1) 1 (flatE [(⟨N, ags, A3, c3⟩ : Em)]) from ERow.held (t := 100) (by rw [← hV5]; exact heap_alloc_new wr _) (by omega) (by unfold maxLen; omega))
     have hdl : d0.evs.length ≤ 1024 := hel
     have hbV5 : bL < V5 := by omega
     have hBV5 : B < V5 := by omega
     have hEV5 : E1 < V5 := by have := hpv.ev.lt; omega
     have HS := hid (fun (W : World) (hb : Below wr.heap.size wr W) => show W.cell? ⟨B, 4, none⟩ = some (.slice (some ⟨bL, 0, none⟩) (ps.length + 1) LC) ∧ W.cell? ⟨E1, 0, none⟩ = some (.int .i64 N) ∧ W.cell? ⟨E1, 1, none⟩ = some (.slice A3 ags.length c3) from
      ⟨(hpv.box.below hb hpv.box.lt).cell 4, (hpv.ev.below hb hpv.ev.lt).cell 0, (hpv.ev.below hb hpv.ev.lt).cell 1⟩)
     have hd0B : ∀ i, (Value.slice d0.A d0.evs.length d0.c).ownBlock = some i → i < B := fun i e => by have := (World.ownsRow.lt HLO.out i e).2; have := HBB.out; omega
     have hbLB : bL < B := by have := (World.ownsRow.lt HL.out.1 bL rfl).2; have := HBB.out; omega
     have HH5 := hid (fun (w5 : World) (hg : (wr.alloc (.cells #[.int .i64 N, .slice A3 ags.length c3] 100)).grownBy w5 (Value.slice d0.A d0.evs.length d0.c).ownBlock) => show Held w5 B 111 (PC xs (F j).2.1 (F j).2.2 TA D.length TC (some ⟨bL, 0, none⟩) (ps.length + 1) LC nk) ∧ Held w5 (B + 1) 111 zeroPC ∧ Held w5 E1 100 #[.int .i64 N, .slice A3 ags.length c3] from by
      have al := (Below.refl wr.heap.size wr).alloc (Nat.le_refl _) (.cells #[.int .i64 N, .slice A3 ags.length c3] 100)
      exact ⟨(hpv.box.below al hpv.box.lt).grown hg (fun e => by have := hd0B _ e.symm; omega), (hpv.res.below al hpv.res.lt).grown hg (fun e => by have := hd0B _ e.symm; omega), (hpv.ev.below al hpv.ev.lt).grown hg (fun e => by have := hd0B _ e.symm; omega)⟩)
     have HS5 := hid (fun (w5 : World) (hg : (wr.alloc (.cells #[.int .i64 N, .slice A3 ags.length c3] 100)).grownBy w5 (Value.slice d0.A d0.evs.length d0.c).ownBlock) => show w5.cell? ⟨B, 4, none⟩ = some (.slice (some ⟨bL, 0, none⟩) (ps.length + 1) LC) ∧ w5.cell? ⟨E1, 0, none⟩ = some (.int .i64 N) ∧ w5.cell? ⟨E1, 1, none⟩ = some (.slice A3 ags.length c3) from
      ⟨(HH5.out w5 hg).1.cell 4, (HH5.out w5 hg).2.2.cell 0, (HH5.out w5 hg).2.2.cell 1⟩)
     have HS6 := hid (fun (w5 : World) (u : Value) (h : w5.cell? ⟨B, 4, none⟩ = some (.slice (some ⟨bL, 0, none⟩) (ps.length + 1) LC) ∧ w5.cell? ⟨E1, 0, none⟩ = some (.int .i64 N) ∧ w5.cell? ⟨E1, 1, none⟩ = some (.slice A3 ags.length c3)) (_ : n0 ≤ bL) => show (w5.setCell ⟨bL, ps.length * 2 + 1, none⟩ u).cell? ⟨B, 4, none⟩ = some (.slice (some ⟨bL, 0, none⟩) (ps.length + 1) LC) ∧ (w5.setCell ⟨bL, ps.length * 2 + 1, none⟩ u).cell? ⟨E1, 0, none⟩ = some (.int .i64 N) ∧ (w5.setCell ⟨bL, ps.length * 2 + 1, none⟩ u).cell? ⟨E1, 1, none⟩ = some (.slice A3 ags.length c3) from
      ⟨(World.cell?_of_block (Below.heap_setCell w5 ⟨bL, ps.length * 2 + 1, none⟩ u B (by simp only; omega))).trans h.1, (World.cell?_of_block (Below.heap_setCell w5 ⟨bL, ps.length * 2 + 1, none⟩ u E1 (by simp only; omega))).trans h.2.1, (World.cell?_of_block (Below.heap_setCell w5 ⟨bL, ps.length * 2 + 1, none⟩ u E1 (by simp only; omega))).trans h.2.2⟩)
     have HJQ := hid (HFP.out j)
     clear hdl v0 v1 z0 z1 z2 z3 z5
     go_wp2_with fail
     have hS0 := HS.out _ (Below.refl wr.heap.size wr).drew
     refine wp_region_held_drew (S := fun W => W.cell? ⟨B, 4, none⟩ = some (.slice (some ⟨bL, 0, none⟩) (ps.length + 1) LC) ∧ W.cell? ⟨E1, 0, none⟩ = some (.int .i64 N) ∧ W.cell? ⟨E1, 1, none⟩ = some (.slice A3 ags.length c3)) (by kernel_rfl) hS0 (fun _ => ?_)
     refine wpAnyH_take (i := 0) (v := .pointer (some ⟨B, 4, none⟩)) rfl (by kernel_rfl) (by kernel_rfl) (by kernel_rfl) (fun _ _ _ h => h) (Or.inl ⟨by rfl, fun W hW => by obtain ⟨u0, u1, u2⟩ := hW; go_simp⟩) hS0 ?_
     try simp only [pU]
     refine wpAnyH_take (i := 1) (v := .slice (some ⟨bL, 0, none⟩) (ps.length + 1) LC) rfl (by kernel_rfl) (by kernel_rfl) (by kernel_rfl) (fun _ _ _ h => h) (Or.inl ⟨by rfl, fun W hW => by obtain ⟨u0, u1, u2⟩ := hW; go_simp⟩) hS0 ?_
     try simp only [pU]
     refine wpAnyH_take (i := 2) (v := .int .i64 ps.length) rfl (by kernel_rfl) (by kernel_rfl) (by kernel_rfl) (fun _ _ _ h => h) (Or.inl ⟨by rfl, fun W hW => by obtain ⟨u0, u1, u2⟩ := hW; go_simp⟩) hS0 ?_
     try simp only [pU]
     refine wpAnyH_take (i := 3) (v := .pointer (some ⟨B, 4, none⟩)) rfl (by kernel_rfl) (by kernel_rfl) (by kernel_rfl) (fun _ _ _ h => h) (Or.inl ⟨by rfl, fun W hW => by obtain ⟨u0, u1, u2⟩ := hW; go_simp⟩) hS0 ?_
     try simp only [pU]
     refine wpAnyH_take (i := 4) (v := .slice (some ⟨bL, 0, none⟩) (ps.length + 1) LC) rfl (by kernel_rfl) (by kernel_rfl) (by kernel_rfl) (fun _ _ _ h => h) (Or.inl ⟨by rfl, fun W hW => by obtain ⟨u0, u1, u2⟩ := hW; go_simp⟩) hS0 ?_
     try simp only [pU]
     refine wpAnyH_take (i := 5) (v := .int .i64 ps.length) rfl (by kernel_rfl) (by kernel_rfl) (by kernel_rfl) (fun _ _ _ h => h) (Or.inl ⟨by rfl, fun W hW => by obtain ⟨u0, u1, u2⟩ := hW; go_simp⟩) hS0 ?_
     try simp only [pU]
     refine wpAnyH_take (i := 6) (v := .pointer (some ⟨bL, ps.length * 2, none⟩)) rfl (by kernel_rfl) (by kernel_rfl) (by kernel_rfl) (fun _ _ _ h => h) (Or.inl ⟨by rfl, fun W hW => by obtain ⟨u0, u1, u2⟩ := hW; go_simp⟩) hS0 ?_
     try simp only [pU]
     refine wpAnyH_take (i := 7) (v := .pointer (some ⟨bL, ps.length * 2 + 1, none⟩)) rfl (by kernel_rfl) (by kernel_rfl) (by kernel_rfl) (fun _ _ _ h => h) (Or.inl ⟨by rfl, fun W hW => by obtain ⟨u0, u1, u2⟩ := hW; go_simp⟩) hS0 ?_
     try simp only [pU]
     refine wpAnyH_take (i := 9) (v := .agg #[.int .i64 N, .slice A3 ags.length c3]) rfl (by kernel_rfl) (by kernel_rfl) (by kernel_rfl) (fun _ _ _ h => h) (Or.inl ⟨by rfl, fun W hW => by obtain ⟨u0, u1, u2⟩ := hW; go_simp⟩) hS0 ?_
     try simp only [pU]
     refine wpAnyH_ready (rs := [8, 10]) (by kernel_rfl) (by simp) ?_
     refine AllReadyH.cons rfl (fun Kq hKq => ?_) (AllReadyH.cons rfl (fun Kq hKq => ?_) AllReadyH.nil)
     ·skip
      go_simp
      refine hKq.out _ _ (HS.out _ (Below.refl wr.heap.size wr).drew) (fun _ => ?_)
      clear hKq Kq
      try simp only [pU]
      refine wpAnyH_ready (rs := [10]) (by kernel_rfl) (by simp) ?_
      refine AllReadyH.cons rfl (fun Kq hKq => ?_) AllReadyH.nil
      go_simp
      refine hKq.out _ _ (HS.out _ ((Below.refl wr.heap.size wr).drew.alloc (Nat.le_refl _) (.cells #[.int .i64 N, .slice A3 ags.length c3] 100))) (fun _ => ?_)
      clear hKq Kq
      try simp only [pU]
      refine wpAnyH_ready (rs := [11]) (by kernel_rfl) (by simp) ?_
      refine AllReadyH.cons rfl (fun Kq hKq => ?_) AllReadyH.nil
      refine step_append_erow_at (by rfl) (.tmp 102) (.tmp 104) 49 100 (by rfl) n1 iv _ 2 32 Tryz.underlying49 hiv hv0 hv1 hv2 rfl (by decide) (.slice d0.A d0.evs.length d0.c) d0.evs.length (flatE d0.evs) (by rfl) (HLO2.out.alloc _) (V5 + 1) (.slice (some ⟨V5, 0, none⟩) 1 1) 1 (flatE [(⟨N, ags, A3, c3⟩ : Em)]) (by rfl) HEW.out (flatE_length _) (oneE _) (by unfold maxLen; omega) (by omega) (by have := HBB.out; simp; omega) (d0.evs ++ [(⟨N, ags, A3, c3⟩ : Em)]).length (by simp) (flatE (d0.evs ++ [(⟨N, ags, A3, c3⟩ : Em)])) (by rw [flatE_append]) ?_
      intro A5 c5 w5 hO5 hg5 _
      obtain ⟨bL', hq1, hq2, hcell, hfz, htn, hot⟩ := HEND.out A5 c5 w5 hO5 (by first | exact hg5 | exact grown_drew hg5)
      injection hq1 with hq1
      injection hq1 with hq1 _ _
      subst hq1
      have hS5 := HS5.out w5 (by first | exact hg5 | exact grown_drew hg5)
      refine hKq.out _ _ (hS5) (fun _ => ?_)
      clear hKq Kq
      try simp only [pU]
      refine wpAnyH_take (i := 12) (v := .pointer (some ⟨bL, ps.length * 2, none⟩)) rfl (by kernel_rfl) (by kernel_rfl) (by kernel_rfl) (fun _ _ _ h => h) (Or.inl ⟨by rfl, fun W hW => by obtain ⟨u0, u1, u2⟩ := hW; go_simp⟩) hS5 ?_
      try simp only [pU]
      refine wpAnyH_take (i := 13) (v := .pointer (some ⟨bL, ps.length * 2 + 1, none⟩)) rfl (by kernel_rfl) (by kernel_rfl) (by kernel_rfl) (fun _ _ _ h => h) (Or.inl ⟨by rfl, fun W hW => by obtain ⟨u0, u1, u2⟩ := hW; go_simp⟩) hS5 ?_
      try simp only [pU]
      refine wpAnyH_ready (rs := [14]) (by kernel_rfl) (by simp) ?_
      refine AllReadyH.cons rfl (fun Kq hKq => ?_) AllReadyH.nil
      go_simp
      refine hKq.out _ _ (HS6.out w5 _ hS5 hq2) (fun _ => ?_)
      clear hKq Kq
      try simp only [pU]
      refine wpAnyH_done (by kernel_rfl) ?_ _
      obtain ⟨x1, x2, x3⟩ := HH5.out w5 (by first | exact hg5 | exact grown_drew hg5)
      have X1 := x1.other_put (b := bL) (i := ps.length * 2 + 1) (by omega) (.slice A5 (d0.evs ++ [(⟨N, ags, A3, c3⟩ : Em)]).length c5)
      have X2 := x2.other_put (b := bL) (i := ps.length * 2 + 1) (by omega) (.slice A5 (d0.evs ++ [(⟨N, ags, A3, c3⟩ : Em)]).length c5)
      have HOT := hid hot
      have HTN := hid htn
      have hxs : B + 1 < (w5.setCell ⟨bL, ps.length * 2 + 1, none⟩ (.slice A5 (d0.evs ++ [(⟨N, ags, A3, c3⟩ : Em)]).length c5)).heap.size := X2.lt
      obtain ⟨w6, hw6⟩ : ∃ w6, (w5.setCell ⟨bL, ps.length * 2 + 1, none⟩ (.slice A5 (d0.evs ++ [(⟨N, ags, A3, c3⟩ : Em)]).length c5)) = w6 := ⟨_, rfl⟩
      rw [show (d0.evs ++ [(⟨N, ags, A3, c3⟩ : Em)]).length = d0.evs.length + 1 by simp] at hw6
      have hw6' := hw6
      rw [show d0.evs.length + 1 = (d0.evs ++ [(⟨N, ags, A3, c3⟩ : Em)]).length by simp] at hw6'
      rw [hw6'] at X1 X2 HOT HTN hxs
      obtain ⟨f0, f1, f2, f3, f4, f5⟩ := cF6 X2
      obtain ⟨i0, i1, i2, i3, i4, i5⟩ := cC6 X1
      obtain ⟨k0, k1, k2, k3, k4, k5⟩ := cC6 X2
      simp at i0 i1 i2 i3 i4 i5 k0 k1 k2 k3 k4 k5
      have HZF := hid (held_put6 X2 (.string (strOfNums xs)) (.int .i64 (F j).2.1) (.int .i64 (F j).2.2) (.slice TA D.length TC) (.slice (some ⟨bL, 0, none⟩) (ps.length + 1) LC) (.int .u64 nk))
      have HPG := hid (grown_put6 w6 (B + 1) (.string (strOfNums xs)) (.int .i64 (F j).2.1) (.int .i64 (F j).2.2) (.slice TA D.length TC) (.slice (some ⟨bL, 0, none⟩) (ps.length + 1) LC) (.int .u64 nk))
      have hbig : B + 1 < w6.heap.size := hxs
      have HX2 := hid X2
      clear X1 X2 x1 x2 x3 hot htn hO5 hg5 hcell hfz hS5 hS0
      rw [hw6]
      clear hw6 hw6'
      go_wp2_with fail
      generalize ((((((w6.setCell ⟨(B + 1), 0, none⟩ (.string (strOfNums xs))).setCell ⟨(B + 1), 1, none⟩ (.int .i64 (F j).2.1)).setCell ⟨(B + 1), 2, none⟩ (.int .i64 (F j).2.2)).setCell ⟨(B + 1), 3, none⟩ (.slice TA D.length TC)).setCell ⟨(B + 1), 4, none⟩ (.slice (some ⟨bL, 0, none⟩) (ps.length + 1) LC)).setCell ⟨(B + 1), 5, none⟩ (.int .u64 nk)) = wf at HZF HPG ⊢
      refine bodyPost_ret (v := PV xs (F j).2.1 (F j).2.2 TA D.length TC (some ⟨bL, 0, none⟩) (ps.length + 1) LC nk) ?_ ?_ ?_
      ·exact res_event (by simp only [pV]) HZF.out
      ·rfl
      ·unfold PEvGot
       refine ⟨(F j).2.1, (F j).2.2, nk, rfl, HJQ.out, by rw [HEV.out], fun hz => ⟨by rw [HEV.out], ?_⟩, ((Turns.of_below (by rw [hB]; exact HPV.out.bel) (by rw [hB]; exact HN0B.out)).trans HTN.out).then HPG.out (by rw [hB]; omega) (by rw [hB]; exact HN0B.out)⟩
       have hag := HDT.out hz
       obtain ⟨t1, t2⟩ := HOT.out (by rw [hag]; exact HFF.out j) (by omega)
       exact ⟨_, t1.aside HX2.out (by decide) (by decide) (by decide) HPG.out, rfl, by rw [HEV.out, List.map_append, ← hag]; rfl, World.ownsRow.kept t2 HPG.out (.inr (fun e => own_not_held t2 HX2.out (by decide) e.symm))⟩
     ·skip
      go_simp
      refine hKq.out _ _ (HS.out _ ((Below.refl wr.heap.size wr).drew.alloc (Nat.le_refl _) (.cells #[.int .i64 N, .slice A3 ags.length c3] 100))) (fun _ => ?_)
      clear hKq Kq
      try simp only [pU]
      refine wpAnyH_ready (rs := [8]) (by kernel_rfl) (by simp) ?_
      refine AllReadyH.cons rfl (fun Kq hKq => ?_) AllReadyH.nil
      go_simp
      refine hKq.out _ _ (HS.out _ ((Below.refl wr.heap.size wr).drew.alloc (Nat.le_refl _) (.cells #[.int .i64 N, .slice A3 ags.length c3] 100))) (fun _ => ?_)
      clear hKq Kq
      try simp only [pU]
      refine wpAnyH_ready (rs := [11]) (by kernel_rfl) (by simp) ?_
      refine AllReadyH.cons rfl (fun Kq hKq => ?_) AllReadyH.nil
      refine step_append_erow_at (by rfl) (.tmp 102) (.tmp 104) 49 100 (by rfl) n1 iv _ 2 32 Tryz.underlying49 hiv hv0 hv1 hv2 rfl (by decide) (.slice d0.A d0.evs.length d0.c) d0.evs.length (flatE d0.evs) (by rfl) (HLO2.out.alloc _) (V5 + 1) (.slice (some ⟨V5, 0, none⟩) 1 1) 1 (flatE [(⟨N, ags, A3, c3⟩ : Em)]) (by rfl) HEW.out (flatE_length _) (oneE _) (by unfold maxLen; omega) (by omega) (by have := HBB.out; simp; omega) (d0.evs ++ [(⟨N, ags, A3, c3⟩ : Em)]).length (by simp) (flatE (d0.evs ++ [(⟨N, ags, A3, c3⟩ : Em)])) (by rw [flatE_append]) ?_
      intro A5 c5 w5 hO5 hg5 _
      obtain ⟨bL', hq1, hq2, hcell, hfz, htn, hot⟩ := HEND.out A5 c5 w5 hO5 (by first | exact hg5 | exact grown_drew hg5)
      injection hq1 with hq1
      injection hq1 with hq1 _ _
      subst hq1
      have hS5 := HS5.out w5 (by first | exact hg5 | exact grown_drew hg5)
      refine hKq.out _ _ (hS5) (fun _ => ?_)
      clear hKq Kq
      try simp only [pU]
      refine wpAnyH_take (i := 12) (v := .pointer (some ⟨bL, ps.length * 2, none⟩)) rfl (by kernel_rfl) (by kernel_rfl) (by kernel_rfl) (fun _ _ _ h => h) (Or.inl ⟨by rfl, fun W hW => by obtain ⟨u0, u1, u2⟩ := hW; go_simp⟩) hS5 ?_
      try simp only [pU]
      refine wpAnyH_take (i := 13) (v := .pointer (some ⟨bL, ps.length * 2 + 1, none⟩)) rfl (by kernel_rfl) (by kernel_rfl) (by kernel_rfl) (fun _ _ _ h => h) (Or.inl ⟨by rfl, fun W hW => by obtain ⟨u0, u1, u2⟩ := hW; go_simp⟩) hS5 ?_
      try simp only [pU]
      refine wpAnyH_ready (rs := [14]) (by kernel_rfl) (by simp) ?_
      refine AllReadyH.cons rfl (fun Kq hKq => ?_) AllReadyH.nil
      go_simp
      refine hKq.out _ _ (HS6.out w5 _ hS5 hq2) (fun _ => ?_)
      clear hKq Kq
      try simp only [pU]
      refine wpAnyH_done (by kernel_rfl) ?_ _
      obtain ⟨x1, x2, x3⟩ := HH5.out w5 (by first | exact hg5 | exact grown_drew hg5)
      have X1 := x1.other_put (b := bL) (i := ps.length * 2 + 1) (by omega) (.slice A5 (d0.evs ++ [(⟨N, ags, A3, c3⟩ : Em)]).length c5)
      have X2 := x2.other_put (b := bL) (i := ps.length * 2 + 1) (by omega) (.slice A5 (d0.evs ++ [(⟨N, ags, A3, c3⟩ : Em)]).length c5)
      have HOT := hid hot
      have HTN := hid htn
      have hxs : B + 1 < (w5.setCell ⟨bL, ps.length * 2 + 1, none⟩ (.slice A5 (d0.evs ++ [(⟨N, ags, A3, c3⟩ : Em)]).length c5)).heap.size := X2.lt
      obtain ⟨w6, hw6⟩ : ∃ w6, (w5.setCell ⟨bL, ps.length * 2 + 1, none⟩ (.slice A5 (d0.evs ++ [(⟨N, ags, A3, c3⟩ : Em)]).length c5)) = w6 := ⟨_, rfl⟩
      rw [show (d0.evs ++ [(⟨N, ags, A3, c3⟩ : Em)]).length = d0.evs.length + 1 by simp] at hw6
      have hw6' := hw6
      rw [show d0.evs.length + 1 = (d0.evs ++ [(⟨N, ags, A3, c3⟩ : Em)]).length by simp] at hw6'
      rw [hw6'] at X1 X2 HOT HTN hxs
      obtain ⟨f0, f1, f2, f3, f4, f5⟩ := cF6 X2
      obtain ⟨i0, i1, i2, i3, i4, i5⟩ := cC6 X1
      obtain ⟨k0, k1, k2, k3, k4, k5⟩ := cC6 X2
      simp at i0 i1 i2 i3 i4 i5 k0 k1 k2 k3 k4 k5
      have HZF := hid (held_put6 X2 (.string (strOfNums xs)) (.int .i64 (F j).2.1) (.int .i64 (F j).2.2) (.slice TA D.length TC) (.slice (some ⟨bL, 0, none⟩) (ps.length + 1) LC) (.int .u64 nk))
      have HPG := hid (grown_put6 w6 (B + 1) (.string (strOfNums xs)) (.int .i64 (F j).2.1) (.int .i64 (F j).2.2) (.slice TA D.length TC) (.slice (some ⟨bL, 0, none⟩) (ps.length + 1) LC) (.int .u64 nk))
      have hbig : B + 1 < w6.heap.size := hxs
      have HX2 := hid X2
      clear X1 X2 x1 x2 x3 hot htn hO5 hg5 hcell hfz hS5 hS0
      rw [hw6]
      clear hw6 hw6'
      go_wp2_with fail
      generalize ((((((w6.setCell ⟨(B + 1), 0, none⟩ (.string (strOfNums xs))).setCell ⟨(B + 1), 1, none⟩ (.int .i64 (F j).2.1)).setCell ⟨(B + 1), 2, none⟩ (.int .i64 (F j).2.2)).setCell ⟨(B + 1), 3, none⟩ (.slice TA D.length TC)).setCell ⟨(B + 1), 4, none⟩ (.slice (some ⟨bL, 0, none⟩) (ps.length + 1) LC)).setCell ⟨(B + 1), 5, none⟩ (.int .u64 nk)) = wf at HZF HPG ⊢
      refine bodyPost_ret (v := PV xs (F j).2.1 (F j).2.2 TA D.length TC (some ⟨bL, 0, none⟩) (ps.length + 1) LC nk) ?_ ?_ ?_
      ·exact res_event (by simp only [pV]) HZF.out
      ·rfl
      ·unfold PEvGot
       refine ⟨(F j).2.1, (F j).2.2, nk, rfl, HJQ.out, by rw [HEV.out], fun hz => ⟨by rw [HEV.out], ?_⟩, ((Turns.of_below (by rw [hB]; exact HPV.out.bel) (by rw [hB]; exact HN0B.out)).trans HTN.out).then HPG.out (by rw [hB]; omega) (by rw [hB]; exact HN0B.out)⟩
       have hag := HDT.out hz
       obtain ⟨t1, t2⟩ := HOT.out (by rw [hag]; exact HFF.out j) (by omega)
       exact ⟨_, t1.aside HX2.out (by decide) (by decide) (by decide) HPG.out, rfl, by rw [HEV.out, List.map_append, ← hag]; rfl, World.ownsRow.kept t2 HPG.out (.inr (fun e => own_not_held t2 HX2.out (by decide) e.symm))⟩
 ·have hne : (e2 == 0) = false := beq_eq_false_iff_ne.2 he2
  have hne2 : (e2 != 0) = true := bne_iff_ne.2 he2
  have HEE := hid (hhe he2)
  have HE0 := hid he2
  clear hhe hev he2 hsm hck hS hlo hhi hL hD hT
  unfold PEvGot
  generalize evU (ds.map (·.p)) D xs p 0 = R at HEE ⊢
  have HN0B : Hid (n0 ≤ B) := hid (by omega)
  go_enter Tryz.func103, Tryz.ntmps103
  go_wp2_with fail
  refine (HNUM.out _).mono ?_
  rintro r w1 ⟨rfl, hb1⟩
  obtain ⟨q1, q2⟩ := HHB.out (PC xs p 0 TA D.length TC LA (ps.length + 1) LC n) zeroPC
  obtain ⟨q3, q4⟩ := HBL.out (.cells (PC xs p 0 TA D.length TC LA (ps.length + 1) LC n) 111) (.cells zeroPC 111)
  have hs1 := hb1.size
  rw [q4] at hb1 hs1
  have h1 := q1.below hb1 (by omega)
  have r1 := q2.below hb1 (by omega)
  have bl1 := q3.trans (hb1.mono (by omega))
  obtain ⟨⟨f0, f1, f2, f3, f4, f5⟩, c0, c1, c2, c3, c4, c5⟩ := cG6 h1
  simp at c0 c1 c2 c3 c4 c5
  obtain ⟨⟨d0', d1, d2, d3, d4, d5⟩, e0, e1, e2', e3, e4, e5⟩ := cG6 r1
  simp at e0 e1 e2' e3 e4 e5
  have h4 := held_put6 h1 (.string (strOfNums xs)) (.int .i64 q) (.int .i64 e2) (.slice TA D.length TC) (.slice LA (ps.length + 1) LC) (.int .u64 N)
  have r4 := r1.grown (grown_put6 w1 B (.string (strOfNums xs)) (.int .i64 q) (.int .i64 e2) (.slice TA D.length TC) (.slice LA (ps.length + 1) LC) (.int .u64 N)) (by simp)
  have bl4 := bl1.grown (grown_put6 w1 B (.string (strOfNums xs)) (.int .i64 q) (.int .i64 e2) (.slice TA D.length TC) (.slice LA (ps.length + 1) LC) (.int .u64 N)) (by omega) (fun j e => by injection e with e; omega)
  clear h1 r1 bl1 q1 q2 q3 q4 hb1
  have HZ := hid (held_put6 r4 (.string (strOfNums xs)) (.int .i64 q) (.int .i64 e2) (.slice TA D.length TC) (.slice LA (ps.length + 1) LC) (.int .u64 N))
  have HBE := hid (bl4.grown (grown_put6 _ (B + 1) (.string (strOfNums xs)) (.int .i64 q) (.int .i64 e2) (.slice TA D.length TC) (.slice LA (ps.length + 1) LC) (.int .u64 N)) (by have := r4.lt; omega) (fun j e => by injection e with e; omega))
  clear h4 r4 bl4
  go_wp2_with fail
  generalize ((((((((((((w1.setCell ⟨B, 0, none⟩ (.string (strOfNums xs))).setCell ⟨B, 1, none⟩ (.int .i64 q)).setCell ⟨B, 2, none⟩ (.int .i64 e2)).setCell ⟨B, 3, none⟩ (.slice TA D.length TC)).setCell ⟨B, 4, none⟩ (.slice LA (ps.length + 1) LC)).setCell ⟨B, 5, none⟩ (.int .u64 N)).setCell ⟨(B + 1), 0, none⟩ (.string (strOfNums xs))).setCell ⟨(B + 1), 1, none⟩ (.int .i64 q)).setCell ⟨(B + 1), 2, none⟩ (.int .i64 e2)).setCell ⟨(B + 1), 3, none⟩ (.slice TA D.length TC)).setCell ⟨(B + 1), 4, none⟩ (.slice LA (ps.length + 1) LC)).setCell ⟨(B + 1), 5, none⟩ (.int .u64 N)) = wf at HZ HBE ⊢
  refine bodyPost_ret (v := PV xs q e2 TA D.length TC LA (ps.length + 1) LC N) ?_ ?_ ?_
  ·exact res_event (by simp only [pV]) HZ.out
  ·rfl
  ·exact ⟨q, e2, N, rfl, hq, HEE.out.symm, fun h => absurd h HE0.out, Turns.of_below (by rw [hB]; exact HBE.out) (by rw [hB]; exact HN0B.out)⟩
def PPtGot (w : World) (n0 : Nat) (xs : List Int) (R : Pn × Int × Nat × Int) (TA : Option Addr) (TL TC : Nat) (ps : List Pm) (r : Ending) (w' : World) : Prop :=
 ∃ q E A c n, r = .returned (PV xs q E TA TL TC A (ps.length + 1) c n) ∧ q ≤ xs.length ∧ E = R.2.2.2 ∧ (E = 0 → q = R.2.2.1 ∧ ∃ d1 : Pm, OwnT w' n0 (.slice A (ps.length + 1) c) (ps ++ [d1]) ∧ d1.p = R.1) ∧ Turns n0 w w'
structure PqAt (w : World) (n0 n1 B : Nat) (xs : List Int) (TA : Option Addr) (TL TC : Nat) (A : Option Addr) (c : Nat) (n : Int) (ps : List Pm) (tm : Int) (q : Nat) (r : List Ev × Nat × Int) (wr : World) : Prop where
 box : Held wr B 111 (PC xs q r.2.2 TA TL TC A (ps.length + 1) c n)
 res : Held wr (B + 1) 111 zeroPC
 trn : Turns n0 w wr
 siz : n1 ≤ wr.heap.size
 qle : q ≤ xs.length
 pts : r.2.2 = 0 → q = r.2.1 ∧ ∃ d1 : Pm, OwnT wr n0 (.slice A (ps.length + 1) c) (ps ++ [d1]) ∧ d1.tm = tm ∧ d1.evs.map (·.e) = r.1 ∧ wr.ownsRow n1 100 2 (.slice d1.A d1.evs.length d1.c) d1.evs.length (flatE d1.evs)
section
variable {w nb w5 : World} {n0 B q3 : Nat} {xs : List Int} {TA LA A5 : Option Addr} {TL TC LC c5 : Nat} {e3 M tm1 : Int} {ps : List Pm}
theorem pq_start (hB : w.heap.size = B) (hbl : Below B w nb) (hx : Held nb B 111 (PC xs q3 e3 TA TL TC LA ps.length LC M)) (hr : Held nb (B + 1) 111 zeroPC) (hL : OwnT nb n0 (.slice LA ps.length LC) ps) (hn0 : n0 ≤ B) (htm : 0 ≤ tm1 ∧ tm1 < 18446744073709551616) (hq : q3 ≤ xs.length)
  (ho : w5.ownsRow n0 51 2 (.slice A5 (ps ++ [(⟨tm1, [], none, 0⟩ : Pm)]).length c5) (ps ++ [(⟨tm1, [], none, 0⟩ : Pm)]).length (flatN (ps ++ [(⟨tm1, [], none, 0⟩ : Pm)])))
  (hg : (nb.alloc (.cells #[.int .u64 tm1, .slice none 0 0] 51)).grownBy w5 (Value.slice LA ps.length LC).ownBlock) :
  PqAt w n0 nb.heap.size B xs TA TL TC A5 c5 M ps tm1 q3 ([], q3, e3) (w5.setCell ⟨B, 4, none⟩ (.slice A5 (ps.length + 1) c5)) ∧ Held w5 B 111 (PC xs q3 e3 TA TL TC LA ps.length LC M) := by
 have al := (Below.refl nb.heap.size nb).alloc (Nat.le_refl _) (.cells #[.int .u64 tm1, .slice none 0 0] 51)
 have hLa := hL.below al
 have hx5 : Held w5 B 111 (PC xs q3 e3 TA TL TC LA ps.length LC M) := (hx.below al hx.lt).grown hg (fun e => own_not_held hLa.1 (hx.below al hx.lt) (by decide) e)
 have hr5 : Held w5 (B + 1) 111 zeroPC := (hr.below al hr.lt).grown hg (fun e => own_not_held hLa.1 (hr.below al hr.lt) (by decide) e)
 have hgz := hg.size
 rw [World.size_alloc] at hgz
 have hbz := hx.lt
 have ht5 : Turns n0 w w5 := ((Turns.of_below (by rw [hB]; exact hbl) (by omega)).trans (Turns.of_below al (by omega))).trans (Turns.grown hLa.1 (.inl rfl) hg (by rw [World.size_alloc]; omega))
 have h5 : OwnT w5 n0 (.slice A5 (ps.length + 1) c5) (ps ++ [(⟨tm1, [], none, 0⟩ : Pm)]) := by
  have e : (ps ++ [(⟨tm1, [], none, 0⟩ : Pm)]).length = ps.length + 1 := by simp
  refine ⟨by rw [e] at ho ⊢; exact ho, fun d hd => ?_⟩
  rcases List.mem_append.1 hd with hd | hd
  ·exact ⟨(hLa.2 d hd).1.grown hLa.1 (by decide) (by decide) hg, (hLa.2 d hd).2⟩
  ·rw [List.mem_singleton.1 hd]
   exact ⟨⟨World.ownsRow_nil _ _ _ _, by simp⟩, htm⟩
 have hgp := grown_put w5 B 4 (.slice A5 (ps.length + 1) c5)
 refine ⟨⟨by simpa using hx5.put 4 (.slice A5 (ps.length + 1) c5), hr5.other_put (by omega) _, ht5.then hgp (by omega) (by omega), by have := hgp.size; omega, hq, fun _ => ⟨rfl, _, h5.aside hx5 (by decide) (by decide) (by decide) hgp, rfl, rfl, World.ownsRow_nil _ _ _ _⟩⟩, hx5⟩
theorem PqAt.more {wr w7 : World} {n1 q' : Nat} {A : Option Addr} {c : Nat} {n n' e' tm : Int} {q : Nat} {r : List Ev × Nat × Int} {R : Ev × Nat × Int} {d1 : Pm} (h : PqAt w n0 n1 B xs TA TL TC A c n ps tm q r wr) (hB : w.heap.size = B) (hn0 : n0 ≤ B) (hd : d1.tm = tm ∧ d1.evs.map (·.e) = r.1)
  (ht : Turns n0 wr w7) (hq : q' ≤ xs.length) (he : e' = R.2.2) (hok : e' = 0 → q' = R.2.1 ∧ ∃ d2 : Pm, OwnT w7 n0 (.slice A (ps.length + 1) c) (ps ++ [d2]) ∧ d2.tm = d1.tm ∧ d2.evs.map (·.e) = d1.evs.map (·.e) ++ [R.1] ∧ w7.ownsRow n1 100 2 (.slice d2.A d2.evs.length d2.c) d2.evs.length (flatE d2.evs)) :
  PqAt w n0 n1 B xs TA TL TC A c n' ps tm q' (r.1 ++ [R.1], R.2) ((((((w7.setCell ⟨B, 0, none⟩ (.string (strOfNums xs))).setCell ⟨B, 1, none⟩ (.int .i64 q')).setCell ⟨B, 2, none⟩ (.int .i64 e')).setCell ⟨B, 3, none⟩ (.slice TA TL TC)).setCell ⟨B, 4, none⟩ (.slice A (ps.length + 1) c)).setCell ⟨B, 5, none⟩ (.int .u64 n')) ∧
   Held w7 B 111 (PC xs q r.2.2 TA TL TC A (ps.length + 1) c n) := by
 subst he
 have hx7 := ht.held h.box (by decide) (by decide)
 have hr7 := ht.held h.res (by decide) (by decide)
 have hgp := grown_put6 w7 B (.string (strOfNums xs)) (.int .i64 q') (.int .i64 R.2.2) (.slice TA TL TC) (.slice A (ps.length + 1) c) (.int .u64 n')
 refine ⟨⟨held_put6 hx7 _ _ _ _ _ _, hr7.grown hgp (by simp), (h.trn.trans ht).then hgp (by omega) (by omega), Nat.le_trans h.siz (Nat.le_trans ht.2.1 hgp.size), hq, fun hz => ?_⟩, hx7⟩
 obtain ⟨a1, d2, a2, a3, a4, a5⟩ := hok hz
 exact ⟨a1, d2, a2.aside hx7 (by decide) (by decide) (by decide) hgp, a3.trans hd.1, by rw [a4, hd.2], World.ownsRow.kept a5 hgp (.inr (fun e => own_not_held a5 hx7 (by decide) e.symm))⟩
end
theorem pt_eq {sig : List Pr} {D : List (List Int)} {xs : List Int} {i q1 q2 M : Nat} {s : Int × Nat × Int} {tm1 e1 e2 : Int} (h : whenU xs i s = (tm1, q1, e1)) (h2 : nx 1024 xs q1 e1 = ((M : Int), q2, e2)) :
  ptU sig D xs i s = (⟨tm1, (evnU sig D xs (q2, e2) M).1⟩, tm1, (evnU sig D xs (q2, e2) M).2) := by
 unfold ptU evsU
 rw [h]
 simp only
 rw [h2, Int.toNat_natCast]
theorem ppoint_any {w : World} {n0 : Nat} {xs : List Int} {D : List (List Int)} {p : Nat} {TA LA : Option Addr} {TC LC nT : Nat} {n base : Int} {ds : List Pd} (sA : Option Addr) (sc : Nat) {ps : List Pm} {i : Nat} {tm : Int} {b : Bool} (hp : p ≤ xs.length) (hl : xs.length ≤ 1000000) (hb : ∀ x ∈ xs, 0 ≤ x ∧ x < 256)
  (hT : w.ownsRow nT 9 1 (.slice TA D.length TC) D.length (strVs D)) (hDl : D.length ≤ 4096) (hD : Tx200 D) (hL : OwnT w n0 (.slice LA ps.length LC) ps) (hpl : ps.length ≤ 1024) (hn0 : n0 ≤ w.heap.size)
  (hS : PredRow w n0 (.slice sA ds.length sc) ds) (hck : checkP (ds.map (·.p)) = 0) (htm : 0 ≤ tm ∧ tm < 18446744073709551616) (hi : b = decide (i = 0)) (h0 : i = 0 → base = tm) (h1 : i ≠ 0 → ∃ d, ps[ps.length - 1]? = some d ∧ d.tm = tm ∧ 0 < ps.length) :
  Calls Tryz.prog 53 #[PV xs p 0 TA D.length TC LA ps.length LC n, .slice sA ds.length sc, .bool b, .int .u64 base] w (PPtGot w n0 xs (ptU (ds.map (·.p)) D xs i (tm, p, 0)) TA D.length TC ps) := by
 obtain ⟨B, hB⟩ : ∃ B, w.heap.size = B := ⟨_, rfl⟩
 have hX1 : Hid (ps.length + 1 ≤ maxLen) := hid (by unfold maxLen; omega)
 have hX2 : Hid ((ps.length + 1) * 32 ≤ 140737488355328) := hid (by omega)
 obtain ⟨ip, hip, hp0, hp1, hp2⟩ := info_parts Tryz.infoPoint
 obtain ⟨-, htc1, htc2⟩ := (ERow.of_own hT).len
 obtain ⟨-, hlc1, hlc2⟩ := hL.row.1.len
 obtain ⟨hsc1, hsc2⟩ : ds.length ≤ sc ∧ sc ≤ 9223372036854775807 := by
  obtain ⟨A', c', hv, q1, q2⟩ := hS.form
  injection hv with _ _ e3
  exact ⟨by omega, by omega⟩
 have hHB : ∀ (o1 : Array Value) (cs : Array Value), Held ((w.alloc (.cells o1 111)).alloc (.cells cs 111)) B 111 o1 ∧ Held ((w.alloc (.cells o1 111)).alloc (.cells cs 111)) (B + 1) 111 cs := fun o1 cs => by
  have h : Held ((w.alloc (.cells o1 111)).alloc (.cells cs 111)) (w.alloc (.cells o1 111)).heap.size 111 cs := heap_alloc_new _ _
  have h1 : Held (w.alloc (.cells o1 111)) w.heap.size 111 o1 := heap_alloc_new _ _
  rw [World.size_alloc, hB] at h
  rw [hB] at h1
  exact ⟨h1.below ((Below.refl _ _).alloc (Nat.le_refl _) _) h1.lt, h⟩
 have hbl : ∀ (o1 o2 : Obj), Below B w ((w.alloc o1).alloc o2) ∧ ((w.alloc o1).alloc o2).heap.size = B + 2 := fun o1 o2 => ⟨((Below.refl _ _).alloc (by omega) _).alloc (by rw [World.size_alloc]; omega) _, by rw [World.size_alloc, World.size_alloc, hB]⟩
 have HHB := hid hHB
 have HBL := hid hbl
 clear hHB hbl
 by_cases h0i : i = 0
 focus
  obtain ⟨tm1, rfl⟩ : ∃ x, x = tm := ⟨_, rfl⟩
  have htm1 := htm
  subst h0i
  rw [h0 rfl]
  obtain rfl : b = true := by rw [hi]; rfl
  clear hi h0 h1
  have hwh : whenU xs 0 (tm1, p, 0) = (tm1, p, 0) := rfl
  obtain ⟨⟨M, hM, hM1, hM64⟩, -, hq2⟩ := nx_range (e := 0) hb (m := 1024) (by decide) hp
  have HNM := hid (fun W => pnum_any (TA := TA) (TL := D.length) (TC := TC) (LA := LA) (LL := ps.length) (LC := LC) (n := n) (m := 1024) (e := 0) (w := W) hp hl hb)
  obtain ⟨t, ht⟩ : ∃ t, nx 1024 xs p 0 = t := ⟨_, rfl⟩
  change Hid (∀ W, Calls _ _ _ W _) at HNM
  rw [ht] at HNM hM hq2
  obtain ⟨Mi, q2, e2⟩ := t
  simp only at HNM hM hq2
  subst hM
  have hM2 : M ≤ 1024 := by omega
  have HPT := hid (pt_eq (sig := ds.map (·.p)) (D := D) hwh ht)
  obtain ⟨F, hF⟩ : ∃ F : Nat → List Ev × Nat × Int, evnU (ds.map (·.p)) D xs (q2, e2) = F := ⟨_, rfl⟩
  rw [hF] at HPT
  have HF0 := hid (show F 0 = ([], q2, e2) by rw [← hF]; rfl)
  have HFS := hid (fun j => show F (j + 1) = ((F j).1 ++ [(evU (ds.map (·.p)) D xs (F j).2.1 (F j).2.2).1], (evU (ds.map (·.p)) D xs (F j).2.1 (F j).2.2).2) by rw [← hF]; rfl)
  have HFL := hid (fun j => show (F j).1.length = j by rw [← hF]; exact stepsU_length j)
  have HFE := hid (fun (k j : Nat) (h : (F k).2.2 ≠ 0) (hk : k ≤ j) => show (F j).2.2 = (F k).2.2 by
   rw [← hF] at h ⊢
   unfold evnU at h ⊢
   exact stepsU_stop (er := fun s : Nat × Int => s.2) (fun j s hs => evU_stop hs) h j hk)
  have HTT := hid (fun (wr : World) (h : Turns n0 w wr) => show ERow wr wr.heap.size (.slice TA D.length TC) D.length (strVs D) ∧ PredRow wr wr.heap.size (.slice sA ds.length sc) ds from ⟨ERow.of_own (h.own hT (by decide) (by decide)), (hS.below h.1).more (by have := h.2.1; omega)⟩)
  have HL := hid hL
  have HK := hid (show checkP (ds.map (·.p)) = 0 ∧ Tx200 D ∧ (∀ x ∈ xs, 0 ≤ x ∧ x < 256) from ⟨hck, hD, hb⟩)
  have HN0B : Hid (n0 ≤ B) := hid (by omega)
  clear hT hS hL hck hD hb hF ht hwh
  generalize ptU (ds.map (·.p)) D xs 0 (tm1, p, 0) = R at HPT ⊢
  go_enter Tryz.func53, Tryz.ntmps53
  go_wp2_with fail
  refine (HNM.out _).mono ?_
  rintro r w1 ⟨rfl, hb1⟩
  obtain ⟨q1, q2'⟩ := HHB.out (PC xs p 0 TA D.length TC LA ps.length LC n) zeroPC
  obtain ⟨q3, q4⟩ := HBL.out (.cells (PC xs p 0 TA D.length TC LA ps.length LC n) 111) (.cells zeroPC 111)
  have hs1 := hb1.size
  rw [q4] at hb1 hs1
  have x1 := q1.below hb1 (by omega)
  have x2 := q2'.below hb1 (by omega)
  have xb := q3.trans (hb1.mono (by omega))
  clear q1 q2' q3 q4
 rotate_left
 focus
  obtain rfl : b = false := by rw [hi]; exact decide_eq_false h0i
  obtain ⟨d, hd, hdt, hps⟩ := h1 h0i
  clear hi h0 h1
  have HNUM := hid (fun W => pnum_any (TA := TA) (TL := D.length) (TC := TC) (LA := LA) (LL := ps.length) (LC := LC) (n := n) (m := m64) (e := 0) (w := W) hp hl hb)
  change Hid (∀ W, Calls _ _ _ W _) at HNUM
  obtain ⟨⟨N, hN, -, hN64⟩, -, hq⟩ := nx_range (e := 0) hb (m := m64) (by decide) hp
  obtain ⟨t, ht⟩ : ∃ t, nx m64 xs p 0 = t := ⟨_, rfl⟩
  rw [ht] at HNUM hN hq
  unfold m64 at HNUM
  obtain ⟨Ni, q, er⟩ := t
  simp only at HNUM hN hq
  subst hN
  have hwh0 : whenU xs i (tm, p, 0) = ((tm + (N : Int)) % 18446744073709551616, q, if 18446744073709551615 - tm < (N : Int) then stU er 8 else er) := by
   unfold whenU laterU
   rw [if_neg h0i]
   simp only
   rw [ht]
  obtain ⟨tm1, htm1e⟩ : ∃ x, (tm + (N : Int)) % 18446744073709551616 = x := ⟨_, rfl⟩
  have htm1 : 0 ≤ tm1 ∧ tm1 < 18446744073709551616 := by omega
  have hw2 : IntKind.u64.wrap (tm + (N : Int)) = tm1 := by rw [← htm1e]; exact IntKind.wrap_u64 _
  have hw1 : IntKind.u64.wrap (18446744073709551615 - tm) = 18446744073709551615 - tm := IntWalk.u64_in _ (by omega)
  rw [htm1e] at hwh0
  clear htm1e
  obtain ⟨bL, oL, hLA, hbL, hct, -⟩ := hL.row.at hd
  rw [hdt] at hct
  rw [hB] at hbL
  subst hLA
  obtain ⟨k, hk⟩ : ∃ k, ps.length - 1 = k := ⟨_, rfl⟩
  rw [hk] at hct
  have hwl : IntKind.i64.wrap ((ps.length : Int) - 1) = (k : Int) := by rw [IntWalk.i64_in _ (by omega)]; omega
  have hki : (k : Int) < (ps.length : Int) := by omega
  have hk0 : (0 : Int) ≤ (k : Int) := by omega
  have hkn : k < ps.length := by omega
  clear ht hd hdt hk
  obtain ⟨e1, he1⟩ : ∃ x, (if 18446744073709551615 - tm < (N : Int) then stU er 8 else er) = x := ⟨_, rfl⟩
  rw [he1] at hwh0
  have hwh : whenU xs i (tm, p, 0) = (tm1, q, e1) := hwh0
  obtain ⟨⟨M, hM, hM1, hM64⟩, -, hq2⟩ := nx_range (e := e1) hb (m := 1024) (by decide) hq
  have HNM := hid (fun W => pnum_any (TA := TA) (TL := D.length) (TC := TC) (LA := (some ⟨bL, oL, none⟩)) (LL := ps.length) (LC := LC) (n := N) (m := 1024) (e := e1) (w := W) hq hl hb)
  obtain ⟨t, ht⟩ : ∃ t, nx 1024 xs q e1 = t := ⟨_, rfl⟩
  change Hid (∀ W, Calls _ _ _ W _) at HNM
  rw [ht] at HNM hM hq2
  obtain ⟨Mi, q2, e2⟩ := t
  simp only at HNM hM hq2
  subst hM
  have hM2 : M ≤ 1024 := by omega
  have HPT := hid (pt_eq (sig := ds.map (·.p)) (D := D) hwh ht)
  obtain ⟨F, hF⟩ : ∃ F : Nat → List Ev × Nat × Int, evnU (ds.map (·.p)) D xs (q2, e2) = F := ⟨_, rfl⟩
  rw [hF] at HPT
  have HF0 := hid (show F 0 = ([], q2, e2) by rw [← hF]; rfl)
  have HFS := hid (fun j => show F (j + 1) = ((F j).1 ++ [(evU (ds.map (·.p)) D xs (F j).2.1 (F j).2.2).1], (evU (ds.map (·.p)) D xs (F j).2.1 (F j).2.2).2) by rw [← hF]; rfl)
  have HFL := hid (fun j => show (F j).1.length = j by rw [← hF]; exact stepsU_length j)
  have HFE := hid (fun (k j : Nat) (h : (F k).2.2 ≠ 0) (hk : k ≤ j) => show (F j).2.2 = (F k).2.2 by
   rw [← hF] at h ⊢
   unfold evnU at h ⊢
   exact stepsU_stop (er := fun s : Nat × Int => s.2) (fun j s hs => evU_stop hs) h j hk)
  have HTT := hid (fun (wr : World) (h : Turns n0 w wr) => show ERow wr wr.heap.size (.slice TA D.length TC) D.length (strVs D) ∧ PredRow wr wr.heap.size (.slice sA ds.length sc) ds from ⟨ERow.of_own (h.own hT (by decide) (by decide)), (hS.below h.1).more (by have := h.2.1; omega)⟩)
  have HL := hid hL
  have HK := hid (show checkP (ds.map (·.p)) = 0 ∧ Tx200 D ∧ (∀ x ∈ xs, 0 ≤ x ∧ x < 256) from ⟨hck, hD, hb⟩)
  have HN0B : Hid (n0 ≤ B) := hid (by omega)
  clear hT hS hL hck hD hb hF ht hwh
  clear hwh0
  generalize ptU (ds.map (·.p)) D xs i (tm, p, 0) = R at HPT ⊢
  go_enter Tryz.func53, Tryz.ntmps53
  go_wp2_with fail
  refine (HNUM.out _).mono ?_
  rintro r w0 ⟨rfl, hb0⟩
  obtain ⟨q1, q2'⟩ := HHB.out (PC xs p 0 TA D.length TC (some ⟨bL, oL, none⟩) ps.length LC n) zeroPC
  obtain ⟨q3, q4⟩ := HBL.out (.cells (PC xs p 0 TA D.length TC (some ⟨bL, oL, none⟩) ps.length LC n) 111) (.cells zeroPC 111)
  have hs0 := hb0.size
  rw [q4] at hb0 hs0
  have x1 := q1.below hb0 (by omega)
  have x2 := q2'.below hb0 (by omega)
  have xb := q3.trans (hb0.mono (by omega))
  clear q1 q2' q3 q4 hb0
  obtain ⟨⟨f0, f1, f2, f3, f4, f5⟩, z0, z1, z2, z3, z4, z5⟩ := cG6 x1
  simp at z0 z1 z2 z3 z4 z5
  obtain ⟨nb, hnb⟩ : ∃ nb, ((((((w0.setCell ⟨B, 0, none⟩ (.string (strOfNums xs))).setCell ⟨B, 1, none⟩ (.int .i64 q)).setCell ⟨B, 2, none⟩ (.int .i64 er)).setCell ⟨B, 3, none⟩ (.slice TA D.length TC)).setCell ⟨B, 4, none⟩ (.slice (some ⟨bL, oL, none⟩) ps.length LC)).setCell ⟨B, 5, none⟩ (.int .u64 N)) = nb := ⟨_, rfl⟩
  have y1 : Held nb B 111 (PC xs q er TA D.length TC (some ⟨bL, oL, none⟩) ps.length LC N) := by rw [← hnb]; exact held_put6 x1 _ _ _ _ _ _
  have hgp : w0.grownBy nb (some B) := by rw [← hnb]; exact grown_put6 w0 B _ _ _ _ _ _
  have y2 : Held nb (B + 1) 111 zeroPC := x2.grown hgp (by simp)
  have yb : Below B w nb := xb.grown hgp (by omega) (fun j e => by injection e with e; omega)
  have yt : nb.cell? ⟨bL, oL + k * 2, none⟩ = some (.int .u64 tm) := (yb.cell (p := ⟨bL, oL + k * 2, none⟩) hbL).trans hct
  obtain ⟨p0, p1, p2, p3, p4, p5⟩ := cC6 y1
  simp at p0 p1 p2 p3 p4 p5
  have Y1 := hid y1
  have Y2 := hid y2
  have YB := hid yb
  clear x1 x2 xb y1 y2 yb hgp hct
  by_cases he : er = 0
  focus
   subst he
   have HALL := hid (show (0 ≤ tm ∧ tm < 18446744073709551616) ∧ (0 ≤ tm1 ∧ tm1 < 18446744073709551616) ∧ (M ≤ 1024) ∧ (n0 ≤ w.heap.size) ∧ (M < 18446744073709551616) from ⟨htm, htm1, hM2, hn0, hM64⟩)
   clear htm htm1 hM2 hn0 hM64 hN64 hM1 hs0
   by_cases hlt : 18446744073709551615 - tm < (N : Int)
   focus
    have e1v : e1 = 8 := by rw [← he1, if_pos hlt]; exact stU_zero 8
    subst e1v
    have HBAD := hid (fun W => pbad_any (xs := xs) (p := q) (e := 0) (TA := TA) (TL := D.length) (TC := TC) (LA := (some ⟨bL, oL, none⟩)) (LL := ps.length) (LC := LC) (n := (N : Int)) (w := W) 8)
    rw [stU_zero] at HBAD
    have hcmp : decide (18446744073709551615 - tm < (N : Int)) = true := decide_eq_true hlt
    subst hnb
    go_wp2_with fail
    obtain ⟨htm, htm1, hM2, hn0, hM64⟩ := HALL.out
    clear hcmp hlt
    generalize ((((((w0.setCell ⟨B, 0, none⟩ (.string (strOfNums xs))).setCell ⟨B, 1, none⟩ (.int .i64 q)).setCell ⟨B, 2, none⟩ (.int .i64 0)).setCell ⟨B, 3, none⟩ (.slice TA D.length TC)).setCell ⟨B, 4, none⟩ (.slice (some ⟨bL, oL, none⟩) ps.length LC)).setCell ⟨B, 5, none⟩ (.int .u64 N)) = nb at Y1 Y2 YB yt p0 p1 p2 p3 p4 p5 ⊢
    refine (HBAD.out _).mono ?_
    rintro r w2 ⟨rfl, hb2⟩
    have x1 := Y1.out.below hb2 Y1.out.lt
    have x2 := Y2.out.below hb2 Y2.out.lt
    have xb := YB.out.trans (hb2.mono (by have := Y1.out.lt; omega))
    clear Y1 Y2 YB yt p0 p1 p2 p3 p4 p5 hb2 f0 f1 f2 f3 f4 f5 z0 z1 z2 z3 z4 z5
    obtain ⟨⟨f0, f1, f2, f3, f4, f5⟩, z0, z1, z2, z3, z4, z5⟩ := cG6 x1
    simp at z0 z1 z2 z3 z4 z5
    obtain ⟨nb, hnb⟩ : ∃ nb, ((((((w2.setCell ⟨B, 0, none⟩ (.string (strOfNums xs))).setCell ⟨B, 1, none⟩ (.int .i64 q)).setCell ⟨B, 2, none⟩ (.int .i64 8)).setCell ⟨B, 3, none⟩ (.slice TA D.length TC)).setCell ⟨B, 4, none⟩ (.slice (some ⟨bL, oL, none⟩) ps.length LC)).setCell ⟨B, 5, none⟩ (.int .u64 N)) = nb := ⟨_, rfl⟩
    have y1 : Held nb B 111 (PC xs q 8 TA D.length TC (some ⟨bL, oL, none⟩) ps.length LC N) := by rw [← hnb]; exact held_put6 x1 _ _ _ _ _ _
    have hgp : w2.grownBy nb (some B) := by rw [← hnb]; exact grown_put6 w2 B _ _ _ _ _ _
    have y2 : Held nb (B + 1) 111 zeroPC := x2.grown hgp (by simp)
    have yb : Below B w nb := xb.grown hgp (by have := x1.lt; omega) (fun j e => by injection e with e; omega)
    obtain ⟨p0, p1, p2, p3, p4, p5⟩ := cC6 y1
    simp at p0 p1 p2 p3 p4 p5
    have Y1 := hid y1
    have Y2 := hid y2
    have YB := hid yb
    clear x1 x2 xb y1 y2 yb hgp
    subst hnb
    go_wp2_with fail
    generalize ((((((w2.setCell ⟨B, 0, none⟩ (.string (strOfNums xs))).setCell ⟨B, 1, none⟩ (.int .i64 q)).setCell ⟨B, 2, none⟩ (.int .i64 8)).setCell ⟨B, 3, none⟩ (.slice TA D.length TC)).setCell ⟨B, 4, none⟩ (.slice (some ⟨bL, oL, none⟩) ps.length LC)).setCell ⟨B, 5, none⟩ (.int .u64 N)) = w00 at Y1 Y2 YB p0 p1 p2 p3 p4 p5 ⊢
    refine (HNM.out _).mono ?_
    rintro r w1 ⟨rfl, hb1⟩
    have hs1 := hb1.size
    have x1 := Y1.out.below hb1 Y1.out.lt
    have x2 := Y2.out.below hb1 Y2.out.lt
    have xb := YB.out.trans (hb1.mono (by have := Y1.out.lt; omega))
    clear Y1 Y2 YB p0 p1 p2 p3 p4 p5 hb1 f0 f1 f2 f3 f4 f5 z0 z1 z2 z3 z4 z5
    clear hwl hki hk0 hkn hw1 hw2 hps hbL HNUM hs1 d
    generalize (some (⟨bL, oL, none⟩ : Addr)) = LA at *
   rotate_left
   focus
    have e1v : e1 = 0 := by rw [← he1, if_neg hlt]
    subst e1v
    have hcmp : decide (18446744073709551615 - tm < (N : Int)) = false := decide_eq_false (by first | exact hlt | exact Int.not_lt.2 hlt)
    subst hnb
    go_wp2_with fail
    obtain ⟨htm, htm1, hM2, hn0, hM64⟩ := HALL.out
    clear hcmp hlt
    generalize ((((((w0.setCell ⟨B, 0, none⟩ (.string (strOfNums xs))).setCell ⟨B, 1, none⟩ (.int .i64 q)).setCell ⟨B, 2, none⟩ (.int .i64 0)).setCell ⟨B, 3, none⟩ (.slice TA D.length TC)).setCell ⟨B, 4, none⟩ (.slice (some ⟨bL, oL, none⟩) ps.length LC)).setCell ⟨B, 5, none⟩ (.int .u64 N)) = w00 at Y1 Y2 YB yt p0 p1 p2 p3 p4 p5 ⊢
    refine (HNM.out _).mono ?_
    rintro r w1 ⟨rfl, hb1⟩
    have hs1 := hb1.size
    have x1 := Y1.out.below hb1 Y1.out.lt
    have x2 := Y2.out.below hb1 Y2.out.lt
    have xb := YB.out.trans (hb1.mono (by have := Y1.out.lt; omega))
    clear Y1 Y2 YB yt p0 p1 p2 p3 p4 p5 hb1 f0 f1 f2 f3 f4 f5 z0 z1 z2 z3 z4 z5
    clear hwl hki hk0 hkn hw1 hw2 hps hbL HNUM hs1 d
    generalize (some (⟨bL, oL, none⟩ : Addr)) = LA at *
  rotate_left 2
  focus
   have e1v : er = e1 := by rw [← he1, stU_kept he]; split <;> rfl
   subst e1v
   have hne : (er == 0) = false := beq_eq_false_iff_ne.2 he
   subst hnb
   go_wp2_with fail
   generalize ((((((w0.setCell ⟨B, 0, none⟩ (.string (strOfNums xs))).setCell ⟨B, 1, none⟩ (.int .i64 q)).setCell ⟨B, 2, none⟩ (.int .i64 er)).setCell ⟨B, 3, none⟩ (.slice TA D.length TC)).setCell ⟨B, 4, none⟩ (.slice (some ⟨bL, oL, none⟩) ps.length LC)).setCell ⟨B, 5, none⟩ (.int .u64 N)) = w00 at Y1 Y2 YB yt p0 p1 p2 p3 p4 p5 ⊢
   refine (HNM.out _).mono ?_
   rintro r w1 ⟨rfl, hb1⟩
   have hs1 := hb1.size
   have x1 := Y1.out.below hb1 Y1.out.lt
   have x2 := Y2.out.below hb1 Y2.out.lt
   have xb := YB.out.trans (hb1.mono (by have := Y1.out.lt; omega))
   clear Y1 Y2 YB yt p0 p1 p2 p3 p4 p5 hb1 f0 f1 f2 f3 f4 f5 z0 z1 z2 z3 z4 z5
   clear hwl hki hk0 hkn hw1 hw2 hps hbL HNUM hs0 hs1 hN64 d
   generalize (some (⟨bL, oL, none⟩ : Addr)) = LA at *
 all_goals
  obtain ⟨⟨f0, f1, f2, f3, f4, f5⟩, z0, z1, z2, z3, z4, z5⟩ := cG6 x1
  simp at z0 z1 z2 z3 z4 z5
  obtain ⟨nb, hnb⟩ : ∃ nb, ((((((w1.setCell ⟨B, 0, none⟩ (.string (strOfNums xs))).setCell ⟨B, 1, none⟩ (.int .i64 q2)).setCell ⟨B, 2, none⟩ (.int .i64 e2)).setCell ⟨B, 3, none⟩ (.slice TA D.length TC)).setCell ⟨B, 4, none⟩ (.slice LA ps.length LC)).setCell ⟨B, 5, none⟩ (.int .u64 M)) = nb := ⟨_, rfl⟩
  have y1 : Held nb B 111 (PC xs q2 e2 TA D.length TC LA ps.length LC M) := by rw [← hnb]; exact held_put6 x1 _ _ _ _ _ _
  have hgp : w1.grownBy nb (some B) := by rw [← hnb]; exact grown_put6 w1 B _ _ _ _ _ _
  have y2 : Held nb (B + 1) 111 zeroPC := x2.grown hgp (by simp)
  have yb : Below B w nb := xb.grown hgp (by have := x1.lt; omega) (fun j e => by injection e with e; omega)
  have yl : OwnT nb n0 (.slice LA ps.length LC) ps := HL.out.below (by rw [hB]; exact yb)
  obtain ⟨n1, hn1⟩ : ∃ n1, nb.heap.size = n1 := ⟨_, rfl⟩
  have HEW := hid (show ERow (nb.alloc (.cells #[.int .u64 tm1, .slice none 0 0] 51)) (n1 + 1) (.slice (some ⟨n1, 0, none⟩) 1 1) 1 (flatN [(⟨tm1, [], none, 0⟩ : Pm)]) from ERow.held (t := 51) (by rw [← hn1]; exact heap_alloc_new nb _) (by omega) (by unfold maxLen; omega))
  have HOA := hid yl.1
  have HHI := hid (fun (d : Pm) (hd : d ∈ ps) (i : Nat) (e : (Value.slice d.A d.evs.length d.c).ownBlock = some i) => show i < n1 from by rw [← hn1]; exact (World.ownsRow.lt (yl.2 d hd).1.1 i e).2)
  have HST := hid (fun (A5 : Option Addr) (c5 : Nat) (w5 : World) ho hg => pq_start (A5 := A5) (c5 := c5) (w5 := w5) (tm1 := tm1) hB yb y1 y2 yl HN0B.out htm1 hq2 ho hg)
  have hBn : B + 1 < n1 := by rw [← hn1]; exact y2.lt
  have hn01 : n0 ≤ n1 := by have := HN0B.out; omega
  have hX3 := hid (show n0 ≤ n1 + 1 by omega)
  have p4 := y1.cell 4
  have p5 := y1.cell 5
  have g4 := y1.frozen 4
  simp at p4 p5
  rw [hn1] at HST
  clear x1 x2 xb y1 y2 yb yl hgp
  subst hnb
  skip
  go_wp2_with (at_builtin; refine wpList_append_erow _ rfl _ _ 26 51 rfl n0 ip _ 2 32 Tryz.underlying26 hip hp0 hp1 hp2 rfl (by decide) (.slice LA ps.length LC) ps.length (flatN ps) rfl (HOA.out.alloc _) (n1 + 1) (.slice (some ⟨n1, 0, none⟩) 1 1) 1 (flatN [(⟨tm1, [], none, 0⟩ : Pm)]) (by rfl) HEW.out (flatN_length _) (oneN _) hX1.out hX2.out (by rw [World.size_alloc, hn1]; exact hX3.out) (ps ++ [(⟨tm1, [], none, 0⟩ : Pm)]).length (by simp) (flatN (ps ++ [(⟨tm1, [], none, 0⟩ : Pm)])) (by rw [flatN_append]) ?_; intro A5 c5 w5 hO5 hg5 _; obtain ⟨hst, hx5⟩ := HST.out A5 c5 w5 hO5 hg5; have l4 := hx5.cell 4; have lf := hx5.frozen 4; simp at l4)
  have HST5 := hid hst
  clear hO5 hg5 hst hx5 l4 lf p4 p5 g4 f0 f1 f2 f3 f4 f5 z0 z1 z2 z3 z4 z5 HST
  generalize w5.setCell ⟨B, 4, none⟩ (.slice A5 (ps.length + 1) c5) = w6 at HST5 ⊢
  go_loopg [11] M (fun gk i wr => ∃ (j q : Nat) (n5 : Int), j ≤ M ∧ i = .int .i64 j ∧ Hid (M - j = gk) ∧ Hid (PqAt w n0 n1 B xs TA D.length TC A5 c5 n5 ps tm1 q (F j) wr))
  case atStart => exact ⟨0, q2, M, Nat.zero_le _, rfl, hid rfl, hid (by rw [HF0.out]; exact HST5.out)⟩
  case round =>
   obtain ⟨j, q, n5, hj, rfl, HGK, HPQ⟩ := hrel
   have hpq := HPQ.out
   obtain ⟨⟨f0, f1, f2, f3, f4, f5⟩, z0, z1, z2, z3, z4, z5⟩ := cG6 hpq.box
   simp at z0 z1 z2 z3 z4 z5
   by_cases hgo : j < M ∧ (F j).2.2 = 0
   ·obtain ⟨hlt, he⟩ := hgo
    rw [he] at z2
    obtain ⟨hq0, d1, ho, hdt, hde, hlo⟩ := hpq.pts he
    have hdl : d1.evs.length ≤ 1024 := by
     have h := congrArg List.length hde
     rw [List.length_map, HFL.out] at h
     omega
    obtain ⟨hT', hS'⟩ := HTT.out wr hpq.trn
    obtain ⟨hck, hD, hb⟩ := HK.out
    have HCALL := hid (pevent_any (n := n5) sA sc (p := q) hpq.qle hl hb hT' hDl hD ho hpl hdl hn01 hpq.siz hlo HHI.out hS' hck)
    have HMO := hid (fun (w7 : World) (q' : Nat) (E' n' : Int) ht hq' hE' hok => PqAt.more (w7 := w7) (q' := q') (e' := E') (n' := n') (R := evU (ds.map (·.p)) D xs q 0) (d1 := d1) hpq hB HN0B.out ⟨hdt, hde⟩ ht hq' hE' hok)
    have HNX := hid (show F (j + 1) = ((F j).1 ++ [(evU (ds.map (·.p)) D xs q 0).1], (evU (ds.map (·.p)) D xs q 0).2) by rw [HFS.out, he, hq0])
    clear hpq ho hdt hde hlo hT' hS' hck hD hb hq0 he hdl
    go_wp2_with fail
    refine HCALL.out.mono ?_
    rintro rr w7 hgot
    obtain ⟨q', E', n', rfl, hq', hE', hok, htn⟩ := hgot
    obtain ⟨hmore, hx7⟩ := HMO.out w7 q' E' n' htn hq' hE' hok
    rw [← HNX.out] at hmore
    have HMORE := hid hmore
    clear hmore hok htn hE' HCALL HMO f0 f1 f2 f3 f4 f5 z0 z1 z2 z3 z4 z5
    obtain ⟨⟨f0, f1, f2, f3, f4, f5⟩, z0, z1, z2, z3, z4, z5⟩ := cG6 hx7
    simp at z0 z1 z2 z3 z4 z5
    clear hx7
    go_wp2_with fail
    generalize ((((((w7.setCell ⟨B, 0, none⟩ (.string (strOfNums xs))).setCell ⟨B, 1, none⟩ (.int .i64 q')).setCell ⟨B, 2, none⟩ (.int .i64 E')).setCell ⟨B, 3, none⟩ (.slice TA D.length TC)).setCell ⟨B, 4, none⟩ (.slice A5 (ps.length + 1) c5)).setCell ⟨B, 5, none⟩ (.int .u64 n')) = w8 at HMORE ⊢
    go_roundg (M - (j + 1))
    case measure => have := HGK.out; omega
    case rel => exact ⟨j + 1, q', n', by omega, by go_num, hid rfl, HMORE⟩
   ·by_cases hlt : j < M
    ·have he : (F j).2.2 ≠ 0 := fun q => hgo ⟨hlt, q⟩
     have hne : ((F j).2.2 == 0) = false := beq_eq_false_iff_ne.2 he
     have HEE := hid (HFE.out j M he hj)
     have HE0 := hid he
     clear hgo he
     obtain ⟨⟨g0, g1, g2, g3, g4, g5⟩, k0, k1, k2, k3, k4, k5⟩ := cG6 hpq.res
     simp at k0 k1 k2 k3 k4 k5
     have HZF := hid (held_put6 hpq.res (.string (strOfNums xs)) (.int .i64 q) (.int .i64 (F j).2.2) (.slice TA D.length TC) (.slice A5 (ps.length + 1) c5) (.int .u64 n5))
     have HPG := hid (grown_put6 wr (B + 1) (.string (strOfNums xs)) (.int .i64 q) (.int .i64 (F j).2.2) (.slice TA D.length TC) (.slice A5 (ps.length + 1) c5) (.int .u64 n5))
     have hbig := hpq.res.lt
     clear hpq
     go_wp2_with fail
     generalize ((((((wr.setCell ⟨(B + 1), 0, none⟩ (.string (strOfNums xs))).setCell ⟨(B + 1), 1, none⟩ (.int .i64 q)).setCell ⟨(B + 1), 2, none⟩ (.int .i64 (F j).2.2)).setCell ⟨(B + 1), 3, none⟩ (.slice TA D.length TC)).setCell ⟨(B + 1), 4, none⟩ (.slice A5 (ps.length + 1) c5)).setCell ⟨(B + 1), 5, none⟩ (.int .u64 n5)) = wf at HZF HPG ⊢
     refine bodyPost_ret (v := PV xs q (F j).2.2 TA D.length TC A5 (ps.length + 1) c5 n5) ?_ ?_ ?_
     ·exact res_point (by simp only [pV]) HZF.out
     ·rfl
     ·unfold PPtGot
      refine ⟨q, (F j).2.2, A5, c5, n5, rfl, HPQ.out.qle, by rw [HPT.out]; exact HEE.out.symm, fun hz => ?_, HPQ.out.trn.then HPG.out (by rw [hB]; omega) (by rw [hB]; exact HN0B.out)⟩
      exact absurd hz HE0.out
    ·have hjm : j = M := by omega
     subst hjm
     have HEE := hid (show (F j).2.2 = (F j).2.2 from rfl)
     clear hgo
     obtain ⟨⟨g0, g1, g2, g3, g4, g5⟩, k0, k1, k2, k3, k4, k5⟩ := cG6 hpq.res
     simp at k0 k1 k2 k3 k4 k5
     have HZF := hid (held_put6 hpq.res (.string (strOfNums xs)) (.int .i64 q) (.int .i64 (F j).2.2) (.slice TA D.length TC) (.slice A5 (ps.length + 1) c5) (.int .u64 n5))
     have HPG := hid (grown_put6 wr (B + 1) (.string (strOfNums xs)) (.int .i64 q) (.int .i64 (F j).2.2) (.slice TA D.length TC) (.slice A5 (ps.length + 1) c5) (.int .u64 n5))
     have hbig := hpq.res.lt
     clear hpq
     go_wp2_with fail
     generalize ((((((wr.setCell ⟨(B + 1), 0, none⟩ (.string (strOfNums xs))).setCell ⟨(B + 1), 1, none⟩ (.int .i64 q)).setCell ⟨(B + 1), 2, none⟩ (.int .i64 (F j).2.2)).setCell ⟨(B + 1), 3, none⟩ (.slice TA D.length TC)).setCell ⟨(B + 1), 4, none⟩ (.slice A5 (ps.length + 1) c5)).setCell ⟨(B + 1), 5, none⟩ (.int .u64 n5)) = wf at HZF HPG ⊢
     refine bodyPost_ret (v := PV xs q (F j).2.2 TA D.length TC A5 (ps.length + 1) c5 n5) ?_ ?_ ?_
     ·exact res_point (by simp only [pV]) HZF.out
     ·rfl
     ·unfold PPtGot
      refine ⟨q, (F j).2.2, A5, c5, n5, rfl, HPQ.out.qle, by rw [HPT.out], fun hz => ?_, HPQ.out.trn.then HPG.out (by rw [hB]; omega) (by rw [hB]; exact HN0B.out)⟩
      obtain ⟨r1, d1, r2, r3, r4, _⟩ := HPQ.out.pts hz
      exact ⟨by rw [HPT.out]; exact r1, d1, r2.aside HPQ.out.res (by decide) (by decide) (by decide) HPG.out, by rw [HPT.out]; show (⟨d1.tm, d1.evs.map (·.e)⟩ : Pn) = _; rw [r3, r4]⟩
end Go.Proofs.YtimihhcidbeonaaGreat
