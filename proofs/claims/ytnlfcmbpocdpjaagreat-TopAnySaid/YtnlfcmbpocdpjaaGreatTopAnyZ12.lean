/-
  What the theorem of TopAny rests on, part 12 of 16.
-/
import Derived.OwnWalk
import Derived.WalkMore
import Derived.Deep.LoopGhost
import Derived.RangeFuncBox
import Derived.OwnWalkIn
import Derived.Maps.AppendAt
import Derived.RangeFuncCalls
import Derived.Shelf.Abstract
import Derived.TacticsInMore
import Derived.LoopNIn
import Derived.LoopIn
import Derived.Lib.Hide
import Derived.Outline
import Derived.Test.YtnlfcmbpocdpjaaGreatTopAnyZ11
set_option maxRecDepth 100000
set_option maxHeartbeats 16000000
namespace Go.Proofs.YtnlfcmbpocdpjaaGreat
open Lib (hid)
open Go.RowKit
theorem Row.past_put {w : World} {B g : Nat} {t : TypeId} {cs : Array Value} {v : Value} {xs : List Int} (h : Row w B v xs) (hg : Held w g t cs) (hcs : ∀ (i : Nat) (n : Int), cs[i]? ≠ some (.int .u8 n)) (i : Nat) (u : Value) :
  Row (w.setCell ⟨g, i, none⟩ u) B v xs :=
 h.keep_but (g := g) (fun k _ hn => Below.heap_setCell _ ⟨g, i, none⟩ _ k (by simp only; exact hn)) (fun j n => by rw [hg.cell j]; exact hcs j n)
theorem two_nob {x : Int} {v : Value} (hv : ∀ n, v ≠ .int .u8 n) (i : Nat) (n : Int) : (#[Value.int .i64 x, v] : Array Value)[i]? ≠ some (.int .u8 n) := by
 match i with
 | 0 => simp
 | 1 => simpa using hv n
 | i + 2 => simp
theorem at_new (A : Option Addr) (c : Nat) (xs : List Int) (hsm : xs.length ≤ 9223372036854775807) (w : World) (hrow : Row w w.heap.size (.slice A xs.length c) xs) (hb : ∀ x ∈ xs, 0 ≤ x ∧ x < 256) (k : Nat) (hk : k ≤ xs.length) :
  Calls Tryz.prog 28 #[.slice A xs.length c, .int .i64 k] w (FNew w (getFr (xs.drop k))) := by
 have hcs : xs.length ≤ c ∧ c ≤ 9223372036854775807 := by
  obtain ⟨_, _, hv, q1, q2, _⟩ := hrow
  injection hv with _ _ e3
  subst e3
  unfold maxLen at q2
  exact ⟨q1, by omega⟩
 obtain ⟨hlc, hcm⟩ := hcs
 have hrr := hrow.drop hk
 have hrow0 := hrow
 have hbr : ∀ x ∈ xs.drop k, 0 ≤ x ∧ x < 256 := drop_bytes hb k
 have hrl : (xs.drop k).length = xs.length - k := by simp
 have hget := fun W (h : Row W W.heap.size (.slice (if c = k then A else A.map (·.add k)) (xs.drop k).length (c - k)) (xs.drop k)) => fget_new (if c = k then A else A.map (·.add k)) (c - k) (xs.drop k) (by omega) W h hbr
 rw [hrl] at hrr hget
 clear hrow hb hbr hrl
 generalize getFr (xs.drop k) = t at hget ⊢
 have k0 : (0 : Int) ≤ k := by omega
 have k1 : (k : Int) ≤ (xs.length : Int) := by omega
 by_cases hck : c = k
 ·subst hck
  rw [if_pos rfl, Nat.sub_self, show xs.length - c = 0 by omega] at hrr hget
  have HG := hid hget
  have HR := hid hrr
  clear hrr hget
  have HR0 := hid ((HR.out.below ((Below.refl _ _).alloc (Nat.le_refl _) (.cells #[.int .i64 0, .slice none 0 0] 44))).more (by simp : w.heap.size ≤ (w.alloc (.cells #[.int .i64 0, .slice none 0 0] 44)).heap.size))
  go_enter Tryz.func28, Tryz.ntmps28
  go_wp2_with fail
  refine (HG.out _ HR0.out).mono ?_
  rintro e w1 ⟨A1, c1, rfl, hrow1, hb1, hn1⟩
  have HN1 := hid (fun a e => Nat.le_trans (by simp : w.heap.size ≤ (w.alloc (.cells #[.int .i64 0, .slice none 0 0] 44)).heap.size) (hn1 a e)); clear hn1
  have hz1 : w.heap.size + 1 ≤ w1.heap.size := by simpa using hb1.size
  have hres : Held w1 w.heap.size 44 #[.int .i64 0, .slice none 0 0] := (hb1.block w.heap.size (by simp)).trans (heap_alloc_new w _)
  have bw1 : Below w.heap.size w w1 := ((Below.refl _ _).alloc (Nat.le_refl _) _).trans (hb1.mono (by simp))
  obtain ⟨⟨hf0, hf1⟩, hr0, hr1⟩ := cG2 hres
  simp at hr0 hr1
  have HROW1 := hid hrow1
  have HB1 := hid bw1
  have HRES := hid hres
  clear hb1 hrow1 bw1 hres
  go_wp2_with fail
  have hfin := (HRES.out.put 0 (.int .i64 t.1.1)).put 1 (.slice A1 t.1.2.length c1)
  obtain ⟨e0, e1⟩ := cC2 hfin
  simp at e0 e1
  refine bodyPost_ret (v := .tuple #[.agg #[.int .i64 t.1.1, .slice A1 t.1.2.length c1], .int .i64 t.2.1, .int .i64 t.2.2]) (by simp [results, Tryz.results28, go_sem, e0, e1]) rfl ?_
  refine ⟨A1, c1, rfl, ?_, ?_, HN1.out⟩
  ·have h1 := HROW1.out.past_put HRES.out (two_nob (by simp)) 0 (.int .i64 t.1.1)
   have h2 := h1.past_put (by simpa using HRES.out.put 0 (.int .i64 t.1.1)) (two_nob (by simp)) 1 (.slice A1 t.1.2.length c1)
   exact h2.more (by simp)
  ·exact (HB1.out.setCell (p := ⟨w.heap.size, 0, none⟩) (Nat.le_refl _) _).setCell (p := ⟨w.heap.size, 1, none⟩) (Nat.le_refl _) _
 ·rw [if_neg hck] at hrr hget
  have hkc : k < c := by omega
  have hnil : A ≠ none := fun e => by
   obtain ⟨_, _, hv, _, _, q3, _⟩ := hrow0
   injection hv with e1 _ e3
   have := q3 (e1.symm.trans e)
   omega
  obtain ⟨ad, rfl⟩ := Option.ne_none_iff_exists'.1 hnil
  rw [Option.map_some] at hrr hget
  have HG := hid hget
  have HR := hid hrr
  clear hrr hget hnil hrow0
  have HR0 := hid ((HR.out.below ((Below.refl _ _).alloc (Nat.le_refl _) (.cells #[.int .i64 0, .slice none 0 0] 44))).more (by simp : w.heap.size ≤ (w.alloc (.cells #[.int .i64 0, .slice none 0 0] 44)).heap.size))
  go_enter Tryz.func28, Tryz.ntmps28
  go_wp2_with fail
  refine (HG.out _ HR0.out).mono ?_
  rintro e w1 ⟨A1, c1, rfl, hrow1, hb1, hn1⟩
  have HN1 := hid (fun a e => Nat.le_trans (by simp : w.heap.size ≤ (w.alloc (.cells #[.int .i64 0, .slice none 0 0] 44)).heap.size) (hn1 a e)); clear hn1
  have hz1 : w.heap.size + 1 ≤ w1.heap.size := by simpa using hb1.size
  have hres : Held w1 w.heap.size 44 #[.int .i64 0, .slice none 0 0] := (hb1.block w.heap.size (by simp)).trans (heap_alloc_new w _)
  have bw1 : Below w.heap.size w w1 := ((Below.refl _ _).alloc (Nat.le_refl _) _).trans (hb1.mono (by simp))
  obtain ⟨⟨hf0, hf1⟩, hr0, hr1⟩ := cG2 hres
  simp at hr0 hr1
  have HROW1 := hid hrow1
  have HB1 := hid bw1
  have HRES := hid hres
  clear hb1 hrow1 bw1 hres
  go_wp2_with fail
  have hfin := (HRES.out.put 0 (.int .i64 t.1.1)).put 1 (.slice A1 t.1.2.length c1)
  obtain ⟨e0, e1⟩ := cC2 hfin
  simp at e0 e1
  refine bodyPost_ret (v := .tuple #[.agg #[.int .i64 t.1.1, .slice A1 t.1.2.length c1], .int .i64 t.2.1, .int .i64 t.2.2]) (by simp [results, Tryz.results28, go_sem, e0, e1]) rfl ?_
  refine ⟨A1, c1, rfl, ?_, ?_, HN1.out⟩
  ·have h1 := HROW1.out.past_put HRES.out (two_nob (by simp)) 0 (.int .i64 t.1.1)
   have h2 := h1.past_put (by simpa using HRES.out.put 0 (.int .i64 t.1.1)) (two_nob (by simp)) 1 (.slice A1 t.1.2.length c1)
   exact h2.more (by simp)
  ·exact (HB1.out.setCell (p := ⟨w.heap.size, 0, none⟩) (Nat.le_refl _) _).setCell (p := ⟨w.heap.size, 1, none⟩) (Nat.le_refl _) _
theorem at_in (A : Option Addr) (c : Nat) (xs : List Int) (hsm : xs.length ≤ 9223372036854775807) (w : World) (hrow : Row w w.heap.size (.slice A xs.length c) xs) (hb : ∀ x ∈ xs, 0 ≤ x ∧ x < 256) (k : Nat) (hk : k ≤ xs.length) :
  Calls Tryz.prog 28 #[.slice A xs.length c, .int .i64 k] w (FGot w (getFr (xs.drop k))) := (at_new A c xs hsm w hrow hb k hk).mono fun _ _ h => h.got
def oneOf (ws xs : List Int) (a : Nat) : Bool := decide ((getFr (xs.drop a)).2.2 ∈ ws)
def firstW (ws xs : List Int) (frm : Int) : Int := firstI (oneOf ws xs) (xs.length - frm.toNat) frm.toNat
def Placed (w : World) (r : Int) (e : Ending) (w' : World) : Prop := e = .returned (.tuple #[.int .i64 (max r 0), .bool (decide (0 ≤ r))]) ∧ Below w.heap.size w w'
theorem firstW_found {ws xs : List Int} {frm : Int} {r : Nat} (h1 : frm.toNat ≤ r) (h2 : r < xs.length) (hn : ∀ j : Nat, frm.toNat ≤ j → j < r → oneOf ws xs j = false) (hr : (getFr (xs.drop r)).2.2 ∈ ws) : firstW ws xs frm = (r : Int) :=
 first_found _ _ r h1 (by omega) hn (by simp [oneOf, hr])
theorem firstW_none {ws xs : List Int} {frm : Int} (hn : ∀ j : Nat, frm.toNat ≤ j → j < xs.length → oneOf ws xs j = false) : firstW ws xs frm = -1 :=
 first_none _ _ (fun j h1 h2 => hn j h1 (by omega))
theorem placed_found {w w' : World} {r : Int} (n : Nat) (h : r = n) (hb : Below w.heap.size w w') : Placed w r (.returned (.tuple #[.int .i64 n, .bool true])) w' := by
 subst h
 refine ⟨?_, hb⟩
 rw [show max (n : Int) 0 = (n : Int) by omega, show decide (0 ≤ (n : Int)) = true by simp]
theorem placed_none {w w' : World} {r : Int} (h : r = -1) (hb : Below w.heap.size w w') : Placed w r (.returned (.tuple #[.int .i64 0, .bool false])) w' := by
 subst h
 exact ⟨rfl, hb⟩
theorem intVs_at {ws : List Int} {k : Nat} (h : k < ws.length) : (ws.map (Value.int .i64))[k]? = some (.int .i64 (ws.getD k 0)) := by simp [List.getD, List.getElem?_eq_getElem h]
theorem first_any (A : Option Addr) (c : Nat) (xs : List Int) (hsm : xs.length ≤ 9223372036854775807) (w : World) (hrow : Row w w.heap.size (.slice A xs.length c) xs) (hb : ∀ x ∈ xs, 0 ≤ x ∧ x < 256)
  (frm : Int) (h1 : -9223372036854775808 ≤ frm) (h2 : frm ≤ 9223372036854775807) (D : Option Addr) (dn dc : Nat) (ws : List Int) (hws : VRow w w.heap.size (.slice D dn dc) (ws.map (.int .i64))) (hwn : dn ≤ 1000) :
  Calls Tryz.prog 120 #[.slice A xs.length c, .int .i64 frm, .slice D dn dc] w (Placed w (firstW ws xs frm)) := by
 obtain ⟨hdn, _, _⟩ := hws.length
 rw [List.length_map] at hdn
 subst hdn
 have hM : max frm 0 = ((frm.toNat : Nat) : Int) := by omega
 have hm2 : frm.toNat ≤ 9223372036854775807 := by omega
 have hfound := fun r => @firstW_found ws xs frm r
 have hnone := @firstW_none ws xs frm
 have HAT := hid (fun W (h : Row W W.heap.size (.slice A xs.length c) xs) k hk => at_in A c xs hsm W h hb k hk)
 generalize firstW ws xs frm = R at hfound hnone ⊢
 generalize frm.toNat = M at hM hm2 hfound hnone
 have HF := hid hfound
 have HN := hid hnone
 have HROW := hid hrow
 have HWS := hid hws
 clear hrow hb hws hfound hnone
 go_enter Tryz.func120, Tryz.ntmps120
 go_wp2_with fail
 go_step3
 go_wp2_with fail
 go_step3
 go_wp2_with fail
 have HM := hid hM; clear hM
 go_loopg [8, 9, 10] (xs.length - M) (fun g p f i wr => ∃ a : Nat, p = .int .i64 0 ∧ f = .bool false ∧ i = .int .i64 a ∧ M ≤ a ∧ a ≤ 9223372036854775807 ∧ Hid (xs.length - a = g) ∧ Hid (∀ j : Nat, M ≤ j → j < a → oneOf ws xs j = false) ∧ Below w.heap.size w wr)
 case atStart => exact ⟨M, rfl, rfl, rfl, Nat.le_refl _, hm2, hid rfl, hid (fun j h1 h2 => by omega), Below.refl _ _⟩
 case round =>
  obtain ⟨a, rfl, rfl, rfl, ha, ha2, HG0, HO, hbw⟩ := hrel
  have hsw := hbw.size
  by_cases hlt : a < xs.length
  ·have HA := hid (HAT.out wr ((HROW.out.below hbw).more hsw) a (by omega))
   generalize hT : getFr (xs.drop a) = T at HA
   have HT := hid hT; clear hT
   have HBW := hid hbw; clear hbw
   go_wp2_with fail
   refine HA.out.mono ?_
   rintro e w1 ⟨A1, c1, rfl, _, hb1⟩
   have hz1 := hb1.size
   have hbw1 : Below w.heap.size w w1 := HBW.out.trans (hb1.mono hsw)
   have HBW1 := hid (hbw1.alloc (by omega) (.cells #[.int .i64 T.1.1, .slice A1 T.1.2.length c1] 44))
   clear hb1 hbw1
   obtain ⟨er, hE⟩ : ∃ er, T.2.2 = er := ⟨_, rfl⟩
   rw [hE]
   have HE := hid hE; clear hE
   go_wp2_with fail
   obtain ⟨w2, hw2⟩ : ∃ w2, w1.alloc (.cells #[.int .i64 T.1.1, .slice A1 T.1.2.length c1] 44) = w2 := ⟨_, rfl⟩
   rw [hw2] at HBW1 ⊢
   clear hw2 hz1
   have HWS2 := hid (HWS.out.below HBW1.out)
   go_loopg [8, 9, 33] ws.length (fun g p f i wr => ∃ k : Nat, p = .int .i64 0 ∧ f = .bool false ∧ i = .int .i64 k ∧ k ≤ ws.length ∧ Hid (ws.length - k = g) ∧ Hid (∀ j : Nat, j < k → ws.getD j 0 ≠ er) ∧ w2 = wr)
   case atStart => exact ⟨0, rfl, rfl, rfl, Nat.zero_le _, hid rfl, hid (fun j h => absurd h (Nat.not_lt_zero _)), rfl⟩
   case round =>
    obtain ⟨k, rfl, rfl, rfl, hk, HG1, HJ, rfl⟩ := hrel
    by_cases hkl : k < ws.length
    ·have hc : ∃ b o, D = some ⟨b, o, none⟩ ∧ w2.cell? ⟨b, o + k, none⟩ = some (.int .i64 (ws.getD k 0)) := by
      obtain ⟨_, _, hv, _, _, _, h4⟩ := HWS2.out
      injection hv with e1 _ _
      obtain ⟨b, o, e, _, hc⟩ := h4 (by rw [List.length_map]; omega)
      exact ⟨b, o, e1.trans e, hc k _ (intVs_at hkl)⟩
     obtain ⟨b, o, rfl, hck⟩ := hc
     obtain ⟨y, hy⟩ : ∃ y, ws.getD k 0 = y := ⟨_, rfl⟩
     rw [hy] at hck
     have HY := hid hy; clear hy
     by_cases hye : er = y
     ·subst hye
      have hin : (getFr (xs.drop a)).2.2 ∈ ws := by
       rw [HT.out, HE.out, ← HY.out, List.getD, List.getElem?_eq_getElem hkl]
       simp
      have hR := HF.out a ha hlt HO.out hin
      have HR := hid hR
      clear hR hin
      go_wp2_with fail
      rw [Exit.noGoto_ret]
      go_ret2
      exact placed_found a HR.out HBW1.out
     ·have hb1 : (er == y) = false := beq_eq_false_iff_ne.2 hye
      have hj2 : ∀ j : Nat, j < k + 1 → ws.getD j 0 ≠ er := fun j hj => by
       rcases Nat.lt_or_ge j k with h | h
       ·exact HJ.out j h
       ·obtain rfl : j = k := by omega
        rw [HY.out]
        exact fun e => hye e.symm
      have HJ2 := hid hj2
      clear hye hj2
      go_wp2_with fail
      go_roundg (ws.length - (k + 1))
      case measure => have := HG1.out; omega
      case rel => exact ⟨k + 1, rfl, rfl, by go_num, by omega, hid rfl, HJ2, rfl⟩
    ·obtain rfl : k = ws.length := by omega
     have hno : oneOf ws xs a = false := by
      unfold oneOf
      rw [decide_eq_false_iff_not, HT.out, HE.out]
      intro hm
      obtain ⟨j, hj, e⟩ := List.getElem_of_mem hm
      exact HJ.out j hj (by rw [List.getD, List.getElem?_eq_getElem hj]; exact e)
     have ho2 : ∀ j : Nat, M ≤ j → j < a + 1 → oneOf ws xs j = false := fun j q1 q2 => by
      rcases Nat.lt_or_ge j a with h | h
      ·exact HO.out j q1 h
      ·obtain rfl : j = a := by omega
       exact hno
     have HO2 := hid ho2
     clear hno ho2
     go_wp2_with fail
     go_roundg (xs.length - (a + 1))
     case measure => have := HG0.out; omega
     case rel => exact ⟨a + 1, rfl, rfl, by go_num, by omega, by omega, hid rfl, HO2, HBW1.out⟩
  ·have hge : xs.length ≤ a := by omega
   have hR := HN.out (fun j q1 q2 => HO.out j q1 (by omega))
   have HR := hid hR
   clear hR
   have HB := hid hbw
   clear hbw
   go_wp2_with fail
   go_ret2
   exact placed_none HR.out HB.out
theorem firstW_next (xs : List Int) (frm : Int) : firstW [0] xs frm = nextI false xs frm := by
 unfold firstW nextI
 rw [show oneOf [0] xs = begI false xs from funext fun a => by simp only [oneOf, begI, Bool.false_and, Bool.or_false, List.mem_singleton]; rfl]
theorem firstW_open (xs : List Int) (frm : Int) : firstW [0, 2] xs frm = nextI true xs frm := by
 unfold firstW nextI
 rw [show oneOf [0, 2] xs = begI true xs from funext fun a => by
  simp only [oneOf, begI, Bool.true_and, List.mem_cons, List.not_mem_nil, or_false]
  rw [Bool.eq_iff_iff]
  simp]
theorem vrow_new (w : World) (t : TypeId) (us : List Value) (hu : us.length ≤ 1000) : VRow (w.alloc (.cells us.toArray t)) (w.alloc (.cells us.toArray t)).heap.size (.slice (some ⟨w.heap.size, 0, none⟩) us.length us.length) us := by
 refine ⟨_, _, rfl, Nat.le_refl _, by unfold maxLen; omega, fun h => by simp at h, fun _ => ⟨w.heap.size, 0, rfl, by simp, fun i u hi => ?_⟩⟩
 have h : Held (w.alloc (.cells us.toArray t)) w.heap.size t us.toArray := heap_alloc_new w _
 rw [Nat.zero_add, h.cell i]
 simpa using hi
section
variable (A : Option Addr) (c : Nat) (xs : List Int) (hsm : xs.length ≤ 9223372036854775807) (w : World) (hrow : Row w w.heap.size (.slice A xs.length c) xs) (hb : ∀ x ∈ xs, 0 ≤ x ∧ x < 256) (frm : Int) (h1 : -9223372036854775808 ≤ frm) (h2 : frm ≤ 9223372036854775807)
include hsm hrow hb h1 h2
theorem next_any : Calls Tryz.prog 76 #[.slice A xs.length c, .int .i64 frm] w (Placed w (nextI false xs frm)) := by
 have hbx : Below w.heap.size w (w.alloc (.cells #[.int .i64 0] 32)) := (Below.refl _ _).alloc (Nat.le_refl _) _
 have hf := first_any A c xs hsm _ ((hrow.below hbx).more (by simp)) hb frm h1 h2 _ 1 1 [0] (vrow_new w 32 [.int .i64 0] (by simp)) (by omega)
 rw [firstW_next] at hf
 have HF := hid hf
 have HB := hid hbx
 clear hf hrow hb hsm hbx
 go_enter Tryz.func76, Tryz.ntmps76
 go_wp2_with fail
 refine HF.out.mono ?_
 rintro e w1 ⟨rfl, hb1⟩
 have HB1 := hid (HB.out.trans (hb1.mono (by simp)))
 clear hb1
 go_wp2_with fail
 go_ret2
 exact ⟨rfl, HB1.out⟩
theorem open_any : Calls Tryz.prog 73 #[.slice A xs.length c, .int .i64 frm] w (Placed w (nextI true xs frm)) := by
 have hbx : Below w.heap.size w (w.alloc (.cells #[.int .i64 0, .int .i64 2] 32)) := (Below.refl _ _).alloc (Nat.le_refl _) _
 have hf := first_any A c xs hsm _ ((hrow.below hbx).more (by simp)) hb frm h1 h2 _ 2 2 [0, 2] (vrow_new w 32 [.int .i64 0, .int .i64 2] (by simp)) (by omega)
 rw [firstW_open] at hf
 have HF := hid hf
 have HB := hid hbx
 clear hf hrow hb hsm hbx
 go_enter Tryz.func73, Tryz.ntmps73
 go_wp2_with fail
 refine HF.out.mono ?_
 rintro e w1 ⟨rfl, hb1⟩
 have HB1 := hid (HB.out.trans (hb1.mono (by simp)))
 clear hb1
 go_wp2_with fail
 go_ret2
 exact ⟨rfl, HB1.out⟩
end
theorem skipped_any (a r : Nat) (ha : a ≤ r) (hr : r ≤ 9223372036854775807) (w : World) :
  Calls Tryz.prog 79 #[.int .i64 a, .int .i64 r] w fun e w' => e = .returned (.agg #[.int .i64 a, .int .i64 (r - a : Nat), .bool false, .int .i64 0, .slice none 0 0]) ∧ Below w.heap.size w w' := by
 have h1 : (0 : Int) ≤ a := by omega
 have h2 : (a : Int) ≤ r := by omega
 have h3 : (r : Int) ≤ 9223372036854775807 := by omega
 have h4 : ((r - a : Nat) : Int) = (r : Int) - a := by omega
 rw [h4]
 clear h4
 go_enter Tryz.func79, Tryz.ntmps79
 go_wp2_with fail
 refine bodyPost_ret (v := .agg #[.int .i64 a, .int .i64 (r - a), .bool false, .int .i64 0, .slice none 0 0]) (by simp [results, Tryz.results79, go_sem]) rfl ?_
 exact ⟨rfl, (Below.refl _ _).alloc (Nat.le_refl _) _⟩
def Part (w : World) (k : Nat) (t : (Int × List Int) × Nat × Int) (r : Ending) (w' : World) : Prop :=
 ∃ A c, r = .returned (.agg #[.int .i64 k, .int .i64 t.2.1, .bool true, .int .i64 t.1.1, .slice A t.1.2.length c]) ∧ Row w' w'.heap.size (.slice A t.1.2.length c) t.1.2 ∧ Below w.heap.size w w'
theorem framePart_any (A : Option Addr) (c : Nat) (xs : List Int) (hsm : xs.length ≤ 9223372036854775807) (w : World) (hrow : Row w w.heap.size (.slice A xs.length c) xs) (hb : ∀ x ∈ xs, 0 ≤ x ∧ x < 256) (k : Nat) (hk : k ≤ xs.length) :
  Calls Tryz.prog 80 #[.slice A xs.length c, .int .i64 k] w (Part w k (getFr (xs.drop k))) := by
 have HAT := hid (fun W (h : Row W W.heap.size (.slice A xs.length c) xs) => at_in A c xs hsm W h hb k hk)
 have HROW := hid hrow
 clear hrow hb
 generalize getFr (xs.drop k) = t at HAT ⊢
 have k0 : (0 : Int) ≤ k := by omega
 have k1 : (k : Int) ≤ 9223372036854775807 := by omega
 go_enter Tryz.func80, Tryz.ntmps80
 go_wp2_with fail
 refine (HAT.out _ ((HROW.out.below ((Below.refl _ _).alloc (Nat.le_refl _) _)).more (by simp))).mono ?_
 rintro e w1 ⟨A1, c1, rfl, hrow1, hb1⟩
 have hz1 : w.heap.size + 1 ≤ w1.heap.size := by simpa using hb1.size
 have hres : Held w1 w.heap.size 46 #[.int .i64 0, .int .i64 0, .bool false, .int .i64 0, .slice none 0 0] := (hb1.block w.heap.size (by simp)).trans (heap_alloc_new w _)
 have bw1 : Below w.heap.size w w1 := ((Below.refl _ _).alloc (Nat.le_refl _) _).trans (hb1.mono (by simp))
 have hres2 : ∀ o : Obj, Held (w1.alloc o) w.heap.size 46 #[.int .i64 0, .int .i64 0, .bool false, .int .i64 0, .slice none 0 0] := fun o => hres.below ((Below.refl _ _).alloc (Nat.le_refl _) _) (by omega)
 have hr0 := fun o => (hres2 o).cell 0
 have hr1 := fun o => (hres2 o).cell 1
 have hr2 := fun o => (hres2 o).cell 2
 have hr3 := fun o => (hres2 o).cell 3
 have hr4 := fun o => (hres2 o).cell 4
 have hf0 := fun o => (hres2 o).frozen 0
 have hf1 := fun o => (hres2 o).frozen 1
 have hf2 := fun o => (hres2 o).frozen 2
 have hf3 := fun o => (hres2 o).frozen 3
 have hf4 := fun o => (hres2 o).frozen 4
 simp at hr0 hr1 hr2 hr3 hr4
 have HRES2 := hid hres2
 clear hres2
 have HROW1 := hid hrow1
 have HB1 := hid bw1
 have HRES := hid hres
 clear hb1 hrow1 bw1 hres
 go_wp2_with fail
 have hfin := (((((HRES2.out (.cells #[.int .i64 t.1.1, .slice A1 t.1.2.length c1] 44)).put 0 (.int .i64 k)).put 1 (.int .i64 t.2.1)).put 2 (.bool true)).put 3 (.int .i64 t.1.1)).put 4 (.slice A1 t.1.2.length c1)
 obtain ⟨e0, e1, e2, e3, e4⟩ := cC5 hfin
 simp at e0 e1 e2 e3 e4
 refine bodyPost_ret (v := .agg #[.int .i64 k, .int .i64 t.2.1, .bool true, .int .i64 t.1.1, .slice A1 t.1.2.length c1]) (by simp [results, Tryz.results80, go_sem, e0, e1, e2, e3, e4]) rfl ?_
 refine ⟨A1, c1, rfl, ?_, ?_⟩
 ·refine (HROW1.out.keep_but (g := w.heap.size) (fun k hk hn => ?_) (fun i n => ?_)).more (by simp)
  ·rw [Below.heap_setCell _ _ _ k hn, Below.heap_setCell _ _ _ k hn, Below.heap_setCell _ _ _ k hn, Below.heap_setCell _ _ _ k hn, Below.heap_setCell _ _ _ k hn, Below.heap_alloc _ _ _ hk]
  ·rw [HRES.out.cell]
   match i with
   | 0 => simp
   | 1 => simp
   | 2 => simp
   | 3 => simp
   | 4 => simp
   | i + 5 => simp
 ·exact (((((HB1.out.alloc (by omega) _).setCell (p := ⟨w.heap.size, 0, none⟩) (Nat.le_refl _) _).setCell (p := ⟨w.heap.size, 1, none⟩) (Nat.le_refl _) _).setCell (p := ⟨w.heap.size, 2, none⟩) (Nat.le_refl _) _).setCell (p := ⟨w.heap.size, 3, none⟩) (Nat.le_refl _) _).setCell (p := ⟨w.heap.size, 4, none⟩) (Nat.le_refl _) _
structure Pt where
 s : Sg
 A : Option Addr
 c : Nat
abbrev Pt.pv (p : Pt) : Value := .slice p.A p.s.pay.length p.c
def Pt.cells (p : Pt) : List Value := [.int .i64 p.s.frm, .int .i64 p.s.n, .bool p.s.isf, .int .i64 p.s.kind, .slice p.A p.s.pay.length p.c]
abbrev Pt.val (p : Pt) : Value := .agg #[.int .i64 p.s.frm, .int .i64 p.s.n, .bool p.s.isf, .int .i64 p.s.kind, .slice p.A p.s.pay.length p.c]
def Pt.Reads (w : World) (B : Nat) (p : Pt) : Prop := Row w B p.pv p.s.pay
def flatS : List Pt → List Value
 | [] => []
 | p :: l => p.cells ++ flatS l
theorem flatS_length : ∀ l : List Pt, (flatS l).length = l.length * 5
 | [] => rfl
 | p :: l => by
  rw [flatS, List.length_append, flatS_length l, List.length_cons, show p.cells.length = 5 from rfl]
  omega
theorem flatS_append : ∀ l m : List Pt, flatS (l ++ m) = flatS l ++ flatS m
 | [], _ => rfl
 | p :: l, m => by rw [List.cons_append, flatS, flatS, flatS_append l m, List.append_assoc]
theorem flatS_one (p : Pt) : flatS [p] = p.cells := by rw [flatS, flatS, List.append_nil]
theorem flatS_at : ∀ (l : List Pt) (i : Nat) (p : Pt), l[i]? = some p → ∀ j u, p.cells[j]? = some u → (flatS l)[i * 5 + j]? = some u
 | [], i, p, h, _, _, _ => by simp at h
 | q :: l, 0, p, h, j, u, hj => by
  simp only [List.getElem?_cons_zero, Option.some.injEq] at h
  subst h
  have hlt := (List.getElem?_eq_some_iff.1 hj).1
  rw [flatS, Nat.zero_mul, Nat.zero_add, List.getElem?_append_left hlt]
  exact hj
 | q :: l, i + 1, p, h, j, u, hj => by
  rw [List.getElem?_cons_succ] at h
  rw [flatS, show (i + 1) * 5 + j = q.cells.length + (i * 5 + j) by rw [show q.cells.length = 5 from rfl]; omega, List.getElem?_append_right (by omega), Nat.add_sub_cancel_left]
  exact flatS_at l i p h j u hj
theorem cells_one (p : Pt) : ∀ u ∈ p.cells, u.oneCell' = true := by
 intro u hu
 simp only [Pt.cells, List.mem_cons, List.not_mem_nil, or_false] at hu
 rcases hu with rfl | rfl | rfl | rfl | rfl <;> rfl
theorem cells_nob (p : Pt) : ∀ u ∈ p.cells, ∀ n : Int, u ≠ .int .u8 n := by
 intro u hu n
 simp only [Pt.cells, List.mem_cons, List.not_mem_nil, or_false] at hu
 rcases hu with rfl | rfl | rfl | rfl | rfl <;> simp
theorem flatS_nob : ∀ l : List Pt, ∀ u ∈ flatS l, ∀ n : Int, u ≠ .int .u8 n
 | [], u, hu, _ => by simp [flatS] at hu
 | p :: l, u, hu, n => by
  rw [flatS] at hu
  rcases List.mem_append.1 hu with h | h
  ·exact cells_nob p u h n
  ·exact flatS_nob l u h n
def Clean (w : World) (v : Value) : Prop := ∀ g, v.ownBlock = some g → ∀ (i : Nat) (n : Int), w.cell? ⟨g, i, none⟩ ≠ some (.int .u8 n)
def Segs (w : World) (n0 : Nat) (v : Value) (ps : List Pt) : Prop :=
 w.ownsRow n0 46 5 v ps.length (flatS ps) ∧ Clean w v ∧ ∀ p ∈ ps, p.Reads w w.heap.size
section
variable {w w' : World} {n0 B : Nat} {v : Value} {ps : List Pt}
theorem Pt.Reads.below {p : Pt} (h : p.Reads w w.heap.size) (hb : Below w.heap.size w w') : p.Reads w' w'.heap.size := (Row.below h hb).more hb.size
theorem Pt.Reads.grown {p : Pt} {row : Option Nat} (h : p.Reads w w.heap.size) (hg : w.grownBy w' row) (hr : ∀ k, row = some k → ∀ (i : Nat) (n : Int), w.cell? ⟨k, i, none⟩ ≠ some (.int .u8 n)) : p.Reads w' w'.heap.size := by
 refine Row.more (w := w') ?_ hg.size
 cases row with
 | none => exact h.keep fun a ha => World.cell?_of_block (hg.block a.block ha (by simp))
 | some g => exact h.keep_but (g := g) (fun k hk hn => hg.block k hk (fun e => hn (by injection e))) (hr g rfl)
theorem Segs.nil (w : World) (n0 : Nat) : Segs w n0 (.slice none 0 0) [] := ⟨World.ownsRow_nil _ _ _ _, fun g h => by simp [Value.ownBlock] at h, by simp⟩
theorem Segs.kept {row : Option Nat} (h : Segs w n0 v ps) (hg : w.grownBy w' row) (hne : v.ownBlock = none ∨ v.ownBlock ≠ row) (hr : ∀ k, row = some k → ∀ (i : Nat) (n : Int), w.cell? ⟨k, i, none⟩ ≠ some (.int .u8 n)) : Segs w' n0 v ps := by
 obtain ⟨h1, h2, h3⟩ := h
 refine ⟨h1.kept hg hne, fun g e i n => ?_, fun p hp => (h3 p hp).grown hg hr⟩
 have hlt := (h1.lt g e).2
 rw [World.cell?_of_block (a := ⟨g, i, none⟩) (hg.block g hlt (fun e2 => hne.elim (fun h => by rw [e] at h; cases h) (fun h => h (e.trans e2.symm.symm))))]
 exact h2 g e i n
theorem Segs.below (h : Segs w n0 v ps) (hb : Below w.heap.size w w') : Segs w' n0 v ps :=
 h.kept (row := none) ⟨hb.os, hb.tape, hb.output, hb.size, fun k hk _ => hb.block k hk⟩ (Classical.em _) (fun k e => by cases e)
theorem Segs.alloc (h : Segs w n0 v ps) (o : Obj) : Segs (w.alloc o) n0 v ps := h.below ((Below.refl _ _).alloc (Nat.le_refl _) o)
theorem Segs.putObj {l : Nat} {o : Obj} (h : Segs w n0 v ps) (o' : Obj) (hl : w.heap[l]? = some o) (ho : o.isCells = false) : Segs (w.putObj l o') n0 v ps := by
 refine h.kept (grownBy_putObj' w l o') ?_ (fun k e i n hc => ?_)
 ·rcases h.1.2 with ⟨rfl, _⟩ | ⟨g, cap, cur, rfl, _, hgb, _⟩
  ·exact .inl rfl
  ·refine .inr fun e => ?_
   obtain rfl : g = l := by simpa [Value.ownBlock] using e
   rw [hgb] at hl
   cases hl
   cases ho
 ·obtain rfl : l = k := by injection e
  obtain ⟨o2, ho2, hc2⟩ := cells_of_cell hc
  rw [show w.heap[l]? = some o from hl] at ho2
  cases ho2
  rw [ho] at hc2
  cases hc2
def Turned (w w' : World) (row : Option Nat) : Prop := w.grownBy w' row ∧ ∀ r, row = some r → ∃ o : Obj, w.heap[r]? = some o ∧ o.isCells = false
theorem Turned.nob {row : Option Nat} (h : Turned w w' row) : ∀ k, row = some k → ∀ (i : Nat) (n : Int), w.cell? ⟨k, i, none⟩ ≠ some (.int .u8 n) := by
 intro k e i n hc
 obtain ⟨o, ho, hn⟩ := h.2 k e
 obtain ⟨o2, ho2, hc2⟩ := cells_of_cell hc
 rw [show w.heap[k]? = some o from ho] at ho2
 cases ho2
 rw [hn] at hc2
 cases hc2
theorem Turned.block {row : Option Nat} (h : Turned w w' row) {g : Nat} {cs : Array Value} {t : TypeId} {fr : Nat × Nat} (hg : w.heap[g]? = some (.cells cs t fr)) : w'.heap[g]? = some (.cells cs t fr) := by
 refine (h.1.block g (Array.getElem?_eq_some_iff.1 hg).1 fun e => ?_).trans hg
 obtain ⟨o, ho, hn⟩ := h.2 g e.symm
 rw [hg] at ho
 cases ho
 cases hn
theorem Segs.turned {row : Option Nat} (h : Segs w n0 v ps) (ht : Turned w w' row) : Segs w' n0 v ps := by
 refine h.kept ht.1 ?_ ht.nob
 rcases h.1.2 with ⟨rfl, _⟩ | ⟨g, cap, cur, rfl, _, hgb, _⟩
 ·exact .inl rfl
 ·refine .inr fun e => ?_
  obtain ⟨o, ho, hn⟩ := ht.2 g (by rw [← e]; rfl)
  rw [hgb] at ho
  cases ho
  cases hn
theorem Pt.Reads.turned {p : Pt} {row : Option Nat} (h : p.Reads w w.heap.size) (ht : Turned w w' row) : p.Reads w' w'.heap.size := h.grown ht.1 ht.nob
theorem Segs.apart {g : Nat} {t : TypeId} {cs : Array Value} {fr : Nat × Nat} (h : Segs w n0 v ps) (hg : w.heap[g]? = some (.cells cs t fr)) (ht : t ≠ 46) : v.ownBlock = none ∨ v.ownBlock ≠ some g := by
 rcases h.1.2 with ⟨rfl, _⟩ | ⟨g', cap, cur, rfl, _, hgb, _⟩
 ·exact .inl rfl
 ·refine .inr fun e => ?_
  obtain rfl : g' = g := by simpa [Value.ownBlock] using e
  rw [hgb] at hg
  injection hg with hg
  injection hg with _ e3 _
  exact ht e3.symm
theorem Segs.form (h : Segs w n0 v ps) : ∃ A c, v = .slice A ps.length c ∧ ps.length ≤ c ∧ c ≤ 9223372036854775807 := by
 rcases h.1.2 with ⟨rfl, h0⟩ | ⟨g, cap, cur, rfl, _, _, h1, h2, _⟩
 ·exact ⟨none, 0, by rw [h0], by omega, by omega⟩
 ·unfold maxLen at h2
  exact ⟨_, cap, rfl, h1, by omega⟩
end
theorem run_append_seg {P : Program} (w : World) (t ty : TypeId) (i : TypeInfo) (z : Value) (ht : P.underlying t = some (.slice 46)) (hi : P.info? 46 = some i) (hz : i.zero = some z)
  (hsize : i.size = 5) (hby : i.bytes ≤ 100) (hzs : z.cells = #[.int .i64 0, .int .i64 0, .bool false, .int .i64 0, .slice none 0 0])
  (n0 : Nat) (v : Value) (ps : List Pt) (hs : Segs w n0 v ps) (ad : Addr) (c : Nat) (p : Pt) (hc : ∀ j u, p.cells[j]? = some u → w.cell? (ad.add j) = some u) (hp : p.Reads w w.heap.size)
  (hlen : ps.length + 1 ≤ 1000000000000) (hbase : n0 ≤ w.heap.size) :
  ∃ v' w', (Builtin.append_ #[t, t] ty #[v, .slice (some ad) 1 c]).run P w = .ok v' w' ∧ Segs w' n0 v' (ps ++ [p]) ∧ w.grownBy w' v.ownBlock := by
 have hl5 : p.cells.length = 1 * 5 := rfl
 have hb2 : (ps.length + 1) * i.bytes ≤ 140737488355328 := Nat.le_trans (Nat.mul_le_mul hlen hby) (by omega)
 have hm : ps.length + 1 ≤ maxLen := by unfold maxLen; omega
 obtain ⟨v', w', hrun, hown, hgr, _⟩ := run_append_own (P := P) w n0 t ty _ i z 5 i.bytes ht hi hz hsize rfl (by rw [hzs]; rfl) (by omega) v ps.length (flatS ps) hs.1 ad 1 c p.cells hl5 hc (cells_one p) hm hb2 hbase
 refine ⟨v', w', hrun, ⟨by simpa [flatS_append, flatS_one] using hown, ?_, fun q hq => ?_⟩, hgr⟩
 ·-- what it comes to, written out
  have hzb : ∀ (k : Nat) (u : Value), u ∈ (Builtin.zeroCells z.cells k).toList → ∀ n : Int, u ≠ .int .u8 n := by
   intro k u hu n
   simp only [Builtin.zeroCells, hzs] at hu
   simp at hu
   obtain ⟨a, _, rfl⟩ := hu
   have ha : a % 5 = 0 ∨ a % 5 = 1 ∨ a % 5 = 2 ∨ a % 5 = 3 ∨ a % 5 = 4 := by omega
   rcases ha with e | e | e | e | e <;> rw [e] <;> simp
  have new : ∀ (cur : Array Value), (∀ u ∈ cur.toList, ∀ n : Int, u ≠ .int .u8 n) → ∀ (i : Nat) (n : Int), (w.drew.alloc (.cells cur 46)).cell? ⟨w.heap.size, i, none⟩ ≠ some (.int .u8 n) := by
   intro cur hcur i n e
   rw [cell_of_row _ w.heap.size i cur _ (0, 0) (heap_alloc_new w.drew _)] at e
   exact hcur _ (by obtain ⟨hlt, he⟩ := Array.getElem?_eq_some_iff.1 e; rw [← he]; exact Array.getElem_mem_toList hlt) n rfl
  intro g hg i' n
  rcases hs.1.2 with ⟨rfl, h0⟩ | ⟨b, cap, cur, rfl, _, hgb, hnc, hcm, hcs, htake⟩
  ·have hr := run_append_nil (P := P) w t ty _ i z ht hi hz ad 1 c p.cells (by rw [hsize]; exact hl5) hc (by omega) (by omega) (by omega)
   rw [hrun] at hr
   injection hr with e1 e2
   subst e1 e2
   obtain rfl : w.heap.size = g := by simpa [Value.ownBlock] using hg
   refine new _ (fun u hu => ?_) i' n
   simp only [Array.toList_append, List.mem_append] at hu
   rcases hu with hu | hu
   ·exact cells_nob p u hu
   ·exact hzb _ u hu
  ·by_cases hroom : ps.length + 1 ≤ cap
   ·have hr := run_append_room (P := P) w t ty _ i ht hi b ps.length cap cur hgb ad 1 c p.cells (by rw [hsize]; exact hl5) hc (cells_one p) hroom (by rw [hsize, hcs, hl5]; omega)
    rw [hrun] at hr
    injection hr with e1 e2
    subst e1 e2
    obtain rfl : b = g := by simpa [Value.ownBlock] using hg
    rw [cell_setRow_same w b i' cur _ _ _ hgb]
    intro e
    have hmem : (Value.int .u8 n) ∈ cur.toList.take (ps.length * i.size) ++ p.cells ++ cur.toList.drop (ps.length * i.size + p.cells.length) := by
     rw [List.getElem?_toArray] at e
     exact List.mem_of_getElem? e
    have hold : ∀ u ∈ cur.toList, ∀ n : Int, u ≠ .int .u8 n := by
     intro u hu n e
     obtain ⟨k, hk⟩ := List.mem_iff_getElem?.1 hu
     refine hs.2.1 b rfl k n ?_
     rw [cell_of_row w b k cur _ _ hgb, ← e]
     simpa using hk
    rcases List.mem_append.1 hmem with h | h
    ·rcases List.mem_append.1 h with h | h
     ·exact hold _ (List.mem_of_mem_take h) n rfl
     ·exact cells_nob p _ h n rfl
    ·exact hold _ (List.mem_of_mem_drop h) n rfl
   ·have hr := run_append_grow (P := P) w t ty _ i z ht hi hz ⟨b, 0, none⟩ ps.length cap (flatS ps) (by rw [hsize]; exact flatS_length ps) (hs.1.cells (g := b) rfl) ad 1 c p.cells (by rw [hsize]; exact hl5) hc (by omega) (by omega) (growslice_fits (by omega) hb2)
    rw [hrun] at hr
    injection hr with e1 e2
    subst e1 e2
    obtain rfl : w.heap.size = g := by simpa [Value.ownBlock] using hg
    refine new _ (fun u hu => ?_) i' n
    simp only [Array.toList_append, List.mem_append] at hu
    rcases hu with (hu | hu) | hu
    ·exact flatS_nob ps u hu
    ·exact cells_nob p u hu
    ·exact hzb _ u hu
 ·rcases List.mem_append.1 hq with h | h
  ·exact (hs.2.2 q h).grown hgr hs.2.1
  ·obtain rfl : q = p := by simpa using h
   exact hp.grown hgr hs.2.1
theorem wpListIn_append_seg {F : Fence} {n : Nat} {P : Program} {w : World} {ops : Array Oper} {rest : List Oper} {o : Oper} {a : Act} {Q : Exit → Act → World → Prop} (hgd : o.guard = none) (s x : Operand) (t : TypeId)
  (ho : o.op = Op.call { callee := Callee.builtin Builtin.append, args := #[s, x], argTypes := #[t, t] })
  (i : TypeInfo) (z : Value) (ht : P.underlying t = some (.slice 46)) (hi : P.info? 46 = some i) (hz : i.zero = some z)
  (hsize : i.size = 5) (hby : i.bytes ≤ 100) (hzs : z.cells = #[.int .i64 0, .int .i64 0, .bool false, .int .i64 0, .slice none 0 0])
  (n0 : Nat) (v : Value) (ps : List Pt) (hs : a.eval s = v) (hown : Segs w n0 v ps) (ad : Addr) (c : Nat) (p : Pt) (hx : a.eval x = .slice (some ad) 1 c) (hc : ∀ j u, p.cells[j]? = some u → w.cell? (ad.add j) = some u) (hp : p.Reads w w.heap.size)
  (hlen : ps.length + 1 ≤ 1000000000000) (hbase : n0 ≤ w.heap.size)
  (h : ∀ v' w', Segs w' n0 v' (ps ++ [p]) → w.grownBy w' v.ownBlock → wpListIn F n P ops Q rest (a.put o.dst v') w') : wpListIn F n P ops Q (o :: rest) a w := by
 refine wpListIn_plain hgd fun K hK' => ?_
 obtain ⟨v', w', hrun, h2, h3⟩ := run_append_seg (P := P) w t o.type i z ht hi hz hsize hby hzs n0 v ps hown ad c p hc hp hlen hbase
 unfold Oper.wpIn
 refine ⟨?_, ?_⟩
 ·simp [Oper.about, ho, resolve, Target.leads, Sem.run_pure]
 ·rw [Oper.semAt_plain F _ _ (by rw [ho]; intro c hc'; cases hc')]
  simp [execOp, ho, resolve, invoke, builtin, hs, hx, hrun, Result.andThen]
  exact hK' _ _ (h v' w' h2 h3)
def SegRow (w : World) (B : Nat) (v : Value) (ps : List Pt) : Prop :=
 ∃ A c, v = .slice A ps.length c ∧ ps.length ≤ c ∧ c ≤ maxLen ∧ (A = none → c = 0) ∧
  (0 < ps.length → ∃ b o, A = some ⟨b, o, none⟩ ∧ b < B ∧ ∀ i p, ps[i]? = some p → ∀ j u, p.cells[j]? = some u → w.cell? ⟨b, o + i * 5 + j, none⟩ = some u) ∧ ∀ p ∈ ps, p.Reads w B
section
variable {w w' : World} {n0 B : Nat} {v : Value} {ps : List Pt}
theorem Segs.row (h : Segs w n0 v ps) : SegRow w w.heap.size v ps := by
 obtain ⟨h1, _, h3⟩ := h
 rcases h1.2 with ⟨rfl, h0⟩ | ⟨g, cap, cur, rfl, _, hg, hnc, hcm, _, _⟩
 ·obtain rfl : ps = [] := List.eq_nil_of_length_eq_zero h0
  exact ⟨none, 0, rfl, Nat.le_refl _, Nat.zero_le _, fun _ => rfl, fun h => absurd h (by simp), by simp⟩
 ·refine ⟨some ⟨g, 0, none⟩, cap, rfl, hnc, hcm, by simp, fun _ => ⟨g, 0, rfl, (Array.getElem?_eq_some_iff.1 hg).1, fun i p hp j u hj => ?_⟩, h3⟩
  have := flatS_at ps i p hp j u hj
  have hlt := (List.getElem?_eq_some_iff.1 this).1
  rw [flatS_length] at hlt
  rw [Nat.zero_add, h1.cellAt _ hlt]
  exact this
theorem SegRow.below (h : SegRow w w.heap.size v ps) (hb : Below w.heap.size w w') : SegRow w' w'.heap.size v ps := by
 obtain ⟨A, c, hv, h1, h2, h3, h4, h5⟩ := h
 refine ⟨A, c, hv, h1, h2, h3, fun hn => ?_, fun p hp => (h5 p hp).below hb⟩
 obtain ⟨b, o, e, hlt, hc⟩ := h4 hn
 exact ⟨b, o, e, Nat.lt_of_lt_of_le hlt hb.size, fun i p hp j u hj => (hb.cell (p := ⟨b, o + i * 5 + j, none⟩) hlt).trans (hc i p hp j u hj)⟩
theorem SegRow.at {A : Option Addr} {n c : Nat} (h : SegRow w B (.slice A n c) ps) {i : Nat} {p : Pt} (hp : ps[i]? = some p) : ∃ b o, A = some ⟨b, o, none⟩ ∧ b < B ∧
  w.cell? ⟨b, o + i * 5, none⟩ = some (.int .i64 p.s.frm) ∧ w.cell? ⟨b, o + i * 5 + 1, none⟩ = some (.int .i64 p.s.n) ∧ w.cell? ⟨b, o + i * 5 + 2, none⟩ = some (.bool p.s.isf) ∧
  w.cell? ⟨b, o + i * 5 + 3, none⟩ = some (.int .i64 p.s.kind) ∧ w.cell? ⟨b, o + i * 5 + 4, none⟩ = some (.slice p.A p.s.pay.length p.c) ∧ p.Reads w B := by
 obtain ⟨A', c', hv, h1, h2, h3, h4, h5⟩ := h
 injection hv with e1 e2 e3
 subst e1 e3
 have hlt := (List.getElem?_eq_some_iff.1 hp).1
 obtain ⟨b, o, rfl, hb, hc⟩ := h4 (by omega)
 exact ⟨b, o, rfl, hb, hc i p hp 0 _ rfl, hc i p hp 1 _ rfl, hc i p hp 2 _ rfl, hc i p hp 3 _ rfl, hc i p hp 4 _ rfl, h5 p (List.mem_of_getElem? hp)⟩
end
theorem Tryz.infoSeg : (Tryz.prog.info? 46).map (fun i => (i.zero, i.size, i.bytes)) = some (some (.agg #[.int .i64 0, .int .i64 0, .bool false, .int .i64 0, .slice none 0 0]), 5, 56) := by kernel_rfl
theorem map_snoc (pre : List Pt) (x : Pt) : (pre ++ [x]).map (·.s) = pre.map (·.s) ++ [x.s] := by simp
def Collected (xs : List Int) (w : World) (e : Ending) (w' : World) : Prop :=
 ∃ v ps, e = .returned v ∧ PartsS xs 0 (ps.map (·.s)) ∧ Segs w' w.heap.size v ps ∧ Below w.heap.size w w'
open Go.RowKit Go.ChangeShapes Go.WideShapes
set_option linter.unusedVariables false
def sgJ (s : Sg) : Sj := ⟨s.frm, s.n, s.isf, s.kind, s.pay⟩
def toJ (p : Pt) : Jm := ⟨sgJ p.s, p.A, p.c⟩
theorem flatS5_pt : ∀ l : List Pt, flatS5 (l.map toJ) = flatS l
 | [] => rfl
 | p :: l => by
  rw [List.map_cons, flatS5, flatS5_pt l]
  rfl
theorem parts_pay {xs : List Int} (hx : ∀ x ∈ xs, 0 ≤ x ∧ x < 256) {a : Nat} {l : List Sg} (h : PartsS xs a l) : ∀ s ∈ l, s.pay.length ≤ 4096 ∧ ∀ y ∈ s.pay, 0 ≤ y ∧ y < 256 := by
 induction h with
 | stop a h => simp
 | rest a h hn =>
  intro s hs
  obtain rfl := List.mem_singleton.1 hs
  exact ⟨Nat.zero_le _, by simp [skipS]⟩
 | fr a l h hb hl ih =>
  intro s hs
  rcases List.mem_cons.1 hs with rfl | hs
  ·obtain ⟨_, _, _, h4, h5, _⟩ := begins_in hx hb
   exact ⟨h4, h5⟩
  ·exact ih s hs
 | gap a r l ha h hn hb hl ih =>
  intro s hs
  rcases List.mem_cons.1 hs with rfl | hs
  ·exact ⟨Nat.zero_le _, by simp [skipS]⟩
  ·rcases List.mem_cons.1 hs with rfl | hs
   ·obtain ⟨_, _, _, h4, h5, _⟩ := begins_in hx hb
    exact ⟨h4, h5⟩
   ·exact ih s hs
def ofG (xs : List Int) (g : Gp) : Prop := ∃ l, PartsS xs 0 l ∧ g = takeL noG (l.map sgJ)
section
open Go.RowKit Go.Shelf
attribute [local go_sem] Oper.semAt_some
def PtOk (xs : List Int) (p : Pt) (w : World) : Prop := p.Reads w w.heap.size ∧ p.s.frm + p.s.n ≤ xs.length
def KeepsB (n₀ Bn m : Nat) (w w' : World) : Prop := Below n₀ w w' ∧ w'.heap[Bn]? = w.heap[Bn]? ∧ ∀ k, m ≤ k → k < w.heap.size → w'.heap[k]? = w.heap[k]?
theorem KeepsB.refl (n₀ Bn m : Nat) (w : World) : KeepsB n₀ Bn m w w := ⟨Below.refl _ _, rfl, fun _ _ _ => rfl⟩
theorem KeepsB.trans {n₀ Bn m : Nat} {a b c : World} (h : KeepsB n₀ Bn m a b) (k : KeepsB n₀ Bn m b c) : KeepsB n₀ Bn m a c :=
 ⟨h.1.trans k.1, k.2.1.trans h.2.1, fun i h1 h2 => (k.2.2 i h1 (Nat.lt_of_lt_of_le h2 h.1.size)).trans (h.2.2 i h1 h2)⟩
theorem KeepsB.turn {n₀ Bn : Nat} {w : World} (hn : n₀ ≤ w.heap.size) (hB : Bn < w.heap.size) (m : Nat) (W : World) (l : Nat) (o o' : Obj) (hl : w.heap.size ≤ l) (hm : l < m) (h : W.heap[l]? = some o) (_ : o.isCells = false) : KeepsB n₀ Bn m W (W.putObj l o') :=
 ⟨(Below.refl n₀ W).grown (grownBy_putObj' W l o') (by have := (Array.getElem?_eq_some_iff.1 h).1; omega) (fun k e => by cases e; omega), World.putObj_heap_other (by omega), fun k h1 _ => World.putObj_heap_other (by omega)⟩
theorem step_next {xs : List Int} {a : Nat} (h : nextI false xs a = -1) : max (nextI false xs a) 0 = 0 ∧ decide (0 ≤ nextI false xs a) = false := by rw [h]; exact ⟨rfl, rfl⟩
theorem step_found {xs : List Int} {a r : Nat} (h : nextI false xs a = (r : Int)) : max (nextI false xs a) 0 = (r : Int) ∧ decide (0 ≤ nextI false xs a) = true := by
 rw [h]
 exact ⟨by omega, by simp⟩
theorem parts1_in (n : Nat) (hn : 1 ≤ n) (l Bn n₀ : Nat) (A : Option Addr) (c : Nat) (xs : List Int) (hsm : xs.length ≤ 1000000000000) (hbx : ∀ x ∈ xs, 0 ≤ x ∧ x < 256) (J : List Pt → World → Prop) (W : World)
  (hY : ∀ pre x W0 W1, J pre W0 → Below W0.heap.size W0 W1 → PtOk xs x W1 → pre.length < xs.length → YieldAt Fence.wide (n - 1) Tryz.prog l #[x.val] W1 fun e W' => e = .returned (.bool true) ∧ J (pre ++ [x]) W' ∧ KeepsB n₀ Bn W0.heap.size W1 W')
  (hBn : W.cell? ⟨Bn, 0, none⟩ = some (.slice A xs.length c)) (hlt : Bn < W.heap.size) (hn0 : n₀ ≤ W.heap.size) (hrow : Row W n₀ (.slice A xs.length c) xs) (h0 : J [] W) :
  CallsIn Fence.wide n Tryz.prog 78 #[.func (.yield l) #[] #[], .pointer (some ⟨Bn, 0, none⟩)] W fun e W' => (∃ v, e = .returned v) ∧ ∃ (ys : List Pt) (W0 : World), PartsS xs 0 (ys.map (·.s)) ∧ J ys W0 ∧ Below W0.heap.size W0 W' := by
 refine callsIn_of_wp Tryz.func78 rfl trivial ?_ rfl
 simp only [Tryz.ntmps78, List.size_toArray, List.length_cons, List.length_nil, Nat.reduceAdd, Nat.reduceSub, Array.replicate_succ, Array.replicate_zero, List.push_toArray, List.append_toArray, List.nil_append, List.cons_append]
 have HROW := hid hrow
 have HX := hid hbx
 have HY := hid hY
 have NX := hid (fun W1 (h : Row W1 W1.heap.size (.slice A xs.length c) xs) (a : Nat) (ha : a ≤ xs.length) => next_any A c xs (by omega) W1 h hbx a (by omega) (by omega))
 have FP := hid (fun W1 (h : Row W1 W1.heap.size (.slice A xs.length c) xs) (a : Nat) (ha : a ≤ xs.length) => framePart_any A c xs (by omega) W1 h hbx a ha)
 have HBN := hid hBn
 clear hrow hbx hY
 gi_wp2_with (refine ⟨trivial, ?_⟩; gi_at_call 76; refine (callsIn_wide.2 (NX.out _ (HROW.out.more hn0) 0 (Nat.zero_le _))).mono ?_; rintro e w1 ⟨rfl, hb1⟩)
 clear hBn
 have HN := hid (next_ways xs)
 gi_loopw [3, 4, 5] (fun f t d wr => ∃ (pre : List Pt) (a : Nat) (W0 : World), f = .int .i64 a ∧ t = .int .i64 (max (nextI false xs a) 0) ∧ d = .bool (decide (0 ≤ nextI false xs a)) ∧ a ≤ xs.length ∧ pre.length ≤ a ∧
   Hid (Ahead xs (pre.map (·.s)) a) ∧ J pre W0 ∧ Below W0.heap.size W0 wr ∧ Hid (Below n₀ W wr ∧ wr.heap[Bn]? = W.heap[Bn]?))
  (fun f _ _ _ => xs.length - (intOf f).toNat)
 case atStart =>
  exact ⟨[], 0, W, rfl, rfl, rfl, Nat.zero_le _, Nat.zero_le _, Ahead.start xs, h0, hb1, hb1.mono hn0, hb1.block _ hlt⟩
 case round =>
  clear hb1 h0
  obtain ⟨pre, a, W0, rfl, rfl, rfl, ha, hpl, HA, hJs, hk0, HK⟩ := hrel
  have hcb : wr.cell? ⟨Bn, 0, none⟩ = some (.slice A xs.length c) := (World.cell?_of_block HK.out.2).trans HBN.out
  have hnr : n₀ ≤ wr.heap.size := Nat.le_trans hn0 HK.out.1.size
  have HR := hid ((HROW.out.below HK.out.1).more hnr)
  rcases HN.out a with hno | ⟨r, hr⟩
  ·obtain ⟨e1, e2⟩ := step_next hno
   have hnn := next_no (show nextI false xs a < 0 by omega)
   have HNN := hid hnn
   rw [e1, e2]
   clear e1 e2 hno hnn
   by_cases hal : a < xs.length
   ·gi_wp2_with (refine ⟨trivial, ?_⟩; gi_at_call 79; refine (callsIn_wide.2 (skipped_any a xs.length ha (by omega) _)).mono ?_; rintro e w1 ⟨rfl, hb1⟩
                 obtain ⟨fn, tmps, assign, body, hy, hR⟩ := HY.out pre ⟨skipS a xs.length, none, 0⟩ W0 w1 hJs (hk0.trans (hb1.mono hk0.size)) ⟨Row.nil _ _, by simp only [skipS]; omega⟩ (by omega); dsimp only [Pt.val, skipS, List.length_nil] at hy)
    refine hR.mono ?_
    rintro e W3 ⟨rfl, hJ3, hk3⟩
    gi_wp2
    go_end0
    exact ⟨⟨_, rfl⟩, pre ++ [⟨skipS a xs.length, none, 0⟩], W3, by rw [map_snoc]; exact HA.out.last hal HNN.out, hJ3, Below.refl _ _⟩
   ·have hal' : ¬ a < xs.length := hal
    gi_wp2
    go_end0
    exact ⟨⟨_, rfl⟩, pre, W0, HA.out.done (by omega), hJs, hk0⟩
  ·obtain ⟨e1, e2⟩ := step_found hr
   obtain ⟨har, hrl, hbg, hnb⟩ := next_some hr
   have HBG := hid hbg
   have HNB := hid hnb
   obtain ⟨h9, hin, _⟩ := begins_in HX.out hbg
   have HFR := hid (fun p : List Pt => HA.out)
   rw [e1, e2]
   clear e1 e2 hr hbg hnb HFR
   obtain ⟨t, ht⟩ : ∃ t, getFr (xs.drop r) = t := ⟨_, rfl⟩
   have HT := hid ht
   rw [ht] at h9 hin
   clear ht
   have FR := hid (fun W1 (h : Row W1 W1.heap.size (.slice A xs.length c) xs) => FP.out W1 h r (by omega))
   rw [HT.out] at FR
   -- how a round ends behind what has been skipped
   by_cases hgt : a < r
   ·gi_wp2_with (refine ⟨trivial, ?_⟩; gi_at_call 79; refine (callsIn_wide.2 (skipped_any a r har (by omega) _)).mono ?_; rintro e w1 ⟨rfl, hb1⟩
                 obtain ⟨fn, tmps, assign, body, hy, hR⟩ := HY.out pre ⟨skipS a r, none, 0⟩ W0 w1 hJs (hk0.trans (hb1.mono hk0.size)) ⟨Row.nil _ _, by simp only [skipS]; omega⟩ (by omega); dsimp only [Pt.val, skipS, List.length_nil] at hy)
    refine hR.mono ?_
    rintro e W3 ⟨rfl, hJ3, hk3⟩
    have HK3 : Hid (Below n₀ W W3 ∧ W3.heap[Bn]? = W.heap[Bn]?) := hid ⟨(HK.out.1.trans (hb1.mono hnr)).trans hk3.1, hk3.2.1.trans ((hb1.block Bn (Nat.lt_of_lt_of_le hlt HK.out.1.size)).trans HK.out.2)⟩
    clear hk3 hb1 hcb HR hnr hy hR hk0 HK
    have hcb : W3.cell? ⟨Bn, 0, none⟩ = some (.slice A xs.length c) := (World.cell?_of_block HK3.out.2).trans HBN.out
    have HR := hid ((HROW.out.below HK3.out.1).more (Nat.le_trans hn0 HK3.out.1.size))
    have hl3 : (pre ++ [(⟨skipS a r, none, 0⟩ : Pt)]).length < xs.length := by simp; omega
    have hnr : n₀ ≤ W3.heap.size := Nat.le_trans hn0 HK3.out.1.size
    have hltc : Bn < W3.heap.size := Nat.lt_of_lt_of_le hlt HK3.out.1.size
    gi_wp2_with fail
    refine ⟨trivial, ?_⟩
    refine (callsIn_wide.2 (FR.out _ HR.out)).mono ?_
    rintro e w4 ⟨A1, c1, rfl, hrow4, hb4⟩
    have hb5 := hb4.alloc (Nat.le_trans (Nat.le_refl _) hb4.size) (.cells #[.int .i64 r, .int .i64 t.2.1, .bool true, .int .i64 t.1.1, .slice A1 t.1.2.length c1] 46)
    have hrow5 := (hrow4.below ((Below.refl _ _).alloc (Nat.le_refl _) (.cells #[.int .i64 r, .int .i64 t.2.1, .bool true, .int .i64 t.1.1, .slice A1 t.1.2.length c1] 46))).more (Nat.le_of_lt (by simp : w4.heap.size < (w4.alloc (.cells #[.int .i64 r, .int .i64 t.2.1, .bool true, .int .i64 t.1.1, .slice A1 t.1.2.length c1] 46)).heap.size))
    obtain ⟨fn2, tmps2, assign2, body2, hy2, hR2⟩ := HY.out (pre ++ [(⟨skipS a r, none, 0⟩ : Pt)]) ⟨⟨r, t.2.1, true, t.1.1, t.1.2⟩, A1, c1⟩ W3 _ hJ3 ((Below.refl W3.heap.size W3).trans (hb5.mono (Below.refl W3.heap.size W3).size)) ⟨hrow5, hin⟩ hl3
    dsimp only [Pt.val] at hy2
    gi_wp2_with fail
    refine hR2.mono ?_
    rintro e W6 ⟨rfl, hJ6, hk6⟩
    have hz4 : W3.heap.size ≤ w4.heap.size := Nat.le_trans (Below.refl W3.heap.size W3).size hb4.size
    have hpart : Held W6 w4.heap.size 46 #[.int .i64 r, .int .i64 t.2.1, .bool true, .int .i64 t.1.1, .slice A1 t.1.2.length c1] := (hk6.2.2 w4.heap.size hz4 (by simp)).trans (heap_alloc_new w4 _)
    have hp1 := hpart.cell 1
    simp at hp1
    have HK6 : Hid (Below n₀ W W6 ∧ W6.heap[Bn]? = W.heap[Bn]?) := hid ⟨(HK3.out.1.trans (hb5.mono hnr)).trans hk6.1, hk6.2.1.trans ((hb5.block Bn hltc).trans HK3.out.2)⟩
    have HJ6 := hid hJ6
    clear hk6 hb5 hb4 hrow4 hrow5 hcb HR hy2 hR2 hpart hJ6
    have hcb : W6.cell? ⟨Bn, 0, none⟩ = some (.slice A xs.length c) := (World.cell?_of_block HK6.out.2).trans HBN.out
    have hn6 : n₀ ≤ W6.heap.size := Nat.le_trans hn0 HK6.out.1.size
    have HR6 := hid ((HROW.out.below HK6.out.1).more hn6)
    obtain ⟨b, hb⟩ : ∃ b : Nat, r + t.2.1 = b := ⟨_, rfl⟩
    have hbi : (r : Int) + t.2.1 = b := by omega
    have hbl : b ≤ xs.length := by omega
    have hbr : r + 9 ≤ b := by omega
    have HB := hid hb
    clear hb hin
    gi_wp2_with (refine ⟨trivial, ?_⟩; gi_at_call 76; refine (callsIn_wide.2 (NX.out _ HR6.out b hbl)).mono ?_; rintro e w7 ⟨rfl, hb7⟩)
    go_roundw
    case rel =>
     refine ⟨(pre ++ [(⟨skipS a r, none, 0⟩ : Pt)]) ++ [(⟨⟨r, t.2.1, true, t.1.1, t.1.2⟩, A1, c1⟩ : Pt)], b, W6, by simp, rfl, rfl, hbl, by simp; omega, ?_, HJ6.out, hb7, HK6.out.1.trans (hb7.mono hn6), (hb7.block Bn (Nat.lt_of_lt_of_le hlt HK6.out.1.size)).trans HK6.out.2⟩
     have e1 : frS xs r = ⟨r, t.2.1, true, t.1.1, t.1.2⟩ := by unfold frS; rw [HT.out]
     have e2 := HA.out.gap hgt hrl HNB.out HBG.out
     rw [e1, HT.out, HB.out] at e2
     change Ahead xs (List.map (fun x : Pt => x.s) _) b
     simpa using e2
    case measure => simp [intOf]; omega
   ·obtain rfl : r = a := by omega
    clear hnr
    have hnn : ¬ (r : Int) < r := by omega
    gi_wp2_with fail
    refine ⟨trivial, ?_⟩
    gi_wp2_with fail
    refine ⟨fun _ h => (by cases h), ?_⟩
    have hnr : n₀ ≤ wr.heap.size := Nat.le_trans hn0 HK.out.1.size
    have hltc : Bn < wr.heap.size := Nat.lt_of_lt_of_le hlt HK.out.1.size
    gi_wp2_with fail
    refine ⟨trivial, ?_⟩
    refine (callsIn_wide.2 (FR.out _ HR.out)).mono ?_
    rintro e w4 ⟨A1, c1, rfl, hrow4, hb4⟩
    have hb5 := hb4.alloc (Nat.le_trans (Nat.le_refl _) hb4.size) (.cells #[.int .i64 r, .int .i64 t.2.1, .bool true, .int .i64 t.1.1, .slice A1 t.1.2.length c1] 46)
    have hrow5 := (hrow4.below ((Below.refl _ _).alloc (Nat.le_refl _) (.cells #[.int .i64 r, .int .i64 t.2.1, .bool true, .int .i64 t.1.1, .slice A1 t.1.2.length c1] 46))).more (Nat.le_of_lt (by simp : w4.heap.size < (w4.alloc (.cells #[.int .i64 r, .int .i64 t.2.1, .bool true, .int .i64 t.1.1, .slice A1 t.1.2.length c1] 46)).heap.size))
    obtain ⟨fn2, tmps2, assign2, body2, hy2, hR2⟩ := HY.out pre ⟨⟨r, t.2.1, true, t.1.1, t.1.2⟩, A1, c1⟩ W0 _ hJs (hk0.trans (hb5.mono hk0.size)) ⟨hrow5, hin⟩ (by omega)
    dsimp only [Pt.val] at hy2
    gi_wp2_with fail
    refine hR2.mono ?_
    rintro e W6 ⟨rfl, hJ6, hk6⟩
    have hz4 : W0.heap.size ≤ w4.heap.size := Nat.le_trans hk0.size hb4.size
    have hpart : Held W6 w4.heap.size 46 #[.int .i64 r, .int .i64 t.2.1, .bool true, .int .i64 t.1.1, .slice A1 t.1.2.length c1] := (hk6.2.2 w4.heap.size hz4 (by simp)).trans (heap_alloc_new w4 _)
    have hp1 := hpart.cell 1
    simp at hp1
    have HK6 : Hid (Below n₀ W W6 ∧ W6.heap[Bn]? = W.heap[Bn]?) := hid ⟨(HK.out.1.trans (hb5.mono hnr)).trans hk6.1, hk6.2.1.trans ((hb5.block Bn hltc).trans HK.out.2)⟩
    have HJ6 := hid hJ6
    clear hk6 hb5 hb4 hrow4 hrow5 hcb HR hy2 hR2 hpart hJ6
    have hcb : W6.cell? ⟨Bn, 0, none⟩ = some (.slice A xs.length c) := (World.cell?_of_block HK6.out.2).trans HBN.out
    have hn6 : n₀ ≤ W6.heap.size := Nat.le_trans hn0 HK6.out.1.size
    have HR6 := hid ((HROW.out.below HK6.out.1).more hn6)
    obtain ⟨b, hb⟩ : ∃ b : Nat, r + t.2.1 = b := ⟨_, rfl⟩
    have hbi : (r : Int) + t.2.1 = b := by omega
    have hbl : b ≤ xs.length := by omega
    have hbr : r + 9 ≤ b := by omega
    have HB := hid hb
    clear hb hin
    gi_wp2_with (refine ⟨trivial, ?_⟩; gi_at_call 76; refine (callsIn_wide.2 (NX.out _ HR6.out b hbl)).mono ?_; rintro e w7 ⟨rfl, hb7⟩)
    go_roundw
    case rel =>
     refine ⟨pre ++ [(⟨⟨r, t.2.1, true, t.1.1, t.1.2⟩, A1, c1⟩ : Pt)], b, W6, by simp, rfl, rfl, hbl, by simp; omega, ?_, HJ6.out, hb7, HK6.out.1.trans (hb7.mono hn6), (hb7.block Bn (Nat.lt_of_lt_of_le hlt HK6.out.1.size)).trans HK6.out.2⟩
     have e1 : frS xs r = ⟨r, t.2.1, true, t.1.1, t.1.2⟩ := by unfold frS; rw [HT.out]
     have e2 := HA.out.fr hrl HBG.out
     rw [e1, HT.out, HB.out] at e2
     change Ahead xs (List.map (fun x : Pt => x.s) _) b
     simpa using e2
    case measure => simp [intOf]; omega
theorem parts_any (A : Option Addr) (n c : Nat) (w : World) :
  Calls Tryz.prog 52 #[.slice A n c] w fun e w' => e = .returned (.func (.func 78) #[] #[.pointer (some ⟨w.heap.size, 0, none⟩)]) ∧ w' = w.alloc (.cells #[.slice A n c] 22) := by
 go_enter Tryz.func52, Tryz.ntmps52
 go_wp2_with fail
 go_ret
 exact ⟨rfl, rfl⟩
theorem parts_hands (n : Nat) (hn : 1 ≤ n) (Bn n₀ : Nat) (A : Option Addr) (c : Nat) (xs : List Int) (hsm : xs.length ≤ 1000000000000) (hbx : ∀ x ∈ xs, 0 ≤ x ∧ x < 256) (w : World)
  (hBn : w.cell? ⟨Bn, 0, none⟩ = some (.slice A xs.length c)) (hlt : Bn < w.heap.size) (hn0 : n₀ ≤ w.heap.size) (hrow : Row w n₀ (.slice A xs.length c) xs) :
  Hands Fence.wide n Tryz.prog 78 #[.pointer (some ⟨Bn, 0, none⟩)] (fun x : Pt => #[x.val]) (PtOk xs) (KeepsB n₀ Bn) (fun ys => PartsS xs 0 (ys.map (·.s))) xs.length w := fun l J W hW hY h0 =>
 parts1_in n hn l Bn n₀ A c xs hsm hbx J W hY ((hW.cell (p := ⟨Bn, 0, none⟩) hlt).trans hBn) (Nat.lt_of_lt_of_le hlt hW.size) (Nat.le_trans hn0 hW.size) (hrow.below (hW.mono hn0)) h0
end
open Go.RowKit Go.Shelf
def Between (n₀ B Bn : Nat) (bv : Value) (w : World) (f : List Pt → List Pt) (pre : List Pt) (W : World) : Prop :=
 (∃ v, Boxed W B 42 v ∧ Segs W n₀ v (f pre)) ∧ Boxed W Bn 22 bv ∧ Below n₀ w W
def InRound (n₀ B Bn : Nat) (bv : Value) (w : World) (xs : List Int) (f : List Pt → List Pt) (fr : Pt → Nat → Act) (m : Nat) (pre : List Pt) (x : Pt) (a : Act) (W : World) : Prop :=
 ∃ q v, a = fr x q ∧ Held W q 46 #[.int .i64 x.s.frm, .int .i64 x.s.n, .bool x.s.isf, .int .i64 x.s.kind, .slice x.A x.s.pay.length x.c] ∧ m ≤ q ∧ B < m ∧ (∀ g, v.ownBlock = some g → g < m) ∧
  Boxed W B 42 v ∧ Segs W n₀ v (f pre) ∧ Boxed W Bn 22 bv ∧ Below n₀ w W ∧ PtOk xs x W
section
variable {n₀ B Bn : Nat} {bv : Value} {w : World} {xs : List Int} {f : List Pt → List Pt} {fr : Pt → Nat → Act}
theorem between_own {b : Nat} (hn : n₀ ≤ w.heap.size) (hb : n₀ ≤ b) : OwnFrom b (Between n₀ B Bn bv w f) := by
 rintro pre X Y row ⟨⟨v, h1, h2⟩, h3, h4⟩ hg hr
 have ht : Turned X Y row := ⟨hg, fun r e => (hr r e).2⟩
 exact ⟨⟨v, ht.block h1, h2.turned ht⟩, ht.block h3, ownFrom_below (β := Unit) hn hb () X Y row h4 hg hr⟩
theorem inRound_own {b m : Nat} {pre : List Pt} {x : Pt} {a : Act} (hn : n₀ ≤ w.heap.size) (hb : n₀ ≤ b) : OwnFrom b (fun (_ : Unit) W => InRound n₀ B Bn bv w xs f fr m pre x a W) := by
 rintro _ X Y row ⟨q, v, e, h1, h2, h3, h4, h5, h6, h7, h8, h9⟩ hg hr
 have ht : Turned X Y row := ⟨hg, fun r e => (hr r e).2⟩
 exact ⟨q, v, e, ht.block h1, h2, h3, h4, ht.block h5, h6.turned ht, ht.block h7, ownFrom_below (β := Unit) hn hb () X Y row h8 hg hr, h9.1.turned ht, h9.2⟩
theorem taken_round {b : Nat} {pre : List Pt} {x : Pt} {W0 W : World} (hI : Between n₀ B Bn bv w f pre W0) (hb : Below W0.heap.size W0 W) (hx : PtOk xs x W) (hn : n₀ ≤ w.heap.size) :
  KeepsFrom b W (W.alloc (.cells #[.int .i64 x.s.frm, .int .i64 x.s.n, .bool x.s.isf, .int .i64 x.s.kind, .slice x.A x.s.pay.length x.c] 46)) ∧
  KeepsB n₀ Bn W0.heap.size W (W.alloc (.cells #[.int .i64 x.s.frm, .int .i64 x.s.n, .bool x.s.isf, .int .i64 x.s.kind, .slice x.A x.s.pay.length x.c] 46)) ∧
  InRound n₀ B Bn bv w xs f fr W0.heap.size pre x (fr x W.heap.size) (W.alloc (.cells #[.int .i64 x.s.frm, .int .i64 x.s.n, .bool x.s.isf, .int .i64 x.s.kind, .slice x.A x.s.pay.length x.c] 46)) := by
 obtain ⟨⟨v, h1, h2⟩, h3, h4⟩ := hI
 have hn0 : n₀ ≤ W0.heap.size := Nat.le_trans hn h4.size
 have hnW : n₀ ≤ W.heap.size := Nat.le_trans hn0 hb.size
 generalize hX : W.alloc (.cells #[.int .i64 x.s.frm, .int .i64 x.s.n, .bool x.s.isf, .int .i64 x.s.kind, .slice x.A x.s.pay.length x.c] 46) = X
 have ba : Below W.heap.size W X := by rw [← hX]; exact (Below.refl _ _).alloc (Nat.le_refl _) _
 have bb : Below W0.heap.size W0 X := hb.trans (ba.mono hb.size)
 refine ⟨by rw [← hX]; exact (KeepsOthers.alloc W _).from _, ⟨ba.mono hnW, ba.block _ (Nat.lt_of_lt_of_le h3.lt hb.size), fun k _ hk => ba.block k hk⟩, W.heap.size, v, rfl, by rw [← hX]; exact heap_alloc_new W _, hb.size, h1.lt, fun g e => (h2.1.lt g e).2,
  (bb.block _ h1.lt).trans h1, h2.below bb, (bb.block _ h3.lt).trans h3, h4.trans (bb.mono hn0), hx.1.below ba, hx.2⟩
theorem laid_round {b m : Nat} {pre : List Pt} {x : Pt} {W w1 : World} {v v' : Value} {tmp : Obj} (h1 : Boxed W B 42 v) (h2 : Segs W n₀ v (f pre)) (h3 : Boxed W Bn 22 bv) (h4 : Below n₀ w W) (hn : n₀ ≤ w.heap.size) (hB : n₀ ≤ B) (hBm : B < m) (hg : ∀ g, v.ownBlock = some g → g < m) (hne : Bn ≠ B)
  (hs : Segs w1 n₀ v' (f (pre ++ [x]))) (hgr : (W.alloc tmp).grownBy w1 v.ownBlock) :
  Boxed w1 B 42 v ∧ KeepsFrom b W (w1.setCell ⟨B, 0, none⟩ v') ∧ KeepsB n₀ Bn m W (w1.setCell ⟨B, 0, none⟩ v') ∧ Between n₀ B Bn bv w f (pre ++ [x]) (w1.setCell ⟨B, 0, none⟩ v') := by
 have hnW : n₀ ≤ W.heap.size := Nat.le_trans hn h4.size
 have hap := h2.apart h1 (by decide)
 have hapn := h2.apart h3 (by decide)
 have hv1 : Boxed w1 B 42 v := (h1.alloc tmp).kept hgr (hap.elim (fun e => by rw [e]; simp) (fun e => Ne.symm e))
 have hn1 : Boxed w1 Bn 22 bv := (h3.alloc tmp).kept hgr (hapn.elim (fun e => by rw [e]; simp) (fun e => Ne.symm e))
 have hn2 : Boxed (w1.setCell ⟨B, 0, none⟩ v') Bn 22 bv := hn1.other hne v'
 have hv2 : Boxed (w1.setCell ⟨B, 0, none⟩ v') B 42 v' := hv1.set v'
 have hs2 : Segs (w1.setCell ⟨B, 0, none⟩ v') n₀ v' (f (pre ++ [x])) := by
  refine hs.kept (grownBy_setCell' w1 B v') (hs.apart hv1 (by decide)) (fun k e i n hc => ?_)
  obtain rfl : B = k := by injection e
  rw [show w1.cell? ⟨B, i, none⟩ = (#[v] : Array Value)[i]? from cell_of_row w1 B i #[v] _ _ hv1] at hc
  obtain ⟨A, c, rfl, _⟩ := h2.form
  match i with
  | 0 => simp at hc
  | i + 1 => simp at hc
 have hbl : Below n₀ W (w1.setCell ⟨B, 0, none⟩ v') := (((Below.refl n₀ W).alloc hnW tmp).grown hgr (by simp; omega) (fun k e => (h2.1.lt k e).1)).setCell (p := ⟨B, 0, none⟩) hB v'
 refine ⟨hv1, ?_, ⟨hbl, ?_, fun k hk hk2 => ?_⟩, ⟨v', hv2, hs2⟩, hn2, h4.trans hbl⟩
 ·refine (((KeepsOthers.alloc W tmp).trans (KeepsOthers.of_grownBy hgr fun j o ej hj => ?_)).trans (KeepsOthers.setCell _ _ _)).from _
  rcases (h2.alloc tmp).1.2 with ⟨rfl, _⟩ | ⟨g, cap, cur, rfl, _, hgb, _⟩
  ·simp [Value.ownBlock] at ej
  ·obtain rfl : g = j := by simpa [Value.ownBlock] using ej
   rw [hgb] at hj
   cases hj
   rfl
 ·exact hn2.trans (show W.heap[Bn]? = _ from h3).symm
 ·rw [Below.heap_setCell _ ⟨B, 0, none⟩ _ k (by simp only; omega), hgr.block k (by simp; omega) (fun e => by have := hg k e.symm; omega)]
  exact Below.heap_alloc _ _ _ hk2
end
section
attribute [local go_sem] Oper.semAt_some
theorem Segs.mono {w : World} {n0 n : Nat} {v : Value} {ps : List Pt} (h : Segs w n0 v ps) (hn : n ≤ n0) : Segs w n v ps := by
 obtain ⟨⟨h1, h2⟩, h3, h4⟩ := h
 refine ⟨⟨h1, h2.imp id ?_⟩, h3, h4⟩
 rintro ⟨g, cap, cur, e, hg, r⟩
 exact ⟨g, cap, cur, e, Nat.le_trans hn hg, r⟩
theorem appendSeq_any (A : Option Addr) (c : Nat) (xs : List Int) (hsm : xs.length ≤ 100000000000) (hbx : ∀ x ∈ xs, 0 ≤ x ∧ x < 256) (Bn : Nat) (w : World) (hBn : Boxed w Bn 22 (.slice A xs.length c)) (hlt : Bn < w.heap.size) (hrow : Row w w.heap.size (.slice A xs.length c) xs) :
  Calls Tryz.prog 108 #[.slice none 0 0, .func (.func 78) #[] #[.pointer (some ⟨Bn, 0, none⟩)]] w (Collected xs w) := by
 obtain ⟨i0, hi, hz0, hz1, hz2⟩ := info_parts Tryz.infoSeg
 refine (callsIn_wide (n := 5)).1 ?_
 refine callsIn_of_wp_marks Tryz.func108 rfl trivial ?_ rfl
 simp only [Tryz.ntmps108, List.size_toArray, List.length_cons, List.length_nil, Nat.reduceAdd, Nat.reduceSub, Array.replicate_succ, Array.replicate_zero, List.push_toArray, List.append_toArray, List.nil_append, List.cons_append]
 gi_wp2
 have hbw : Below w.heap.size w (w.alloc (.cells #[.slice none 0 0] 42)) := (Below.refl _ _).alloc (Nat.le_refl _) _
 have hB0 := Boxed.new w 42 (.slice none 0 0)
 have hBn1 : Boxed (w.alloc (.cells #[.slice none 0 0] 42)) Bn 22 (.slice A xs.length c) := (hbw.block Bn hlt).trans hBn
 have hs1 : (w.alloc (.cells #[.slice none 0 0] 42)).heap.size = w.heap.size + 1 := World.size_alloc _ _
 refine range_told rfl (by omega) (gf := 78) (lb := #[.pointer (some ⟨Bn, 0, none⟩)]) rfl trivial (enters_of Tryz.func78 (by kernel_rfl) rfl)
  (parts_hands (5 - 1) (by omega) Bn w.heap.size A c xs (by omega) hbx _ hBn1.cell (by omega) (by omega) (hrow.below hbw)) (fun _ => rfl) (fun h k => h.trans k) (fun m W l o o' hl hm h hc => KeepsB.turn (w := w.alloc (.cells #[.slice none 0 0] 42)) (by omega) (by omega) m W l o o' hl hm h hc)
  (Between w.heap.size w.heap.size Bn (.slice A xs.length c) w id) (between_own (Nat.le_refl _) (by omega)) ⟨⟨_, hB0, Segs.nil _ _⟩, hBn1, hbw⟩
  (InRound w.heap.size w.heap.size Bn (.slice A xs.length c) w xs id (fun x q => { tmps := #[.slice none 0 0, .func (.func 78) #[] #[.pointer (some ⟨Bn, 0, none⟩)], .pointer (some ⟨w.heap.size, 0, none⟩), undef, .slice none 0 0, .pointer (some ⟨q, 0, none⟩), .func (.func 78) #[] #[.pointer (some ⟨Bn, 0, none⟩)], x.val, undef, undef, undef, undef, undef], defers := [] }))
  (fun m pre x a' => inRound_own (Nat.le_refl _) (by omega)) ?take ?body ?done
 case take =>
  rintro l pre x W0 W K hI hb hR _ hK
  obtain ⟨h1, h2, h3⟩ := taken_round (b := (w.alloc (.cells #[.slice none 0 0] 42)).heap.size) (fr := (fun x q => { tmps := #[.slice none 0 0, .func (.func 78) #[] #[.pointer (some ⟨Bn, 0, none⟩)], .pointer (some ⟨w.heap.size, 0, none⟩), undef, .slice none 0 0, .pointer (some ⟨q, 0, none⟩), .func (.func 78) #[] #[.pointer (some ⟨Bn, 0, none⟩)], x.val, undef, undef, undef, undef, undef], defers := [] })) hI hb hR (Nat.le_refl _)
  have HK := hid (hK _ _ h1 h2 h3)
  clear hK h1 h2 h3 hI hb hR hrow hbx hBn hBn1 hB0 hbw
  gi_wp2
  exact HK.out
 case body =>
  rintro l m pre x a' W ⟨q, v, rfl, hq, hmq, hBm, hg, hv, hseg, hbn, hbe, hx⟩ hlen
  have hbl : Below W.heap.size W (W.alloc (.cells #[.int .i64 x.s.frm, .int .i64 x.s.n, .bool x.s.isf, .int .i64 x.s.kind, .slice x.A x.s.pay.length x.c] 46)) := (Below.refl _ _).alloc (Nat.le_refl _) _
  have happ := fun v' w1 (hs : Segs w1 w.heap.size v' (id (pre ++ [x]))) (hgr : (W.alloc (.cells #[.int .i64 x.s.frm, .int .i64 x.s.n, .bool x.s.isf, .int .i64 x.s.kind, .slice x.A x.s.pay.length x.c] 46)).grownBy w1 v.ownBlock) =>
   laid_round (b := (w.alloc (.cells #[.slice none 0 0] 42)).heap.size) (m := m) hv hseg hbn hbe (Nat.le_refl _) (Nat.le_refl _) hBm hg (Nat.ne_of_lt hlt) hs hgr
  have HAPP := hid happ
  have HSEG := hid (hseg.below hbl)
  have HX := hid (hx.1.below hbl)
  have hcells : ∀ (j : Nat) (u : Value), x.cells[j]? = some u → (W.alloc (.cells #[.int .i64 x.s.frm, .int .i64 x.s.n, .bool x.s.isf, .int .i64 x.s.kind, .slice x.A x.s.pay.length x.c] 46)).cell? ((⟨W.heap.size, 0, none⟩ : Addr).add j) = some u := by
   intro j u hj
   rw [Go.WideShapes.add_plain, Nat.zero_add, cell_of_row _ W.heap.size j _ _ (0, 0) (heap_alloc_new W _)]
   simpa [Pt.cells] using hj
  have HCELLS := hid hcells
  have hle : w.heap.size ≤ W.heap.size := hbe.size
  have HN := hid hlen
  obtain ⟨hc0, hc1, hc2, hc3, hc4⟩ := cC5 hq
  simp at hc0 hc1 hc2 hc3 hc4
  have hcB := hv.cell
  clear hq hv hseg hbn hbe hx hlen hcells happ hbl hrow hbx hBn hBn1 hB0 hbw
  gi_wp2_with (gi_at_builtin; refine wpListIn_append_seg rfl _ _ 42 rfl i0 _ Tryz.underlying42 hi hz0 hz1 (by omega) rfl w.heap.size v pre rfl HSEG.out ⟨W.heap.size, 0, none⟩ 1 x rfl HCELLS.out HX.out (by have := HN.out; omega) (by simp; omega) ?_
               intro v' w1 hs1' hgr; obtain ⟨hv1, hkf, hkp, hbt⟩ := HAPP.out v' w1 hs1' hgr
               obtain ⟨A1, c1, ev, _⟩ := hs1'.form
               rw [show (pre ++ [x]).length = pre.length + 1 by simp] at ev
               subst ev
               have hc1' := hv1.cell; have hf1' := hv1.frozen; have HKF := hid hkf; have HKP := hid hkp; have HBT := hid hbt; clear hkf hkp hbt hs1' hgr hv1)
  exact ⟨HKF.out, HKP.out, HBT.out⟩
 case done =>
  rintro D ys W hD hS ⟨⟨v, hv, hseg⟩, hbn, hbe⟩ hK
  have hc := hv.cell
  gi_wp2
  refine ⟨by simp, .inl ⟨_, _, rfl, run_takeDeferred hK, ?_⟩⟩
  exact ⟨_, results_tmp rfl _ _ _, v, ys, rfl, hS, hseg.putObj _ hK rfl, hbe.trans (belowK_b (w := w) (Nat.le_refl _) W D _ _ (by omega) hK rfl rfl)⟩
theorem collect_any (A : Option Addr) (c : Nat) (xs : List Int) (hsm : xs.length ≤ 100000000000) (hbx : ∀ x ∈ xs, 0 ≤ x ∧ x < 256) (Bn : Nat) (w : World) (hBn : Boxed w Bn 22 (.slice A xs.length c)) (hlt : Bn < w.heap.size) (hrow : Row w w.heap.size (.slice A xs.length c) xs) :
  Calls Tryz.prog 64 #[.func (.func 78) #[] #[.pointer (some ⟨Bn, 0, none⟩)]] w (Collected xs w) := by
 have HA := hid (appendSeq_any A c xs hsm hbx Bn w hBn hlt hrow)
 clear hBn hrow hbx
 go_enter Tryz.func64, Tryz.ntmps64
 go_wp2_with fail
 refine HA.out.mono ?_
 rintro e w1 ⟨v, ps, rfl, h1, h2, h3⟩
 go_wp2_with fail
 go_ret
 exact ⟨v, ps, rfl, h1, h2, h3⟩
theorem of_any (A : Option Addr) (c : Nat) (xs : List Int) (hsm : xs.length ≤ 100000000000) (w : World) (hrow : Row w w.heap.size (.slice A xs.length c) xs) (hbx : ∀ x ∈ xs, 0 ≤ x ∧ x < 256) :
  Calls Tryz.prog 34 #[.slice A xs.length c] w (Collected xs w) := by
 have hbw : Below w.heap.size w (w.alloc (.cells #[.slice A xs.length c] 22)) := (Below.refl _ _).alloc (Nat.le_refl _) _
 have HC := hid (collect_any A c xs hsm hbx w.heap.size _ (Boxed.new w 22 (.slice A xs.length c)) (by simp) ((hrow.below hbw).more (by simp)))
 have HB := hid hbw
 clear hrow hbx hbw
 go_enter Tryz.func34, Tryz.ntmps34
 go_wp2_with fail
 refine (parts_any _ _ _ _).mono ?_
 rintro e w1 ⟨rfl, rfl⟩
 go_wp2_with fail
 refine HC.out.mono ?_
 rintro e w1 ⟨v, ps, rfl, h1, h2, h3⟩
 have H1 := hid h1
 have H2 := hid h2
 have H3 := hid h3
 clear h1 h2 h3
 go_wp2_with fail
 go_ret
 refine ⟨v, ps, rfl, H1.out, H2.out.mono (by simp), HB.out.trans (H3.out.mono (by simp))⟩
end
section
attribute [local go_sem] Oper.semAt_some
def onlyF (l : List Pt) : List Pt := l.filter (·.s.isf)
theorem onlyF_yes {l : List Pt} {x : Pt} (h : x.s.isf = true) : onlyF (l ++ [x]) = onlyF l ++ [x] := by simp [onlyF, List.filter_append, h]
theorem onlyF_no {l : List Pt} {x : Pt} (h : x.s.isf = false) : onlyF (l ++ [x]) = onlyF l := by simp [onlyF, List.filter_append, h]
theorem onlyF_le (l : List Pt) : (onlyF l).length ≤ l.length := List.length_filter_le _ _
theorem onlyF_map : ∀ l : List Pt, (onlyF l).map (·.s) = framesS (l.map (·.s))
 | [] => rfl
 | p :: l => by
  have ih := onlyF_map l
  unfold onlyF framesS at ih ⊢
  cases h : p.s.isf <;> simp [h, ih]
def FramesOf (xs : List Int) (w : World) (e : Ending) (w' : World) : Prop :=
 ∃ v ps l, e = .returned v ∧ PartsS xs 0 l ∧ ps.map (·.s) = framesS l ∧ Segs w' w.heap.size v ps ∧ Below w.heap.size w w'
theorem frames_any (A : Option Addr) (c : Nat) (xs : List Int) (hsm : xs.length ≤ 100000000000) (w : World) (hrow : Row w w.heap.size (.slice A xs.length c) xs) (hbx : ∀ x ∈ xs, 0 ≤ x ∧ x < 256) :
  Calls Tryz.prog 27 #[.slice A xs.length c] w (FramesOf xs w) := by
 obtain ⟨i0, hi, hz0, hz1, hz2⟩ := info_parts Tryz.infoSeg
 refine (callsIn_wide (n := 5)).1 ?_
 refine callsIn_of_wp_marks Tryz.func27 rfl trivial ?_ rfl
 simp only [Tryz.ntmps27, List.size_toArray, List.length_cons, List.length_nil, Nat.reduceAdd, Nat.reduceSub, Array.replicate_succ, Array.replicate_zero, List.push_toArray, List.append_toArray, List.nil_append, List.cons_append]
 gi_wp2_with (refine ⟨trivial, ?_⟩; gi_at_call 52; refine (callsIn_wide.2 (parts_any _ _ _ _)).mono ?_; rintro e w' ⟨rfl, rfl⟩)
 obtain ⟨w1, hw1⟩ : ∃ w1, (w.alloc (.cells #[.slice none 0 0] 42)).alloc (.cells #[.slice A xs.length c] 22) = w1 := ⟨_, rfl⟩
 have hs0 : (w.alloc (.cells #[.slice none 0 0] 42)).heap.size = w.heap.size + 1 := World.size_alloc _ _
 have hs1 : w1.heap.size = w.heap.size + 2 := by rw [← hw1, World.size_alloc, hs0]
 have hbw : Below w.heap.size w w1 := by rw [← hw1]; exact ((Below.refl _ _).alloc (Nat.le_refl _) _).alloc (by rw [hs0]; omega) _
 have hB0 : Boxed w1 w.heap.size 42 (.slice none 0 0) := by rw [← hw1]; exact (Boxed.new w 42 (.slice none 0 0)).alloc _
 have hBn1 : Boxed w1 (w.heap.size + 1) 22 (.slice A xs.length c) := by rw [← hw1, ← hs0]; exact Boxed.new _ _ _
 try rw [hs0]
 rw [hw1]
 clear hw1 hs0
 refine range_told rfl (by omega) (gf := 78) (lb := #[.pointer (some ⟨w.heap.size + 1, 0, none⟩)]) rfl trivial (enters_of Tryz.func78 (by kernel_rfl) rfl)
  (parts_hands (5 - 1) (by omega) (w.heap.size + 1) w.heap.size A c xs (by omega) hbx _ hBn1.cell (by omega) (by omega) (hrow.below hbw)) (fun _ => rfl) (fun h k => h.trans k) (fun m W l o o' hl hm h hc => KeepsB.turn (w := w1) (by omega) (by omega) m W l o o' hl hm h hc)
  (Between w.heap.size w.heap.size (w.heap.size + 1) (.slice A xs.length c) w onlyF) (between_own (Nat.le_refl _) (by omega)) ⟨⟨_, hB0, Segs.nil _ _⟩, hBn1, hbw⟩
  (InRound w.heap.size w.heap.size (w.heap.size + 1) (.slice A xs.length c) w xs onlyF (fun x q => { tmps := #[.slice A xs.length c, undef, .slice none 0 0, .pointer (some ⟨w.heap.size, 0, none⟩), .pointer (some ⟨q, 0, none⟩), .slice A xs.length c, .func (.func 78) #[] #[.pointer (some ⟨w.heap.size + 1, 0, none⟩)], x.val, undef, undef, undef, undef, undef, undef, undef], defers := [] }))
  (fun m pre x a' => inRound_own (Nat.le_refl _) (by omega)) ?take ?body ?done
 case take =>
  rintro l pre x W0 W K hI hb hR _ hK
  obtain ⟨h1, h2, h3⟩ := taken_round (b := w1.heap.size) (fr := (fun x q => { tmps := #[.slice A xs.length c, undef, .slice none 0 0, .pointer (some ⟨w.heap.size, 0, none⟩), .pointer (some ⟨q, 0, none⟩), .slice A xs.length c, .func (.func 78) #[] #[.pointer (some ⟨w.heap.size + 1, 0, none⟩)], x.val, undef, undef, undef, undef, undef, undef, undef], defers := [] })) hI hb hR (Nat.le_refl _)
  have HK := hid (hK _ _ h1 h2 h3)
  clear hK h1 h2 h3 hI hb hR hrow hbx hBn1 hB0 hbw hs1
  gi_wp2
  exact HK.out
 case body =>
  rintro l m pre x a' W ⟨q, v, rfl, hq, hmq, hBm, hg, hv, hseg, hbn, hbe, hx⟩ hlen
  have hbl : Below W.heap.size W (W.alloc (.cells #[.int .i64 x.s.frm, .int .i64 x.s.n, .bool x.s.isf, .int .i64 x.s.kind, .slice x.A x.s.pay.length x.c] 46)) := (Below.refl _ _).alloc (Nat.le_refl _) _
  have hcells : ∀ (j : Nat) (u : Value), x.cells[j]? = some u → (W.alloc (.cells #[.int .i64 x.s.frm, .int .i64 x.s.n, .bool x.s.isf, .int .i64 x.s.kind, .slice x.A x.s.pay.length x.c] 46)).cell? ((⟨W.heap.size, 0, none⟩ : Addr).add j) = some u := by
   intro j u hj
   rw [Go.WideShapes.add_plain, Nat.zero_add, cell_of_row _ W.heap.size j _ _ (0, 0) (heap_alloc_new W _)]
   simpa [Pt.cells] using hj
  have HCELLS := hid hcells
  have hle : w.heap.size ≤ W.heap.size := hbe.size
  have HN := hid hlen
  have hfl := onlyF_le pre
  obtain ⟨hc0, hc1, hc2, hc3, hc4⟩ := cC5 hq
  simp at hc0 hc1 hc2 hc3 hc4
  have hcB := hv.cell
  rcases Bool.eq_false_or_eq_true x.s.isf with hf | hf
  ·have happ := fun v' w2 (hs : Segs w2 w.heap.size v' (onlyF (pre ++ [x]))) (hgr : (W.alloc (.cells #[.int .i64 x.s.frm, .int .i64 x.s.n, .bool x.s.isf, .int .i64 x.s.kind, .slice x.A x.s.pay.length x.c] 46)).grownBy w2 v.ownBlock) =>
    laid_round (b := w1.heap.size) (m := m) hv hseg hbn hbe (Nat.le_refl _) (Nat.le_refl _) hBm hg (by omega) hs hgr
   rw [onlyF_yes hf] at happ
   have HAPP := hid happ
   have HSEG := hid (hseg.below hbl)
   have HX := hid (hx.1.below hbl)
   rw [hf] at hc2 HCELLS HSEG HAPP HX
   clear hq hv hseg hbn hbe hx hlen hcells happ hbl hrow hbx hBn1 hB0 hbw hs1
   gi_wp2_with (gi_at_builtin; refine wpListIn_append_seg rfl _ _ 42 rfl i0 _ Tryz.underlying42 hi hz0 hz1 (by omega) rfl w.heap.size v (onlyF pre) rfl HSEG.out ⟨W.heap.size, 0, none⟩ 1 x rfl HCELLS.out HX.out (by have := HN.out; omega) (by simp; omega) ?_
                intro v' w2 hs1' hgr; obtain ⟨hv1, hkf, hkp, hbt⟩ := HAPP.out v' w2 hs1' hgr
                obtain ⟨A1, c1, ev, _⟩ := hs1'.form
                rw [show (onlyF pre ++ [x]).length = (onlyF pre).length + 1 by simp] at ev
                subst ev
                have hc1' := hv1.cell; have hf1' := hv1.frozen; have HKF := hid hkf; have HKP := hid hkp; have HBT := hid hbt; clear hkf hkp hbt hs1' hgr hv1)
   exact ⟨HKF.out, HKP.out, HBT.out⟩
  ·have HB := hid (show Between w.heap.size w.heap.size (w.heap.size + 1) (.slice A xs.length c) w onlyF (pre ++ [x]) W from ⟨⟨v, hv, by rw [onlyF_no hf]; exact hseg⟩, hbn, hbe⟩)
   rw [hf] at hc2
   clear hq hv hseg hbn hbe hx hlen hcells hbl hrow hbx hBn1 hB0 hbw hs1
   gi_wp2
   exact ⟨(KeepsOthers.refl W).from _, KeepsB.refl _ _ _ _, HB.out⟩
 case done =>
  rintro D ys W hD hS ⟨⟨v, hv, hseg⟩, hbn, hbe⟩ hK
  have hc := hv.cell
  gi_wp2
  refine ⟨by simp, .inl ⟨_, _, rfl, run_takeDeferred hK, ?_⟩⟩
  exact ⟨_, results_tmp rfl _ _ _, v, onlyF ys, _, rfl, hS, onlyF_map ys, hseg.putObj _ hK rfl, hbe.trans (belowK_b (w := w) (Nat.le_refl _) W D _ _ (by omega) hK rfl rfl)⟩
end
theorem ofG_same {xs : List Int} {g g' : Gp} (h : ofG xs g) (h' : ofG xs g') : g = g' := by
 obtain ⟨l, h1, rfl⟩ := h
 obtain ⟨l', h2, rfl⟩ := h'
 rw [h1.same h2]
theorem ofG_right {xs : List Int} {g : Gp} (hx : ∀ x ∈ xs, 0 ≤ x ∧ x < 256) (h : ofG xs g) : Ig g := by
 obtain ⟨l, h1, rfl⟩ := h
 refine Ig.zero.take fun s hs => ?_
 obtain ⟨p, hp, rfl⟩ := List.mem_map.1 hs
 exact (parts_pay hx h1 p hp).2
theorem Bd.zero : Bd 0 noG := ⟨by simp [noG], by simp [noG], by simp [noG], by simp [noG]⟩
theorem ofG_most {xs : List Int} {g : Gp} (hx : ∀ x ∈ xs, 0 ≤ x ∧ x < 256) (hl : xs.length ≤ 1000000000) (hpl : ∀ l, PartsS xs 0 l → l.length ≤ 100000) (h : ofG xs g) : g.pts.length ≤ 1000000000 ∧ g.rej.length ≤ 1000000000 := by
 obtain ⟨l, h1, rfl⟩ := h
 have hle := h1.le hx
 have h2 := Bd.zero.take (l := l.map sgJ) (fun s hs => by
  obtain ⟨p, hp, rfl⟩ := List.mem_map.1 hs
  have := hle.2.2 p hp
  exact ⟨by show (-1099511627776 : Int) ≤ (p.n : Int); omega, by show (p.n : Int) ≤ 1099511627776; omega⟩) (l.map sgJ).length (Nat.le_refl _)
 rw [List.take_length] at h2
 have h3 := hpl l h1
 have h4 := h2.pts
 have h5 := h2.rej
 rw [List.length_map] at h4 h5
 exact ⟨by omega, by omega⟩
theorem ofG_bound {xs : List Int} {g : Gp} (hx : ∀ x ∈ xs, 0 ≤ x ∧ x < 256) (hl : xs.length ≤ 100000) (h : ofG xs g) : g.pts.length ≤ 1000000000 ∧ g.rej.length ≤ 1000000000 :=
 ofG_most hx (by omega) (fun l hp => Nat.le_trans (hp.le hx).1 hl) h
theorem segs_part {w W' : World} {n0 t : Nat} {v : Value} {ps : List Pt} (h : Segs w n0 v ps) (ht : t < n0) (hc : ∀ (i : Nat) (n : Int), w.cell? ⟨t, i, none⟩ ≠ some (.int .u8 n)) (hp : PartN (fun j => j = t) w W') : w.heap.size ≤ W'.heap.size ∧ W'.ownsRow n0 46 5 v ps.length (flatS ps) ∧ ∀ p ∈ ps, p.Reads W' W'.heap.size := by
 refine ⟨hp.size, own_part h.1 hp (fun j hj e => by omega), fun p hpm => ?_⟩
 exact Row.more (Row.keep_but (h.2.2 p hpm) (fun k hk hne => hp.block k hk hne) hc) hp.size
theorem jrow_part {w W' : World} {n0 t : Nat} {v : Value} {xs : List Int} {ps : List Pt} (hx : ∀ x ∈ xs, 0 ≤ x ∧ x < 256) (hl : xs.length ≤ 1000000000) (hps : PartsS xs 0 (ps.map (·.s))) (h : Segs w n0 v ps) (ht : t < n0) (hc : ∀ (i : Nat) (n : Int), w.cell? ⟨t, i, none⟩ ≠ some (.int .u8 n)) (hp : PartN (fun j => j = t) w W') : JRow W' W'.heap.size v (ps.map toJ) := by
 obtain ⟨h1, h2, h3⟩ := segs_part h ht hc hp
 have hle := hps.le hx
 have hpay := parts_pay hx hps
 refine ⟨by rw [List.length_map, flatS5_pt]; exact ERow.of_own h2, fun x hxm => ?_⟩
 obtain ⟨p, hpm, rfl⟩ := List.mem_map.1 hxm
 have k1 := hle.2.2 p.s (List.mem_map_of_mem hpm)
 have k2 := hpay p.s (List.mem_map_of_mem hpm)
 exact ⟨h3 p hpm, k2.2, by show p.s.pay.length ≤ _; omega, by show (-1099511627776 : Int) ≤ (p.s.n : Int); omega, by show (p.s.n : Int) ≤ 1099511627776; omega⟩
theorem held_no_byte {w : World} {t : Nat} {ty : TypeId} {A1 A2 A3 : Option Addr} {n1 n2 n3 c1 c2 c3 : Nat} {a b : Int} (h : Held w t ty #[.slice A1 n1 c1, .slice A2 n2 c2, .int .i64 a, .int .i64 b, .slice A3 n3 c3]) (i : Nat) (n : Int) : w.cell? ⟨t, i, none⟩ ≠ some (.int .u8 n) := by
 rw [h.cell i]
 rcases i with _ | _ | _ | _ | _ | i <;> simp
section
variable {w : World} {R : Nat} {a b c d e : Value} {T : Array Value}
theorem res_ofc (h : T[2]?.getD undef = .pointer (some ⟨R, 0, none⟩)) (hz : Held w R 28 #[a, b, c, d, e]) :
  (results Tryz.f12 T).run Tryz.prog w = .ok (.agg #[a, b, c, d, e]) w := by
 obtain ⟨z0, z1, z2, z3, z4⟩ := cC5 hz
 simp at z0 z1 z2 z3 z4
 simp [results, Tryz.results12, go_sem, h, z0, z1, z2, z3, z4]
end
def OfGot (xs : List Int) (w : World) (e : Ending) (w' : World) : Prop := ∃ g, ofG xs g ∧ GtGot w g e w'
section
variable (A : Option Addr) (c : Nat) (xs : List Int)
theorem readOf_most (hb : ∀ x ∈ xs, 0 ≤ x ∧ x < 256) (hl : xs.length ≤ 1000000000) (hpl : ∀ l, PartsS xs 0 l → l.length ≤ 100000) (w : World) (hrow : Row w w.heap.size (.slice A xs.length c) xs) :
  Calls Tryz.prog 12 #[.slice A xs.length c] w (OfGot xs w) := by
 obtain ⟨N, hN⟩ : ∃ N, w.heap.size = N := ⟨_, rfl⟩
 obtain ⟨u0, hu0⟩ : ∃ u, w.alloc (.cells #[.slice none 0 0, .slice none 0 0, .int .i64 0, .int .i64 0, .slice none 0 0] 28) = u := ⟨_, rfl⟩
 have s0 : u0.heap.size = N + 1 := by rw [← hu0, World.size_alloc, hN]
 have b0 : Below w.heap.size w u0 := by rw [← hu0]; exact (Below.refl _ _).alloc (Nat.le_refl _) _
 have k0 : Held u0 N 28 #[.slice none 0 0, .slice none 0 0, .int .i64 0, .int .i64 0, .slice none 0 0] := by rw [← hu0, ← hN]; exact heap_alloc_new w _
 have HNW := hid (rnew_any u0)
 rw [s0] at HNW
 have HSO := hid (fun W (hW : Below w.heap.size w W) => of_any A c xs (by omega) W ((hrow.below hW).more hW.size) hb)
 have HK0 := hid k0
 have HB0 := hid b0
 have HXB := hid hb
 have HN := hid hN
 have HPL := hid hpl
 clear hrow hb k0 b0 hpl
 unfold OfGot
 go_enter Tryz.func12, Tryz.ntmps12
 go_wp2_with fail
 refine HNW.out.mono ?_
 rintro e w1 ⟨rfl, h1, hb1⟩
 have z1 := h1.held.lt
 have HT1 := hid h1
 have HB1 := hid (HB0.out.trans (hb1.mono (by omega)))
 have HK1 := hid (HK0.out.below hb1 (by omega))
 have HS1 := hid (HSO.out w1 HB1.out)
 clear h1 hb1
 go_wp2_with fail
 refine HS1.out.mono ?_
 rintro e w2 ⟨v, ps, rfl, hparts, hsegs, hb2⟩
 have hz2 := hb2.size
 obtain ⟨A1, c1, rfl⟩ := own_form hsegs.1
 have ht2 := HT1.out.below hb2
 have hj := fun W' (hp : PartN (TS (N + 1) none none) w2 W') => jrow_part HXB.out hl hparts hsegs z1 (fun i n => by have h := ht2.held; exact held_no_byte h i n) (PartN.more hp (fun j hj => by
  rcases hj with hj | hj | hj
  ·exact hj
  ·cases hj
  ·cases hj))
 have hle := HPL.out _ hparts
 rw [List.length_map] at hle
 have HTK := hid (rtake_any ht2 Ig.zero Bd.zero A1 c1 (ps.map toJ) (by rw [List.length_map]; exact hj) (by rw [List.length_map]; omega))
 rw [List.length_map, List.map_map] at HTK
 have HOG := hid (show ofG xs (takeL noG (ps.map ((·.s) ∘ toJ))) from ⟨_, hparts, by rw [List.map_map]; rfl⟩)
 have HB2 := hid (HB1.out.trans (hb2.mono HB1.out.size))
 have HK2 := hid (HK1.out.below hb2 (by omega))
 generalize takeL noG (ps.map ((·.s) ∘ toJ)) = g at HTK HOG
 clear ht2 hj hparts hsegs hb2 hle
 go_wp2_with fail
 refine HTK.out.mono ?_
 rintro e w3 ⟨rfl, SA, Sc, es, PA, Pc, qs, RA, Rc, h3, hp3, hs3⟩
 have hbd := ofG_most HXB.out hl HPL.out HOG.out
 have HG3 := hid (rgot_any h3 (ofG_right HXB.out HOG.out).trc (by rw [← h3.ptsp, List.length_map] at hbd; exact hbd.1) hbd.2)
 have hlow : ∀ i, i < N + 1 → ¬ TS (N + 1) none none i := fun i hi e => by
  rcases e with e | e | e
  ·omega
  ·cases e
  ·cases e
 have hb3 : Below (N + 1) w2 w3 := hp3.low (by omega) hlow
 have HB3 := hid (HB2.out.trans (hb3.mono (by omega)))
 have HK3 := hid (HK2.out.below hb3 (by omega))
 clear h3 hp3 hs3 hb3 hbd
 go_wp2_with fail
 refine HG3.out.mono ?_
 rintro e w4 ⟨SA2, Sc2, es2, PA2, Pc2, qs2, RA2, Rc2, rfl, hg4, hb4⟩
 have hz3 := HB3.out.size
 have k4 := HK3.out.below hb4 HK3.out.lt
 obtain ⟨⟨g0, g1, g2, g3, g4⟩, c0, c1', c2, c3, c4⟩ := cG5 k4
 have lN := k4.lt
 simp at c0 c1' c2 c3 c4
 have HK4 := hid k4
 have HG4 := hid hg4
 have hN3 := HK3.out.lt
 have HB4 := hid (HB3.out.trans (hb4.mono HB3.out.size))
 clear k4 hg4 hb4
 go_wp2_with fail
 refine bodyPost_ret (v := GW g SA2 Sc2 es2 PA2 Pc2 qs2 RA2 Rc2) ?_ rfl ?_
 ·exact res_ofc (R := N) (by simp only [pV]) (held_put5 HK4.out _ _ _ _ _)
 ·refine ⟨g, HOG.out, SA2, Sc2, es2, PA2, Pc2, qs2, RA2, Rc2, rfl, ?_, ?_⟩
  ·exact (HG4.out.kept (grown_put5 w4 N _ _ _ _ _) hN3).base hz3
  ·exact HB4.out.grown (grown_put5 w4 N _ _ _ _ _) HB4.out.size (fun j e => by injection e with e; have := HN.out; omega)
theorem readOf_any (hb : ∀ x ∈ xs, 0 ≤ x ∧ x < 256) (hl : xs.length ≤ 100000) (w : World) (hrow : Row w w.heap.size (.slice A xs.length c) xs) :
  Calls Tryz.prog 12 #[.slice A xs.length c] w (OfGot xs w) := readOf_most A c xs hb (by omega) (fun l hp => Nat.le_trans (hp.le hb).1 hl) w hrow
end
def NotS (w : World) (S : Nat → Prop) (e : TypeId) : Prop := ∀ j c f, S j → w.heap[j]? ≠ some (.cells c e f)
section
variable {w w' : World} {S T : Nat → Prop} {e f : TypeId} {n m k sz : Nat} {u v : Value} {us : List Value}
theorem own_nots (h : w.ownsRow m e sz v k us) (hp : PartN S w w') (hn : NotS w S e) : w'.ownsRow m e sz v k us := by
 refine ⟨h.1, ?_⟩
 rcases h.2 with h2 | ⟨g, cap, cur, q1, q2, q3, r⟩
 ·exact .inl h2
 ·exact .inr ⟨g, cap, cur, q1, q2, (hp.block g (Array.getElem?_eq_some_iff.1 q3).1 (fun hg => hn g cur (0, 0) hg q3)).trans q3, r⟩
theorem Held.nots {g : Nat} {cs : Array Value} (h : Held w g f cs) (hp : PartN S w w') (hn : NotS w S f) : Held w' g f cs :=
 (hp.block g h.lt (fun hg => hn g cs (0, 0) hg h)).trans h
theorem OwnP.nots {es : List Pd} (h : OwnP w n u es) (hp : PartN S w w') (h1 : NotS w S 3) (h2 : NotS w S 58) : OwnP w' n u es :=
 ⟨own_nots h.1 hp h2, fun d hd => ⟨own_nots (h.2 d hd).1 hp h1, (h.2 d hd).2⟩⟩
theorem OwnE.nots {es : List Em} (h : OwnE w n u es) (hp : PartN S w w') (h1 : NotS w S 135) (h2 : NotS w S 91) : OwnE w' n u es :=
 ⟨own_nots h.1 hp h2, fun d hd => ⟨own_nots (h.2 d hd).1 hp h1, (h.2 d hd).2⟩⟩
theorem OwnT.nots {ps : List Pm} (h : OwnT w n u ps) (hp : PartN S w w') (h1 : NotS w S 135) (h2 : NotS w S 91) (h3 : NotS w S 55) : OwnT w' n u ps :=
 ⟨own_nots h.1 hp h3, fun d hd => ⟨(h.2 d hd).1.nots hp h1 h2, (h.2 d hd).2⟩⟩
theorem PartN.of_but {g : Nat} {row : Option Nat} (h : But w w' row g) : PartN (fun j => j = g ∨ row = some j) w w' :=
 ⟨h.os, h.tape, h.output, h.size, fun i hi hn => h.block i hi (fun e => hn (.inl e)) (fun e => hn (.inr e.symm))⟩
theorem NotS.two {g : Nat} {row : Option Nat} (h : NotT w (some g) e) (k : NotT w row e) : NotS w (fun j => j = g ∨ row = some j) e := by
 rintro j c f (rfl | hj)
 ·exact h j c f rfl
 ·exact k j c f hj
end
section
variable {w w' : World} {S : Nat → Prop} {n t : Nat} {g : Gp} {SA : Option Addr} {Sc : Nat} {es : List Pd} {PA : Option Addr} {Pc : Nat} {ps : List Pm} {RA : Option Addr} {Rc : Nat}
def TkT (e : TypeId) : Prop := e = 93 ∨ e = 3 ∨ e = 58 ∨ e = 135 ∨ e = 91 ∨ e = 55 ∨ e = 38
theorem TAt.nots (h : TAt w n t g SA Sc es PA Pc ps RA Rc) (hp : PartN S w w') (hn : ∀ e, TkT e → NotS w S e) : TAt w' n t g SA Sc es PA Pc ps RA Rc :=
 ⟨h.held.nots hp (hn _ (.inl rfl)), h.low, h.sig.nots hp (hn _ (.inr (.inl rfl))) (hn _ (.inr (.inr (.inl rfl)))), h.sigp,
  h.pts.nots hp (hn _ (.inr (.inr (.inr (.inl rfl))))) (hn _ (.inr (.inr (.inr (.inr (.inl rfl)))))) (hn _ (.inr (.inr (.inr (.inr (.inr (.inl rfl))))))), h.ptsp,
  own_nots h.rej hp (hn _ (.inr (.inr (.inr (.inr (.inr (.inr rfl)))))))⟩
theorem TAt.notS (h : TAt w n t g SA Sc es PA Pc ps RA Rc) (e : TypeId) (h1 : 93 ≠ e) (h2 : 55 ≠ e) (h3 : 38 ≠ e) : NotS w (TS t PA RA) e := by
 rintro j c f (rfl | hj | hj)
 ·exact h.n1 e h1 j c f rfl
 ·exact h.n2 e h2 j c f ((ob_own PA ps.length Pc).trans hj)
 ·exact h.n3 e h3 j c f ((ob_own RA g.rej.length Rc).trans hj)
end
section
variable {w w' : World} {S : Nat → Prop} {n0 B : Nat} {v : Value}
theorem Row.turned {A : Option Addr} {c : Nat} {xs : List Int} (h : Row w B (.slice A xs.length c) xs) (hp : PartN S w w') (hB : B ≤ w.heap.size) (hA : ∀ a, A = some a → ¬ S a.block) : Row w' B (.slice A xs.length c) xs := by
 obtain ⟨A1, c1, hv, h1, h2, h3, h4⟩ := h
 refine ⟨A1, c1, hv, h1, h2, h3, fun hn => ?_⟩
 obtain ⟨b, o, e, hb, hc⟩ := h4 hn
 injection hv with q1
 refine ⟨b, o, e, hb, fun i hi => (World.cell?_of_block (hp.block b (by omega) (fun hs => ?_))).trans (hc i hi)⟩
 exact hA ⟨b, o, none⟩ (by rw [q1, e]) hs
theorem jrow_new {ps : List Pt} (hps : ∀ p ∈ ps, (∀ y ∈ p.s.pay, 0 ≤ y ∧ y < 256) ∧ p.s.pay.length ≤ 1000000 ∧ p.s.n ≤ 1000000000) (h : Segs w n0 v ps) (hn : ∀ p ∈ ps, ∀ a, p.A = some a → n0 ≤ a.block) (hS : ∀ j, S j → j < n0) (hp : PartN S w w') : JRow w' w'.heap.size v (ps.map toJ) := by
 refine ⟨?_, fun x hxm => ?_⟩
 ·rw [List.length_map, flatS5_pt]
  exact ERow.of_own (own_part h.1 hp (fun j hj hs => by have := hS j hs; omega))
 ·obtain ⟨p, hpm, rfl⟩ := List.mem_map.1 hxm
  obtain ⟨k1, k2, k3⟩ := hps p hpm
  refine ⟨?_, k1, k2, by show (-1099511627776 : Int) ≤ (p.s.n : Int); omega, by show (p.s.n : Int) ≤ 1099511627776; omega⟩
  exact Row.more (Row.turned (h.2.2 p hpm) hp (Nat.le_refl _) (fun a ha hs => by have := hn p hpm a ha; have := hS _ hs; omega)) hp.size
end
theorem takeL_append (g : Gp) (l m : List Sj) : takeL g (l ++ m) = takeL (takeL g l) m := List.foldl_append ..
theorem takeS_pts (g : Gp) (s : Sj) : ∃ l, (takeS g s).pts = g.pts ++ l := by
 unfold takeS
 split
 ·exact ⟨[], by simp⟩
 ·split
  ·exact ⟨[], by simp⟩
  ·show ∃ l, (frameG g s.kind s.pay).1.pts = _
   unfold frameG
   repeat' split
   all_goals first | exact ⟨_, rfl⟩ | exact ⟨[], (List.append_nil _).symm⟩
theorem takeL_pts : ∀ (l : List Sj) (g : Gp), ∃ m, (takeL g l).pts = g.pts ++ m
 | [], g => ⟨[], by simp [takeL]⟩
 | s :: l, g => by
  obtain ⟨a, ha⟩ := takeS_pts g s
  obtain ⟨b, hb⟩ := takeL_pts l (takeS g s)
  exact ⟨a ++ b, by rw [← List.append_assoc, ← ha]; exact hb⟩
end Go.Proofs.YtnlfcmbpocdpjaaGreat
