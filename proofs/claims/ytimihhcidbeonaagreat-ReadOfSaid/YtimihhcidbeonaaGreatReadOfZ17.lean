/-
  What the theorem of ReadOf rests on, part 17 of 18.
-/
import Derived.OwnWalk
import Derived.WalkMore
import Derived.Deep.LoopGhost
import Derived.RangeFuncBox
import Derived.OwnWalkIn
import Derived.Maps.AppendAt
import Derived.Test.YtimihhcidbeonaaGreatRows
import Derived.WalkKit
import Derived.WalkSpells
import Derived.WalkLawsBesides
import Derived.LoopTactic
import Derived.Lib.Hide
import Derived.Outline
import Derived.Deep.RegionWith
import Derived.Deep.RegionHeld3
import Derived.Deep.QuietTactic
import Derived.BigQuiet
import Derived.Deep.RegionHeldLaw
import Derived.Lib.Strings
import Derived.Laws.StructEq
import Derived.RangeFuncCalls
import Derived.Shelf.Abstract
import Derived.TacticsInMore
import Derived.LoopNIn
import Derived.LoopIn
import Derived.Test.YtimihhcidbeonaaGreatReadOfZ16
set_option maxRecDepth 100000
set_option maxHeartbeats 16000000
namespace Go.Proofs.YtimihhcidbeonaaGreat
open Lib (hid)
open Go.RowKit
theorem Row.past_put {w : World} {B g : Nat} {t : TypeId} {cs : Array Value} {v : Value} {xs : List Int} (h : Row w B v xs) (hg : Held w g t cs) (hcs : ∀ (i : Nat) (n : Int), cs[i]? ≠ some (.int .u8 n)) (i : Nat) (u : Value) :
  Row (w.setCell ⟨g, i, none⟩ u) B v xs :=
 h.keep_but (g := g) (fun k _ hn => Below.heap_setCell _ ⟨g, i, none⟩ _ k (by simp only; exact hn)) (fun j n => by rw [hg.cell j]; exact hcs j n)
theorem two_nob {x : Int} {v : Value} (hv : ∀ n, v ≠ .int .u8 n) (i : Nat) (n : Int) : (#[Value.int .i64 x, v] : Array Value)[i]? ≠ some (.int .u8 n) := by
 match i with
 | 0 => simp
 | 1 => simpa using hv n
 | i + 2 => simp
theorem at_new (A : Option Addr) (c : Nat) (xs : List Int) (hsm : xs.length ≤ 9223372036854775807) (w : World) (hrow : Row w w.heap.size (.slice A xs.length c) xs) (hb : ∀ x ∈ xs, 0 ≤ x ∧ x < 256) (k : Nat) (hk : k ≤ xs.length) :
  Calls Tryz.prog 182 #[.slice A xs.length c, .int .i64 k] w (FNew w (getFr (xs.drop k))) := by
 have hcs : xs.length ≤ c ∧ c ≤ 9223372036854775807 := by
  obtain ⟨_, _, hv, q1, q2, _⟩ := hrow
  injection hv with _ _ e3
  subst e3
  unfold maxLen at q2
  exact ⟨q1, by omega⟩
 obtain ⟨hlc, hcm⟩ := hcs
 have hrr := hrow.drop hk
 have hrow0 := hrow
 have hbr : ∀ x ∈ xs.drop k, 0 ≤ x ∧ x < 256 := drop_bytes hb k
 have hrl : (xs.drop k).length = xs.length - k := by simp
 have hget := fun W (h : Row W W.heap.size (.slice (if c = k then A else A.map (·.add k)) (xs.drop k).length (c - k)) (xs.drop k)) => fget_new (if c = k then A else A.map (·.add k)) (c - k) (xs.drop k) (by omega) W h hbr
 rw [hrl] at hrr hget
 clear hrow hb hbr hrl
 generalize getFr (xs.drop k) = t at hget ⊢
 have k0 : (0 : Int) ≤ k := by omega
 have k1 : (k : Int) ≤ (xs.length : Int) := by omega
 by_cases hck : c = k
 ·subst hck
  rw [if_pos rfl, Nat.sub_self, show xs.length - c = 0 by omega] at hrr hget
  have HG := hid hget
  have HR := hid hrr
  clear hrr hget
  have HR0 := hid ((HR.out.below ((Below.refl _ _).alloc (Nat.le_refl _) (.cells #[.int .i64 0, .slice none 0 0] 78))).more (by simp : w.heap.size ≤ (w.alloc (.cells #[.int .i64 0, .slice none 0 0] 78)).heap.size))
  go_enter Tryz.func182, Tryz.ntmps182
  go_wp2_with fail
  refine (HG.out _ HR0.out).mono ?_
  rintro e w1 ⟨A1, c1, rfl, hrow1, hb1, hn1⟩
  have HN1 := hid (fun a e => Nat.le_trans (by simp : w.heap.size ≤ (w.alloc (.cells #[.int .i64 0, .slice none 0 0] 78)).heap.size) (hn1 a e)); clear hn1
  have hz1 : w.heap.size + 1 ≤ w1.heap.size := by simpa using hb1.size
  have hres : Held w1 w.heap.size 78 #[.int .i64 0, .slice none 0 0] := (hb1.block w.heap.size (by simp)).trans (heap_alloc_new w _)
  have bw1 : Below w.heap.size w w1 := ((Below.refl _ _).alloc (Nat.le_refl _) _).trans (hb1.mono (by simp))
  obtain ⟨⟨hf0, hf1⟩, hr0, hr1⟩ := cG2 hres
  simp at hr0 hr1
  have HROW1 := hid hrow1
  have HB1 := hid bw1
  have HRES := hid hres
  clear hb1 hrow1 bw1 hres
  go_wp2_with fail
  have hfin := (HRES.out.put 0 (.int .i64 t.1.1)).put 1 (.slice A1 t.1.2.length c1)
  obtain ⟨e0, e1⟩ := cC2 hfin
  simp at e0 e1
  refine bodyPost_ret (v := .tuple #[.agg #[.int .i64 t.1.1, .slice A1 t.1.2.length c1], .int .i64 t.2.1, .int .i64 t.2.2]) (by simp [results, Tryz.results182, go_sem, e0, e1]) rfl ?_
  refine ⟨A1, c1, rfl, ?_, ?_, HN1.out⟩
  ·have h1 := HROW1.out.past_put HRES.out (two_nob (by simp)) 0 (.int .i64 t.1.1)
   have h2 := h1.past_put (by simpa using HRES.out.put 0 (.int .i64 t.1.1)) (two_nob (by simp)) 1 (.slice A1 t.1.2.length c1)
   exact h2.more (by simp)
  ·exact (HB1.out.setCell (p := ⟨w.heap.size, 0, none⟩) (Nat.le_refl _) _).setCell (p := ⟨w.heap.size, 1, none⟩) (Nat.le_refl _) _
 ·rw [if_neg hck] at hrr hget
  have hkc : k < c := by omega
  have hnil : A ≠ none := fun e => by
   obtain ⟨_, _, hv, _, _, q3, _⟩ := hrow0
   injection hv with e1 _ e3
   have := q3 (e1.symm.trans e)
   omega
  obtain ⟨ad, rfl⟩ := Option.ne_none_iff_exists'.1 hnil
  rw [Option.map_some] at hrr hget
  have HG := hid hget
  have HR := hid hrr
  clear hrr hget hnil hrow0
  have HR0 := hid ((HR.out.below ((Below.refl _ _).alloc (Nat.le_refl _) (.cells #[.int .i64 0, .slice none 0 0] 78))).more (by simp : w.heap.size ≤ (w.alloc (.cells #[.int .i64 0, .slice none 0 0] 78)).heap.size))
  go_enter Tryz.func182, Tryz.ntmps182
  go_wp2_with fail
  refine (HG.out _ HR0.out).mono ?_
  rintro e w1 ⟨A1, c1, rfl, hrow1, hb1, hn1⟩
  have HN1 := hid (fun a e => Nat.le_trans (by simp : w.heap.size ≤ (w.alloc (.cells #[.int .i64 0, .slice none 0 0] 78)).heap.size) (hn1 a e)); clear hn1
  have hz1 : w.heap.size + 1 ≤ w1.heap.size := by simpa using hb1.size
  have hres : Held w1 w.heap.size 78 #[.int .i64 0, .slice none 0 0] := (hb1.block w.heap.size (by simp)).trans (heap_alloc_new w _)
  have bw1 : Below w.heap.size w w1 := ((Below.refl _ _).alloc (Nat.le_refl _) _).trans (hb1.mono (by simp))
  obtain ⟨⟨hf0, hf1⟩, hr0, hr1⟩ := cG2 hres
  simp at hr0 hr1
  have HROW1 := hid hrow1
  have HB1 := hid bw1
  have HRES := hid hres
  clear hb1 hrow1 bw1 hres
  go_wp2_with fail
  have hfin := (HRES.out.put 0 (.int .i64 t.1.1)).put 1 (.slice A1 t.1.2.length c1)
  obtain ⟨e0, e1⟩ := cC2 hfin
  simp at e0 e1
  refine bodyPost_ret (v := .tuple #[.agg #[.int .i64 t.1.1, .slice A1 t.1.2.length c1], .int .i64 t.2.1, .int .i64 t.2.2]) (by simp [results, Tryz.results182, go_sem, e0, e1]) rfl ?_
  refine ⟨A1, c1, rfl, ?_, ?_, HN1.out⟩
  ·have h1 := HROW1.out.past_put HRES.out (two_nob (by simp)) 0 (.int .i64 t.1.1)
   have h2 := h1.past_put (by simpa using HRES.out.put 0 (.int .i64 t.1.1)) (two_nob (by simp)) 1 (.slice A1 t.1.2.length c1)
   exact h2.more (by simp)
  ·exact (HB1.out.setCell (p := ⟨w.heap.size, 0, none⟩) (Nat.le_refl _) _).setCell (p := ⟨w.heap.size, 1, none⟩) (Nat.le_refl _) _
theorem at_in (A : Option Addr) (c : Nat) (xs : List Int) (hsm : xs.length ≤ 9223372036854775807) (w : World) (hrow : Row w w.heap.size (.slice A xs.length c) xs) (hb : ∀ x ∈ xs, 0 ≤ x ∧ x < 256) (k : Nat) (hk : k ≤ xs.length) :
  Calls Tryz.prog 182 #[.slice A xs.length c, .int .i64 k] w (FGot w (getFr (xs.drop k))) := (at_new A c xs hsm w hrow hb k hk).mono fun _ _ h => h.got
def oneOf (ws xs : List Int) (a : Nat) : Bool := decide ((getFr (xs.drop a)).2.2 ∈ ws)
def firstW (ws xs : List Int) (frm : Int) : Int := firstI (oneOf ws xs) (xs.length - frm.toNat) frm.toNat
def Placed (w : World) (r : Int) (e : Ending) (w' : World) : Prop := e = .returned (.tuple #[.int .i64 (max r 0), .bool (decide (0 ≤ r))]) ∧ Below w.heap.size w w'
theorem firstW_found {ws xs : List Int} {frm : Int} {r : Nat} (h1 : frm.toNat ≤ r) (h2 : r < xs.length) (hn : ∀ j : Nat, frm.toNat ≤ j → j < r → oneOf ws xs j = false) (hr : (getFr (xs.drop r)).2.2 ∈ ws) : firstW ws xs frm = (r : Int) :=
 first_found _ _ r h1 (by omega) hn (by simp [oneOf, hr])
theorem firstW_none {ws xs : List Int} {frm : Int} (hn : ∀ j : Nat, frm.toNat ≤ j → j < xs.length → oneOf ws xs j = false) : firstW ws xs frm = -1 :=
 first_none _ _ (fun j h1 h2 => hn j h1 (by omega))
theorem placed_found {w w' : World} {r : Int} (n : Nat) (h : r = n) (hb : Below w.heap.size w w') : Placed w r (.returned (.tuple #[.int .i64 n, .bool true])) w' := by
 subst h
 refine ⟨?_, hb⟩
 rw [show max (n : Int) 0 = (n : Int) by omega, show decide (0 ≤ (n : Int)) = true by simp]
theorem placed_none {w w' : World} {r : Int} (h : r = -1) (hb : Below w.heap.size w w') : Placed w r (.returned (.tuple #[.int .i64 0, .bool false])) w' := by
 subst h
 exact ⟨rfl, hb⟩
theorem intVs_at {ws : List Int} {k : Nat} (h : k < ws.length) : (ws.map (Value.int .i64))[k]? = some (.int .i64 (ws.getD k 0)) := by simp [List.getD, List.getElem?_eq_getElem h]
theorem first_any (A : Option Addr) (c : Nat) (xs : List Int) (hsm : xs.length ≤ 9223372036854775807) (w : World) (hrow : Row w w.heap.size (.slice A xs.length c) xs) (hb : ∀ x ∈ xs, 0 ≤ x ∧ x < 256)
  (frm : Int) (h1 : -9223372036854775808 ≤ frm) (h2 : frm ≤ 9223372036854775807) (D : Option Addr) (dn dc : Nat) (ws : List Int) (hws : VRow w w.heap.size (.slice D dn dc) (ws.map (.int .i64))) (hwn : dn ≤ 1000) :
  Calls Tryz.prog 181 #[.slice A xs.length c, .int .i64 frm, .slice D dn dc] w (Placed w (firstW ws xs frm)) := by
 obtain ⟨hdn, _, _⟩ := hws.length
 rw [List.length_map] at hdn
 subst hdn
 have hM : max frm 0 = ((frm.toNat : Nat) : Int) := by omega
 have hm2 : frm.toNat ≤ 9223372036854775807 := by omega
 have hfound := fun r => @firstW_found ws xs frm r
 have hnone := @firstW_none ws xs frm
 have HAT := hid (fun W (h : Row W W.heap.size (.slice A xs.length c) xs) k hk => at_in A c xs hsm W h hb k hk)
 generalize firstW ws xs frm = R at hfound hnone ⊢
 generalize frm.toNat = M at hM hm2 hfound hnone
 have HF := hid hfound
 have HN := hid hnone
 have HROW := hid hrow
 have HWS := hid hws
 clear hrow hb hws hfound hnone
 go_enter Tryz.func181, Tryz.ntmps181
 go_wp2_with fail
 go_step3
 go_wp2_with fail
 go_step3
 go_wp2_with fail
 have HM := hid hM; clear hM
 go_loopg [8, 9, 10] (xs.length - M) (fun g p f i wr => ∃ a : Nat, p = .int .i64 0 ∧ f = .bool false ∧ i = .int .i64 a ∧ M ≤ a ∧ a ≤ 9223372036854775807 ∧ Hid (xs.length - a = g) ∧ Hid (∀ j : Nat, M ≤ j → j < a → oneOf ws xs j = false) ∧ Below w.heap.size w wr)
 case atStart => exact ⟨M, rfl, rfl, rfl, Nat.le_refl _, hm2, hid rfl, hid (fun j h1 h2 => by omega), Below.refl _ _⟩
 case round =>
  obtain ⟨a, rfl, rfl, rfl, ha, ha2, HG0, HO, hbw⟩ := hrel
  have hsw := hbw.size
  by_cases hlt : a < xs.length
  ·have HA := hid (HAT.out wr ((HROW.out.below hbw).more hsw) a (by omega))
   generalize hT : getFr (xs.drop a) = T at HA
   have HT := hid hT; clear hT
   have HBW := hid hbw; clear hbw
   go_wp2_with fail
   refine HA.out.mono ?_
   rintro e w1 ⟨A1, c1, rfl, _, hb1⟩
   have hz1 := hb1.size
   have hbw1 : Below w.heap.size w w1 := HBW.out.trans (hb1.mono hsw)
   have HBW1 := hid (hbw1.alloc (by omega) (.cells #[.int .i64 T.1.1, .slice A1 T.1.2.length c1] 78))
   clear hb1 hbw1
   obtain ⟨er, hE⟩ : ∃ er, T.2.2 = er := ⟨_, rfl⟩
   rw [hE]
   have HE := hid hE; clear hE
   go_wp2_with fail
   obtain ⟨w2, hw2⟩ : ∃ w2, w1.alloc (.cells #[.int .i64 T.1.1, .slice A1 T.1.2.length c1] 78) = w2 := ⟨_, rfl⟩
   rw [hw2] at HBW1 ⊢
   clear hw2 hz1
   have HWS2 := hid (HWS.out.below HBW1.out)
   go_loopg [8, 9, 33] ws.length (fun g p f i wr => ∃ k : Nat, p = .int .i64 0 ∧ f = .bool false ∧ i = .int .i64 k ∧ k ≤ ws.length ∧ Hid (ws.length - k = g) ∧ Hid (∀ j : Nat, j < k → ws.getD j 0 ≠ er) ∧ w2 = wr)
   case atStart => exact ⟨0, rfl, rfl, rfl, Nat.zero_le _, hid rfl, hid (fun j h => absurd h (Nat.not_lt_zero _)), rfl⟩
   case round =>
    obtain ⟨k, rfl, rfl, rfl, hk, HG1, HJ, rfl⟩ := hrel
    by_cases hkl : k < ws.length
    ·have hc : ∃ b o, D = some ⟨b, o, none⟩ ∧ w2.cell? ⟨b, o + k, none⟩ = some (.int .i64 (ws.getD k 0)) := by
      obtain ⟨_, _, hv, _, _, _, h4⟩ := HWS2.out
      injection hv with e1 _ _
      obtain ⟨b, o, e, _, hc⟩ := h4 (by rw [List.length_map]; omega)
      exact ⟨b, o, e1.trans e, hc k _ (intVs_at hkl)⟩
     obtain ⟨b, o, rfl, hck⟩ := hc
     obtain ⟨y, hy⟩ : ∃ y, ws.getD k 0 = y := ⟨_, rfl⟩
     rw [hy] at hck
     have HY := hid hy; clear hy
     by_cases hye : er = y
     ·subst hye
      have hin : (getFr (xs.drop a)).2.2 ∈ ws := by
       rw [HT.out, HE.out, ← HY.out, List.getD, List.getElem?_eq_getElem hkl]
       simp
      have hR := HF.out a ha hlt HO.out hin
      have HR := hid hR
      clear hR hin
      go_wp2_with fail
      rw [Exit.noGoto_ret]
      go_ret2
      exact placed_found a HR.out HBW1.out
     ·have hb1 : (er == y) = false := beq_eq_false_iff_ne.2 hye
      have hj2 : ∀ j : Nat, j < k + 1 → ws.getD j 0 ≠ er := fun j hj => by
       rcases Nat.lt_or_ge j k with h | h
       ·exact HJ.out j h
       ·obtain rfl : j = k := by omega
        rw [HY.out]
        exact fun e => hye e.symm
      have HJ2 := hid hj2
      clear hye hj2
      go_wp2_with fail
      go_roundg (ws.length - (k + 1))
      case measure => have := HG1.out; omega
      case rel => exact ⟨k + 1, rfl, rfl, by go_num, by omega, hid rfl, HJ2, rfl⟩
    ·obtain rfl : k = ws.length := by omega
     have hno : oneOf ws xs a = false := by
      unfold oneOf
      rw [decide_eq_false_iff_not, HT.out, HE.out]
      intro hm
      obtain ⟨j, hj, e⟩ := List.getElem_of_mem hm
      exact HJ.out j hj (by rw [List.getD, List.getElem?_eq_getElem hj]; exact e)
     have ho2 : ∀ j : Nat, M ≤ j → j < a + 1 → oneOf ws xs j = false := fun j q1 q2 => by
      rcases Nat.lt_or_ge j a with h | h
      ·exact HO.out j q1 h
      ·obtain rfl : j = a := by omega
       exact hno
     have HO2 := hid ho2
     clear hno ho2
     go_wp2_with fail
     go_roundg (xs.length - (a + 1))
     case measure => have := HG0.out; omega
     case rel => exact ⟨a + 1, rfl, rfl, by go_num, by omega, by omega, hid rfl, HO2, HBW1.out⟩
  ·have hge : xs.length ≤ a := by omega
   have hR := HN.out (fun j q1 q2 => HO.out j q1 (by omega))
   have HR := hid hR
   clear hR
   have HB := hid hbw
   clear hbw
   go_wp2_with fail
   go_ret2
   exact placed_none HR.out HB.out
theorem firstW_next (xs : List Int) (frm : Int) : firstW [0] xs frm = nextI false xs frm := by
 unfold firstW nextI
 rw [show oneOf [0] xs = begI false xs from funext fun a => by simp only [oneOf, begI, Bool.false_and, Bool.or_false, List.mem_singleton]; rfl]
theorem vrow_new (w : World) (t : TypeId) (us : List Value) (hu : us.length ≤ 1000) : VRow (w.alloc (.cells us.toArray t)) (w.alloc (.cells us.toArray t)).heap.size (.slice (some ⟨w.heap.size, 0, none⟩) us.length us.length) us := by
 refine ⟨_, _, rfl, Nat.le_refl _, by unfold maxLen; omega, fun h => by simp at h, fun _ => ⟨w.heap.size, 0, rfl, by simp, fun i u hi => ?_⟩⟩
 have h : Held (w.alloc (.cells us.toArray t)) w.heap.size t us.toArray := heap_alloc_new w _
 rw [Nat.zero_add, h.cell i]
 simpa using hi
section
variable (A : Option Addr) (c : Nat) (xs : List Int) (hsm : xs.length ≤ 9223372036854775807) (w : World) (hrow : Row w w.heap.size (.slice A xs.length c) xs) (hb : ∀ x ∈ xs, 0 ≤ x ∧ x < 256) (frm : Int) (h1 : -9223372036854775808 ≤ frm) (h2 : frm ≤ 9223372036854775807)
include hsm hrow hb h1 h2
theorem next_any : Calls Tryz.prog 135 #[.slice A xs.length c, .int .i64 frm] w (Placed w (nextI false xs frm)) := by
 have hbx : Below w.heap.size w (w.alloc (.cells #[.int .i64 0] 27)) := (Below.refl _ _).alloc (Nat.le_refl _) _
 have hf := first_any A c xs hsm _ ((hrow.below hbx).more (by simp)) hb frm h1 h2 _ 1 1 [0] (vrow_new w 27 [.int .i64 0] (by simp)) (by omega)
 rw [firstW_next] at hf
 have HF := hid hf
 have HB := hid hbx
 clear hf hrow hb hsm hbx
 go_enter Tryz.func135, Tryz.ntmps135
 go_wp2_with fail
 refine HF.out.mono ?_
 rintro e w1 ⟨rfl, hb1⟩
 have HB1 := hid (HB.out.trans (hb1.mono (by simp)))
 clear hb1
 go_wp2_with fail
 go_ret2
 exact ⟨rfl, HB1.out⟩
end
theorem skipped_any (a r : Nat) (ha : a ≤ r) (hr : r ≤ 9223372036854775807) (w : World) :
  Calls Tryz.prog 136 #[.int .i64 a, .int .i64 r] w fun e w' => e = .returned (.agg #[.int .i64 a, .int .i64 (r - a : Nat), .bool false, .int .i64 0, .slice none 0 0]) ∧ Below w.heap.size w w' := by
 have h1 : (0 : Int) ≤ a := by omega
 have h2 : (a : Int) ≤ r := by omega
 have h3 : (r : Int) ≤ 9223372036854775807 := by omega
 have h4 : ((r - a : Nat) : Int) = (r : Int) - a := by omega
 rw [h4]
 clear h4
 go_enter Tryz.func136, Tryz.ntmps136
 go_wp2_with fail
 refine bodyPost_ret (v := .agg #[.int .i64 a, .int .i64 (r - a), .bool false, .int .i64 0, .slice none 0 0]) (by simp [results, Tryz.results136, go_sem]) rfl ?_
 exact ⟨rfl, (Below.refl _ _).alloc (Nat.le_refl _) _⟩
def Part (w : World) (k : Nat) (t : (Int × List Int) × Nat × Int) (r : Ending) (w' : World) : Prop :=
 ∃ A c, r = .returned (.agg #[.int .i64 k, .int .i64 t.2.1, .bool true, .int .i64 t.1.1, .slice A t.1.2.length c]) ∧ Row w' w'.heap.size (.slice A t.1.2.length c) t.1.2 ∧ Below w.heap.size w w'
theorem framePart_any (A : Option Addr) (c : Nat) (xs : List Int) (hsm : xs.length ≤ 9223372036854775807) (w : World) (hrow : Row w w.heap.size (.slice A xs.length c) xs) (hb : ∀ x ∈ xs, 0 ≤ x ∧ x < 256) (k : Nat) (hk : k ≤ xs.length) :
  Calls Tryz.prog 137 #[.slice A xs.length c, .int .i64 k] w (Part w k (getFr (xs.drop k))) := by
 have HAT := hid (fun W (h : Row W W.heap.size (.slice A xs.length c) xs) => at_in A c xs hsm W h hb k hk)
 have HROW := hid hrow
 clear hrow hb
 generalize getFr (xs.drop k) = t at HAT ⊢
 have k0 : (0 : Int) ≤ k := by omega
 have k1 : (k : Int) ≤ 9223372036854775807 := by omega
 go_enter Tryz.func137, Tryz.ntmps137
 go_wp2_with fail
 refine (HAT.out _ ((HROW.out.below ((Below.refl _ _).alloc (Nat.le_refl _) _)).more (by simp))).mono ?_
 rintro e w1 ⟨A1, c1, rfl, hrow1, hb1⟩
 have hz1 : w.heap.size + 1 ≤ w1.heap.size := by simpa using hb1.size
 have hres : Held w1 w.heap.size 80 #[.int .i64 0, .int .i64 0, .bool false, .int .i64 0, .slice none 0 0] := (hb1.block w.heap.size (by simp)).trans (heap_alloc_new w _)
 have bw1 : Below w.heap.size w w1 := ((Below.refl _ _).alloc (Nat.le_refl _) _).trans (hb1.mono (by simp))
 have hres2 : ∀ o : Obj, Held (w1.alloc o) w.heap.size 80 #[.int .i64 0, .int .i64 0, .bool false, .int .i64 0, .slice none 0 0] := fun o => hres.below ((Below.refl _ _).alloc (Nat.le_refl _) _) (by omega)
 have hf0 := fun o => (hres2 o).frozen 0
 have hf1 := fun o => (hres2 o).frozen 1
 have hf2 := fun o => (hres2 o).frozen 2
 have hf3 := fun o => (hres2 o).frozen 3
 have hf4 := fun o => (hres2 o).frozen 4
 have hr0 := fun o => (hres2 o).cell 0
 have hr1 := fun o => (hres2 o).cell 1
 have hr2 := fun o => (hres2 o).cell 2
 have hr3 := fun o => (hres2 o).cell 3
 have hr4 := fun o => (hres2 o).cell 4
 simp at hr0 hr1 hr2 hr3 hr4
 have HRES2 := hid hres2
 clear hres2
 have HROW1 := hid hrow1
 have HB1 := hid bw1
 have HRES := hid hres
 clear hb1 hrow1 bw1 hres
 go_wp2_with fail
 have hfin := (((((HRES2.out (.cells #[.int .i64 t.1.1, .slice A1 t.1.2.length c1] 78)).put 0 (.int .i64 k)).put 1 (.int .i64 t.2.1)).put 2 (.bool true)).put 3 (.int .i64 t.1.1)).put 4 (.slice A1 t.1.2.length c1)
 obtain ⟨e0, e1, e2, e3, e4⟩ := cC5 hfin
 simp at e0 e1 e2 e3 e4
 refine bodyPost_ret (v := .agg #[.int .i64 k, .int .i64 t.2.1, .bool true, .int .i64 t.1.1, .slice A1 t.1.2.length c1]) (by simp [results, Tryz.results137, go_sem, e0, e1, e2, e3, e4]) rfl ?_
 refine ⟨A1, c1, rfl, ?_, ?_⟩
 ·refine (HROW1.out.keep_but (g := w.heap.size) (fun k hk hn => ?_) (fun i n => ?_)).more (by simp)
  ·rw [Below.heap_setCell _ _ _ k hn, Below.heap_setCell _ _ _ k hn, Below.heap_setCell _ _ _ k hn, Below.heap_setCell _ _ _ k hn, Below.heap_setCell _ _ _ k hn, Below.heap_alloc _ _ _ hk]
  ·rw [HRES.out.cell]
   match i with
   | 0 => simp
   | 1 => simp
   | 2 => simp
   | 3 => simp
   | 4 => simp
   | i + 5 => simp
 ·exact (((((HB1.out.alloc (by omega) _).setCell (p := ⟨w.heap.size, 0, none⟩) (Nat.le_refl _) _).setCell (p := ⟨w.heap.size, 1, none⟩) (Nat.le_refl _) _).setCell (p := ⟨w.heap.size, 2, none⟩) (Nat.le_refl _) _).setCell (p := ⟨w.heap.size, 3, none⟩) (Nat.le_refl _) _).setCell (p := ⟨w.heap.size, 4, none⟩) (Nat.le_refl _) _
structure Pt where
 s : Sg
 A : Option Addr
 c : Nat
abbrev Pt.pv (p : Pt) : Value := .slice p.A p.s.pay.length p.c
def Pt.cells (p : Pt) : List Value := [.int .i64 p.s.frm, .int .i64 p.s.n, .bool p.s.isf, .int .i64 p.s.kind, .slice p.A p.s.pay.length p.c]
abbrev Pt.val (p : Pt) : Value := .agg #[.int .i64 p.s.frm, .int .i64 p.s.n, .bool p.s.isf, .int .i64 p.s.kind, .slice p.A p.s.pay.length p.c]
def Pt.Reads (w : World) (B : Nat) (p : Pt) : Prop := Row w B p.pv p.s.pay
def flatS : List Pt → List Value
 | [] => []
 | p :: l => p.cells ++ flatS l
theorem flatS_length : ∀ l : List Pt, (flatS l).length = l.length * 5
 | [] => rfl
 | p :: l => by
  rw [flatS, List.length_append, flatS_length l, List.length_cons, show p.cells.length = 5 from rfl]
  omega
theorem flatS_append : ∀ l m : List Pt, flatS (l ++ m) = flatS l ++ flatS m
 | [], _ => rfl
 | p :: l, m => by rw [List.cons_append, flatS, flatS, flatS_append l m, List.append_assoc]
theorem flatS_one (p : Pt) : flatS [p] = p.cells := by rw [flatS, flatS, List.append_nil]
theorem flatS_at : ∀ (l : List Pt) (i : Nat) (p : Pt), l[i]? = some p → ∀ j u, p.cells[j]? = some u → (flatS l)[i * 5 + j]? = some u
 | [], i, p, h, _, _, _ => by simp at h
 | q :: l, 0, p, h, j, u, hj => by
  simp only [List.getElem?_cons_zero, Option.some.injEq] at h
  subst h
  have hlt := (List.getElem?_eq_some_iff.1 hj).1
  rw [flatS, Nat.zero_mul, Nat.zero_add, List.getElem?_append_left hlt]
  exact hj
 | q :: l, i + 1, p, h, j, u, hj => by
  rw [List.getElem?_cons_succ] at h
  rw [flatS, show (i + 1) * 5 + j = q.cells.length + (i * 5 + j) by rw [show q.cells.length = 5 from rfl]; omega, List.getElem?_append_right (by omega), Nat.add_sub_cancel_left]
  exact flatS_at l i p h j u hj
theorem flatS_set : ∀ (l : List Pt) (i : Nat) (p : Pt), i < l.length → ∀ (j : Nat) (u : Value) (q : Pt), l[i]? = some p → q.cells = p.cells.set j u → j < 5 → flatS (l.set i q) = (flatS l).set (i * 5 + j) u
 | [], i, p, h, _, _, _, _, _, _ => by simp at h
 | r :: l, 0, p, _, j, u, q, h, hq, hj => by
  simp only [List.getElem?_cons_zero, Option.some.injEq] at h
  subst h
  rw [List.set_cons_zero, flatS, flatS, hq, Nat.zero_mul, Nat.zero_add, List.set_append_left _ _ (by rw [show r.cells.length = 5 from rfl]; exact hj)]
 | r :: l, i + 1, p, hl, j, u, q, h, hq, hj => by
  rw [List.getElem?_cons_succ] at h
  rw [List.set_cons_succ, flatS, flatS, flatS_set l i p (by simpa using hl) j u q h hq hj, show (i + 1) * 5 + j = r.cells.length + (i * 5 + j) by rw [show r.cells.length = 5 from rfl]; omega,
   List.set_append_right _ _ (by omega), Nat.add_sub_cancel_left]
theorem cells_one (p : Pt) : ∀ u ∈ p.cells, u.oneCell' = true := by
 intro u hu
 simp only [Pt.cells, List.mem_cons, List.not_mem_nil, or_false] at hu
 rcases hu with rfl | rfl | rfl | rfl | rfl <;> rfl
theorem cells_nob (p : Pt) : ∀ u ∈ p.cells, ∀ n : Int, u ≠ .int .u8 n := by
 intro u hu n
 simp only [Pt.cells, List.mem_cons, List.not_mem_nil, or_false] at hu
 rcases hu with rfl | rfl | rfl | rfl | rfl <;> simp
theorem flatS_nob : ∀ l : List Pt, ∀ u ∈ flatS l, ∀ n : Int, u ≠ .int .u8 n
 | [], u, hu, _ => by simp [flatS] at hu
 | p :: l, u, hu, n => by
  rw [flatS] at hu
  rcases List.mem_append.1 hu with h | h
  ·exact cells_nob p u h n
  ·exact flatS_nob l u h n
def Clean (w : World) (v : Value) : Prop := ∀ g, v.ownBlock = some g → ∀ (i : Nat) (n : Int), w.cell? ⟨g, i, none⟩ ≠ some (.int .u8 n)
def Segs (w : World) (n0 : Nat) (v : Value) (ps : List Pt) : Prop :=
 w.ownsRow n0 80 5 v ps.length (flatS ps) ∧ Clean w v ∧ ∀ p ∈ ps, p.Reads w w.heap.size
section
variable {w w' : World} {n0 B : Nat} {v : Value} {ps : List Pt}
theorem Pt.Reads.below {p : Pt} (h : p.Reads w w.heap.size) (hb : Below w.heap.size w w') : p.Reads w' w'.heap.size := (Row.below h hb).more hb.size
theorem Pt.Reads.grown {p : Pt} {row : Option Nat} (h : p.Reads w w.heap.size) (hg : w.grownBy w' row) (hr : ∀ k, row = some k → ∀ (i : Nat) (n : Int), w.cell? ⟨k, i, none⟩ ≠ some (.int .u8 n)) : p.Reads w' w'.heap.size := by
 refine Row.more (w := w') ?_ hg.size
 cases row with
 | none => exact h.keep fun a ha => World.cell?_of_block (hg.block a.block ha (by simp))
 | some g => exact h.keep_but (g := g) (fun k hk hn => hg.block k hk (fun e => hn (by injection e))) (hr g rfl)
theorem Segs.nil (w : World) (n0 : Nat) : Segs w n0 (.slice none 0 0) [] := ⟨World.ownsRow_nil _ _ _ _, fun g h => by simp [Value.ownBlock] at h, by simp⟩
theorem Segs.kept {row : Option Nat} (h : Segs w n0 v ps) (hg : w.grownBy w' row) (hne : v.ownBlock = none ∨ v.ownBlock ≠ row) (hr : ∀ k, row = some k → ∀ (i : Nat) (n : Int), w.cell? ⟨k, i, none⟩ ≠ some (.int .u8 n)) : Segs w' n0 v ps := by
 obtain ⟨h1, h2, h3⟩ := h
 refine ⟨h1.kept hg hne, fun g e i n => ?_, fun p hp => (h3 p hp).grown hg hr⟩
 have hlt := (h1.lt g e).2
 rw [World.cell?_of_block (a := ⟨g, i, none⟩) (hg.block g hlt (fun e2 => hne.elim (fun h => by rw [e] at h; cases h) (fun h => h (e.trans e2.symm.symm))))]
 exact h2 g e i n
theorem Segs.below (h : Segs w n0 v ps) (hb : Below w.heap.size w w') : Segs w' n0 v ps :=
 h.kept (row := none) ⟨hb.os, hb.tape, hb.output, hb.size, fun k hk _ => hb.block k hk⟩ (Classical.em _) (fun k e => by cases e)
theorem Segs.alloc (h : Segs w n0 v ps) (o : Obj) : Segs (w.alloc o) n0 v ps := h.below ((Below.refl _ _).alloc (Nat.le_refl _) o)
theorem Segs.putObj {l : Nat} {o : Obj} (h : Segs w n0 v ps) (o' : Obj) (hl : w.heap[l]? = some o) (ho : o.isCells = false) : Segs (w.putObj l o') n0 v ps := by
 refine h.kept (grownBy_putObj' w l o') ?_ (fun k e i n hc => ?_)
 ·rcases h.1.2 with ⟨rfl, _⟩ | ⟨g, cap, cur, rfl, _, hgb, _⟩
  ·exact .inl rfl
  ·refine .inr fun e => ?_
   obtain rfl : g = l := by simpa [Value.ownBlock] using e
   rw [hgb] at hl
   cases hl
   cases ho
 ·obtain rfl : l = k := by injection e
  obtain ⟨o2, ho2, hc2⟩ := cells_of_cell hc
  rw [show w.heap[l]? = some o from hl] at ho2
  cases ho2
  rw [ho] at hc2
  cases hc2
def Turned (w w' : World) (row : Option Nat) : Prop := w.grownBy w' row ∧ ∀ r, row = some r → ∃ o : Obj, w.heap[r]? = some o ∧ o.isCells = false
theorem Turned.nob {row : Option Nat} (h : Turned w w' row) : ∀ k, row = some k → ∀ (i : Nat) (n : Int), w.cell? ⟨k, i, none⟩ ≠ some (.int .u8 n) := by
 intro k e i n hc
 obtain ⟨o, ho, hn⟩ := h.2 k e
 obtain ⟨o2, ho2, hc2⟩ := cells_of_cell hc
 rw [show w.heap[k]? = some o from ho] at ho2
 cases ho2
 rw [hn] at hc2
 cases hc2
theorem Turned.block {row : Option Nat} (h : Turned w w' row) {g : Nat} {cs : Array Value} {t : TypeId} {fr : Nat × Nat} (hg : w.heap[g]? = some (.cells cs t fr)) : w'.heap[g]? = some (.cells cs t fr) := by
 refine (h.1.block g (Array.getElem?_eq_some_iff.1 hg).1 fun e => ?_).trans hg
 obtain ⟨o, ho, hn⟩ := h.2 g e.symm
 rw [hg] at ho
 cases ho
 cases hn
theorem Segs.turned {row : Option Nat} (h : Segs w n0 v ps) (ht : Turned w w' row) : Segs w' n0 v ps := by
 refine h.kept ht.1 ?_ ht.nob
 rcases h.1.2 with ⟨rfl, _⟩ | ⟨g, cap, cur, rfl, _, hgb, _⟩
 ·exact .inl rfl
 ·refine .inr fun e => ?_
  obtain ⟨o, ho, hn⟩ := ht.2 g (by rw [← e]; rfl)
  rw [hgb] at ho
  cases ho
  cases hn
theorem Pt.Reads.turned {p : Pt} {row : Option Nat} (h : p.Reads w w.heap.size) (ht : Turned w w' row) : p.Reads w' w'.heap.size := h.grown ht.1 ht.nob
theorem Segs.apart {g : Nat} {t : TypeId} {cs : Array Value} {fr : Nat × Nat} (h : Segs w n0 v ps) (hg : w.heap[g]? = some (.cells cs t fr)) (ht : t ≠ 80) : v.ownBlock = none ∨ v.ownBlock ≠ some g := by
 rcases h.1.2 with ⟨rfl, _⟩ | ⟨g', cap, cur, rfl, _, hgb, _⟩
 ·exact .inl rfl
 ·refine .inr fun e => ?_
  obtain rfl : g' = g := by simpa [Value.ownBlock] using e
  rw [hgb] at hg
  injection hg with hg
  injection hg with _ e3 _
  exact ht e3.symm
theorem Segs.form (h : Segs w n0 v ps) : ∃ A c, v = .slice A ps.length c ∧ ps.length ≤ c ∧ c ≤ 9223372036854775807 := by
 rcases h.1.2 with ⟨rfl, h0⟩ | ⟨g, cap, cur, rfl, _, _, h1, h2, _⟩
 ·exact ⟨none, 0, by rw [h0], by omega, by omega⟩
 ·unfold maxLen at h2
  exact ⟨_, cap, rfl, h1, by omega⟩
end
theorem run_append_seg {P : Program} (w : World) (t ty : TypeId) (i : TypeInfo) (z : Value) (ht : P.underlying t = some (.slice 80)) (hi : P.info? 80 = some i) (hz : i.zero = some z)
  (hsize : i.size = 5) (hby : i.bytes ≤ 100) (hzs : z.cells = #[.int .i64 0, .int .i64 0, .bool false, .int .i64 0, .slice none 0 0])
  (n0 : Nat) (v : Value) (ps : List Pt) (hs : Segs w n0 v ps) (ad : Addr) (c : Nat) (p : Pt) (hc : ∀ j u, p.cells[j]? = some u → w.cell? (ad.add j) = some u) (hp : p.Reads w w.heap.size)
  (hlen : ps.length + 1 ≤ 1000000000000) (hbase : n0 ≤ w.heap.size) :
  ∃ v' w', (Builtin.append_ #[t, t] ty #[v, .slice (some ad) 1 c]).run P w = .ok v' w' ∧ Segs w' n0 v' (ps ++ [p]) ∧ w.grownBy w' v.ownBlock := by
 have hl5 : p.cells.length = 1 * 5 := rfl
 have hb2 : (ps.length + 1) * i.bytes ≤ 140737488355328 := Nat.le_trans (Nat.mul_le_mul hlen hby) (by omega)
 have hm : ps.length + 1 ≤ maxLen := by unfold maxLen; omega
 obtain ⟨v', w', hrun, hown, hgr, _⟩ := run_append_own (P := P) w n0 t ty _ i z 5 i.bytes ht hi hz hsize rfl (by rw [hzs]; rfl) (by omega) v ps.length (flatS ps) hs.1 ad 1 c p.cells hl5 hc (cells_one p) hm hb2 hbase
 refine ⟨v', w', hrun, ⟨by simpa [flatS_append, flatS_one] using hown, ?_, fun q hq => ?_⟩, hgr⟩
 ·-- what it comes to, written out
  have hzb : ∀ (k : Nat) (u : Value), u ∈ (Builtin.zeroCells z.cells k).toList → ∀ n : Int, u ≠ .int .u8 n := by
   intro k u hu n
   simp only [Builtin.zeroCells, hzs] at hu
   simp at hu
   obtain ⟨a, _, rfl⟩ := hu
   have ha : a % 5 = 0 ∨ a % 5 = 1 ∨ a % 5 = 2 ∨ a % 5 = 3 ∨ a % 5 = 4 := by omega
   rcases ha with e | e | e | e | e <;> rw [e] <;> simp
  have new : ∀ (cur : Array Value), (∀ u ∈ cur.toList, ∀ n : Int, u ≠ .int .u8 n) → ∀ (i : Nat) (n : Int), (w.drew.alloc (.cells cur 80)).cell? ⟨w.heap.size, i, none⟩ ≠ some (.int .u8 n) := by
   intro cur hcur i n e
   rw [cell_of_row _ w.heap.size i cur _ (0, 0) (heap_alloc_new w.drew _)] at e
   exact hcur _ (by obtain ⟨hlt, he⟩ := Array.getElem?_eq_some_iff.1 e; rw [← he]; exact Array.getElem_mem_toList hlt) n rfl
  intro g hg i' n
  rcases hs.1.2 with ⟨rfl, h0⟩ | ⟨b, cap, cur, rfl, _, hgb, hnc, hcm, hcs, htake⟩
  ·have hr := run_append_nil (P := P) w t ty _ i z ht hi hz ad 1 c p.cells (by rw [hsize]; exact hl5) hc (by omega) (by omega) (by omega)
   rw [hrun] at hr
   injection hr with e1 e2
   subst e1 e2
   obtain rfl : w.heap.size = g := by simpa [Value.ownBlock] using hg
   refine new _ (fun u hu => ?_) i' n
   simp only [Array.toList_append, List.mem_append] at hu
   rcases hu with hu | hu
   ·exact cells_nob p u hu
   ·exact hzb _ u hu
  ·by_cases hroom : ps.length + 1 ≤ cap
   ·have hr := run_append_room (P := P) w t ty _ i ht hi b ps.length cap cur hgb ad 1 c p.cells (by rw [hsize]; exact hl5) hc (cells_one p) hroom (by rw [hsize, hcs, hl5]; omega)
    rw [hrun] at hr
    injection hr with e1 e2
    subst e1 e2
    obtain rfl : b = g := by simpa [Value.ownBlock] using hg
    rw [cell_setRow_same w b i' cur _ _ _ hgb]
    intro e
    have hmem : (Value.int .u8 n) ∈ cur.toList.take (ps.length * i.size) ++ p.cells ++ cur.toList.drop (ps.length * i.size + p.cells.length) := by
     rw [List.getElem?_toArray] at e
     exact List.mem_of_getElem? e
    have hold : ∀ u ∈ cur.toList, ∀ n : Int, u ≠ .int .u8 n := by
     intro u hu n e
     obtain ⟨k, hk⟩ := List.mem_iff_getElem?.1 hu
     refine hs.2.1 b rfl k n ?_
     rw [cell_of_row w b k cur _ _ hgb, ← e]
     simpa using hk
    rcases List.mem_append.1 hmem with h | h
    ·rcases List.mem_append.1 h with h | h
     ·exact hold _ (List.mem_of_mem_take h) n rfl
     ·exact cells_nob p _ h n rfl
    ·exact hold _ (List.mem_of_mem_drop h) n rfl
   ·have hr := run_append_grow (P := P) w t ty _ i z ht hi hz ⟨b, 0, none⟩ ps.length cap (flatS ps) (by rw [hsize]; exact flatS_length ps) (hs.1.cells (g := b) rfl) ad 1 c p.cells (by rw [hsize]; exact hl5) hc (by omega) (by omega) (growslice_fits (by omega) hb2)
    rw [hrun] at hr
    injection hr with e1 e2
    subst e1 e2
    obtain rfl : w.heap.size = g := by simpa [Value.ownBlock] using hg
    refine new _ (fun u hu => ?_) i' n
    simp only [Array.toList_append, List.mem_append] at hu
    rcases hu with (hu | hu) | hu
    ·exact flatS_nob ps u hu
    ·exact cells_nob p u hu
    ·exact hzb _ u hu
 ·rcases List.mem_append.1 hq with h | h
  ·exact (hs.2.2 q h).grown hgr hs.2.1
  ·obtain rfl : q = p := by simpa using h
   exact hp.grown hgr hs.2.1
theorem wpList_append_seg {P : Program} {w : World} {ops : Array Oper} {rest : List Oper} {o : Oper} {a : Act} {Q : Exit → Act → World → Prop} (hgd : o.guard = none) (s x : Operand) (t : TypeId)
  (ho : o.op = .call { callee := .builtin .append, args := #[s, x], argTypes := #[t, t] })
  (i : TypeInfo) (z : Value) (ht : P.underlying t = some (.slice 80)) (hi : P.info? 80 = some i) (hz : i.zero = some z)
  (hsize : i.size = 5) (hby : i.bytes ≤ 100) (hzs : z.cells = #[.int .i64 0, .int .i64 0, .bool false, .int .i64 0, .slice none 0 0])
  (n0 : Nat) (v : Value) (ps : List Pt) (hs : a.eval s = v) (hown : Segs w n0 v ps) (ad : Addr) (c : Nat) (p : Pt) (hx : a.eval x = .slice (some ad) 1 c) (hc : ∀ j u, p.cells[j]? = some u → w.cell? (ad.add j) = some u) (hp : p.Reads w w.heap.size)
  (hlen : ps.length + 1 ≤ 1000000000000) (hbase : n0 ≤ w.heap.size)
  (h : ∀ v' w', Segs w' n0 v' (ps ++ [p]) → w.grownBy w' v.ownBlock → wpList P ops Q rest (a.put o.dst v') w') : wpList P ops Q (o :: rest) a w := by
 refine wpList_plain hgd fun _ hK => ?_
 obtain ⟨v', w', hr, h2, h3⟩ := run_append_seg (P := P) w t o.type i z ht hi hz hsize hby hzs n0 v ps hown ad c p hc hp hlen hbase
 unfold Oper.wp execOp
 simp only [ho, resolve, invoke, builtin, Sem.run_bind, Sem.run_pure, Result.andThen_ok, List.map_toArray, List.map_cons, List.map_nil, hs, hx, hr]
 exact hK _ _ (h v' w' h2 h3)
theorem wpListIn_append_seg {F : Fence} {n : Nat} {P : Program} {w : World} {ops : Array Oper} {rest : List Oper} {o : Oper} {a : Act} {Q : Exit → Act → World → Prop} (hgd : o.guard = none) (s x : Operand) (t : TypeId)
  (ho : o.op = Op.call { callee := Callee.builtin Builtin.append, args := #[s, x], argTypes := #[t, t] })
  (i : TypeInfo) (z : Value) (ht : P.underlying t = some (.slice 80)) (hi : P.info? 80 = some i) (hz : i.zero = some z)
  (hsize : i.size = 5) (hby : i.bytes ≤ 100) (hzs : z.cells = #[.int .i64 0, .int .i64 0, .bool false, .int .i64 0, .slice none 0 0])
  (n0 : Nat) (v : Value) (ps : List Pt) (hs : a.eval s = v) (hown : Segs w n0 v ps) (ad : Addr) (c : Nat) (p : Pt) (hx : a.eval x = .slice (some ad) 1 c) (hc : ∀ j u, p.cells[j]? = some u → w.cell? (ad.add j) = some u) (hp : p.Reads w w.heap.size)
  (hlen : ps.length + 1 ≤ 1000000000000) (hbase : n0 ≤ w.heap.size)
  (h : ∀ v' w', Segs w' n0 v' (ps ++ [p]) → w.grownBy w' v.ownBlock → wpListIn F n P ops Q rest (a.put o.dst v') w') : wpListIn F n P ops Q (o :: rest) a w := by
 refine wpListIn_plain hgd fun K hK' => ?_
 obtain ⟨v', w', hrun, h2, h3⟩ := run_append_seg (P := P) w t o.type i z ht hi hz hsize hby hzs n0 v ps hown ad c p hc hp hlen hbase
 unfold Oper.wpIn
 refine ⟨?_, ?_⟩
 ·simp [Oper.about, ho, resolve, Target.leads, Sem.run_pure]
 ·rw [Oper.semAt_plain F _ _ (by rw [ho]; intro c hc'; cases hc')]
  simp [execOp, ho, resolve, invoke, builtin, hs, hx, hrun, Result.andThen]
  exact hK' _ _ (h v' w' h2 h3)
section
variable {w w' : World} {n0 B : Nat} {v : Value} {ps : List Pt}
theorem Segs.store {g cap : Nat} (h : Segs w n0 (.slice (some ⟨g, 0, none⟩) ps.length cap) ps) {i : Nat} {p q : Pt} (hp : ps[i]? = some p) (j : Nat) (hj : j < 5) (u : Value) (hq : q.cells = p.cells.set j u) (hs : q.s.pay = p.s.pay) (hA : q.A = p.A) (hcc : q.c = p.c) (hu : ∀ n : Int, u ≠ .int .u8 n) :
  Segs (w.setCell ⟨g, i * 5 + j, none⟩ u) n0 (.slice (some ⟨g, 0, none⟩) ps.length cap) (ps.set i q) := by
 obtain ⟨h1, h2, h3⟩ := h
 have hlt := (List.getElem?_eq_some_iff.1 hp).1
 have hgr : w.grownBy (w.setCell ⟨g, i * 5 + j, none⟩ u) (some g) := ⟨rfl, rfl, rfl, (KeepsWalks.setCell w _ u).size, fun k _ hk => Below.heap_setCell _ _ _ k (fun e => hk (by rw [e]))⟩
 have hclean : ∀ k, some g = some k → ∀ (i : Nat) (n : Int), w.cell? ⟨k, i, none⟩ ≠ some (.int .u8 n) := fun k e => h2 k e
 refine ⟨?_, fun g' e i' n => ?_, fun r hr => ?_⟩
 ·rw [List.length_set, flatS_set ps i p hlt j u q hp hq hj]
  exact (h1.stored _ u).1
 ·obtain rfl : g = g' := by simpa [Value.ownBlock] using e
  by_cases he : i' = i * 5 + j
  ·subst he
   have hsome : (w.cell? ⟨g, i * 5 + j, none⟩).isSome = true := by
    rw [h1.cellAt _ (by omega), List.getElem?_eq_getElem (by rw [flatS_length]; omega)]
    rfl
   rw [World.cell?_setCell_same' w ⟨g, i * 5 + j, none⟩ u hsome]
   intro e2
   exact hu n (by injection e2)
  ·have hne : (⟨g, i * 5 + j, none⟩ : Addr) ≠ ⟨g, i', none⟩ := by
    intro e3
    injection e3 with _ e4 _
    exact he e4.symm
   rw [World.cell?_setCell_other (h := hne)]
   exact h2 g rfl i' n
 ·have hok : ∀ x ∈ ps, x.Reads (w.setCell ⟨g, i * 5 + j, none⟩ u) (w.setCell ⟨g, i * 5 + j, none⟩ u).heap.size := fun x hx => (h3 x hx).grown hgr hclean
  rcases List.mem_or_eq_of_mem_set hr with h | rfl
  ·exact hok r h
  ·have := hok p (List.mem_of_getElem? hp)
   unfold Pt.Reads Pt.pv at this ⊢
   rw [hs, hA, hcc]
   exact this
end
theorem Tryz.infoSeg : (Tryz.prog.info? 80).map (fun i => (i.zero, i.size, i.bytes)) = some (some (.agg #[.int .i64 0, .int .i64 0, .bool false, .int .i64 0, .slice none 0 0]), 5, 56) := by kernel_rfl
theorem map_snoc (pre : List Pt) (x : Pt) : (pre ++ [x]).map (·.s) = pre.map (·.s) ++ [x.s] := by simp
def Collected (xs : List Int) (w : World) (e : Ending) (w' : World) : Prop :=
 ∃ v ps, e = .returned v ∧ PartsS xs 0 (ps.map (·.s)) ∧ Segs w' w.heap.size v ps ∧ Below w.heap.size w w'
theorem rmark_any (w : World) : Calls Tryz.prog 168 #[] w fun e w' => e = .returned (.string (strOfNums markL)) ∧ Below w.heap.size w w' := by
 have hcv := fun W b => conv_four W b 199 84 71 1
 go_enter Tryz.func168, Tryz.ntmps168
 go_wp2
 go_ret
 exact ⟨rfl, (Below.refl _ _).alloc (Nat.le_refl _) _⟩
theorem bytes_eq {a b : ByteArray} (h : a.toList = b.toList) : a = b := by
 rw [Lib.toList_data, Lib.toList_data] at h
 rw [← Lib.mk_data a, ← Lib.mk_data b, h]
def RFGot (w : World) (t : (Int × List Int) × Nat × Int) (r : Ending) (w' : World) : Prop :=
 ∃ A c, r = .returned (.tuple #[.agg #[.int .i64 t.1.1, .slice A t.1.2.length c], .int .i64 t.2.1, .int .i64 t.2.2]) ∧ Row w' w'.heap.size (.slice A t.1.2.length c) t.1.2 ∧ Below w.heap.size w w'
theorem rf_none {w W : World} {er : Int} {xs : List Int} (hget : getFr xs = noFr er) (hb : Below w.heap.size w W) :
  RFGot w (getFr xs) (.returned (.tuple #[.agg #[.int .i64 0, .slice none 0 0], .int .i64 0, .int .i64 er])) ((W.setCell ⟨w.heap.size, 0, none⟩ (.int .i64 0)).setCell ⟨w.heap.size, 1, none⟩ (.slice none 0 0)) := by
 rw [hget]
 exact ⟨none, 0, rfl, Row.nil _ _, (hb.setCell (p := ⟨w.heap.size, 0, none⟩) (Nat.le_refl _) _).setCell (p := ⟨w.heap.size, 1, none⟩) (Nat.le_refl _) _⟩
theorem rfget_any (xs : List Int) (hl : xs.length ≤ 100000000000) (w : World) (hb : ∀ x ∈ xs, 0 ≤ x ∧ x < 256) :
  Calls Tryz.prog 129 #[.string (strOfNums xs)] w (RFGot w (getFr xs)) := by
 have HB := hid hb; clear hb
 have hsz := strOfNums_size xs
 have HMK := hid (fun W => rmark_any W)
 rw [str_mark] at HMK
 obtain ⟨M, hM1, hM2, hM3⟩ : ∃ M : Nat, M ≤ xs.length ∧ M ≤ 4 ∧ (M = xs.length ∨ M = 4) := by
  by_cases h : xs.length ≤ 4
  ·exact ⟨xs.length, by omega, by omega, .inl rfl⟩
  ·exact ⟨4, by omega, by omega, .inr rfl⟩
 have HM3 := hid hM3; clear hM3
 go_enter Tryz.func129, Tryz.ntmps129
 go_wp2_with fail
 refine (HMK.out _).mono ?_
 rintro e w3 ⟨rfl, hb3⟩
 have hr3 : Held w3 w.heap.size 78 #[.int .i64 0, .slice none 0 0] := (hb3.block w.heap.size (by simp <;> omega)).trans ((Below.heap_alloc (w.alloc _) _ w.heap.size (by simp)).trans (heap_alloc_new w _))
 have hn3 : Held w3 (w.heap.size + 1) 78 #[.int .i64 0, .slice none 0 0] := (hb3.block (w.heap.size + 1) (by simp <;> omega)).trans (by
  have := heap_alloc_new (w.alloc (.cells #[.int .i64 0, .slice none 0 0] 78)) (.cells #[.int .i64 0, .slice none 0 0] 78)
  rw [World.size_alloc] at this
  exact this)
 have b3 : Below w.heap.size w w3 := (((Below.refl _ _).alloc (Nat.le_refl _) _).alloc (by simp) _).trans (hb3.mono (by simp <;> omega))
 obtain ⟨c0, c1⟩ := cC2 hr3
 obtain ⟨d0, d1⟩ := cC2 hn3
 simp at c0 c1 d0 d1
 obtain ⟨f0, f1⟩ := cF2 hr3
 have HR3 := hid hr3
 have HB3 := hid b3
 have HN3 := hid hn3
 have hz3 : w.heap.size + 2 ≤ w3.heap.size := by have := hb3.size; simpa using this
 clear hb3 hr3 hn3 b3
 go_wp2_with fail
 go_loopw [7] (fun i wr => ∃ k n : Nat, k ≤ M ∧ i = .int .i64 k ∧ wr = w3.drewN n ∧ Hid (∀ j, j < k → xs.getD j 0 = markL.getD j 0)) (fun i _ => M - (intOf i).toNat)
 case atStart => exact ⟨0, 0, Nat.zero_le _, rfl, rfl, hid (fun j h => absurd h (Nat.not_lt_zero _))⟩
 case round =>
  obtain ⟨k, n, hk, rfl, rfl, HJ⟩ := hrel
  by_cases hlt : k < M
  ·have hin : xs.getD k 0 ∈ xs := by rw [List.getD, List.getElem?_eq_getElem (by omega)]; simp
   obtain ⟨y0, y1⟩ := HB.out _ hin
   clear hin
   have hat := str_at xs HB.out k (by omega) (by omega)
   obtain ⟨y, hy⟩ : ∃ y, xs.getD k 0 = y := ⟨_, rfl⟩
   rw [hy] at hat y0 y1
   have HY := hid hy; clear hy
   have i2 : k < xs.length := by omega
   have i3 : (k : Int) < (xs.length : Int) := by omega
   obtain ⟨z, hz⟩ : ∃ z, markL.getD k 0 = z := ⟨_, rfl⟩
   by_cases he : y = z
   ·have hj2 : ∀ j, j < k + 1 → xs.getD j 0 = markL.getD j 0 := fun j hj => by
     rcases Nat.lt_or_ge j k with h | h
     ·exact HJ.out j h
     ·obtain rfl : j = k := by omega
      rw [HY.out, hz, he]
    have HJ2 := hid hj2; clear hj2 HJ
    rcases (by omega : k = 0 ∨ k = 1 ∨ k = 2 ∨ k = 3) with rfl | rfl | rfl | rfl
    ·have i1 : (0 : Int) < (xs.length : Int) := by omega
     have hzv : z = 199 := hz.symm
     subst hzv
     subst he
     clear hz
     go_wp2_with fail
     go_quiet (fail)
     go_wp2_with fail
     exact ⟨⟨1, n + nq, by omega, rfl, rfl, HJ2⟩, by simp [intOf]; omega⟩
    ·have i1 : (1 : Int) < (xs.length : Int) := by omega
     have hzv : z = 84 := hz.symm
     subst hzv
     subst he
     clear hz
     go_wp2_with fail
     go_quiet (fail)
     go_wp2_with fail
     exact ⟨⟨2, n + nq, by omega, rfl, rfl, HJ2⟩, by simp [intOf]; omega⟩
    ·have i1 : (2 : Int) < (xs.length : Int) := by omega
     have hzv : z = 71 := hz.symm
     subst hzv
     subst he
     clear hz
     go_wp2_with fail
     go_quiet (fail)
     go_wp2_with fail
     exact ⟨⟨3, n + nq, by omega, rfl, rfl, HJ2⟩, by simp [intOf]; omega⟩
    ·have i1 : (3 : Int) < (xs.length : Int) := by omega
     have hzv : z = 1 := hz.symm
     subst hzv
     subst he
     clear hz
     go_wp2_with fail
     go_quiet (fail)
     go_wp2_with fail
     exact ⟨⟨4, n + nq, by omega, rfl, rfl, HJ2⟩, by simp [intOf]; omega⟩
   ·have hfin : getFr xs = noFr 4 := by
     have hm := markI_other markL xs k (by simp [markL]; omega) i2 HJ.out (by rw [HY.out, hz]; exact he)
     unfold getFr
     rw [if_pos (by rw [hm]; simp), hm]
    have HF := hid hfin; clear hfin HJ
    rcases (by omega : k = 0 ∨ k = 1 ∨ k = 2 ∨ k = 3) with rfl | rfl | rfl | rfl
    ·have i1 : (0 : Int) < (xs.length : Int) := by omega
     have hzv : z = 199 := hz.symm
     subst hzv
     have hne : (y != 199) = true := bne_iff_ne.2 he
     have hne2 : (y == 199) = false := beq_eq_false_iff_ne.2 he
     clear hz
     go_wp2_with fail
     go_quiet (fail)
     go_wp2_with fail
     ·have hfin := ((show Held (w3.drewN (n + nq)) w.heap.size 78 #[.int .i64 0, .slice none 0 0] from HR3.out).put 0 (.int .i64 0)).put 1 (.slice none 0 0)
      obtain ⟨e0, e1⟩ := cC2 hfin
      simp at e0 e1
      exact bodyPost_ret (v := .tuple #[.agg #[.int .i64 0, .slice none 0 0], .int .i64 0, .int .i64 4]) (by simp [results, Tryz.results129, go_sem, e0, e1]) rfl (rf_none HF.out (below_drewN HB3.out _))
     ·rename_i hx
      simp [bne] at hx
      exact absurd hx he
    ·have i1 : (1 : Int) < (xs.length : Int) := by omega
     have hzv : z = 84 := hz.symm
     subst hzv
     have hne : (y != 84) = true := bne_iff_ne.2 he
     have hne2 : (y == 84) = false := beq_eq_false_iff_ne.2 he
     clear hz
     go_wp2_with fail
     go_quiet (fail)
     go_wp2_with fail
     ·have hfin := ((show Held (w3.drewN (n + nq)) w.heap.size 78 #[.int .i64 0, .slice none 0 0] from HR3.out).put 0 (.int .i64 0)).put 1 (.slice none 0 0)
      obtain ⟨e0, e1⟩ := cC2 hfin
      simp at e0 e1
      exact bodyPost_ret (v := .tuple #[.agg #[.int .i64 0, .slice none 0 0], .int .i64 0, .int .i64 4]) (by simp [results, Tryz.results129, go_sem, e0, e1]) rfl (rf_none HF.out (below_drewN HB3.out _))
     ·rename_i hx
      simp [bne] at hx
      exact absurd hx he
    ·have i1 : (2 : Int) < (xs.length : Int) := by omega
     have hzv : z = 71 := hz.symm
     subst hzv
     have hne : (y != 71) = true := bne_iff_ne.2 he
     have hne2 : (y == 71) = false := beq_eq_false_iff_ne.2 he
     clear hz
     go_wp2_with fail
     go_quiet (fail)
     go_wp2_with fail
     ·have hfin := ((show Held (w3.drewN (n + nq)) w.heap.size 78 #[.int .i64 0, .slice none 0 0] from HR3.out).put 0 (.int .i64 0)).put 1 (.slice none 0 0)
      obtain ⟨e0, e1⟩ := cC2 hfin
      simp at e0 e1
      exact bodyPost_ret (v := .tuple #[.agg #[.int .i64 0, .slice none 0 0], .int .i64 0, .int .i64 4]) (by simp [results, Tryz.results129, go_sem, e0, e1]) rfl (rf_none HF.out (below_drewN HB3.out _))
     ·rename_i hx
      simp [bne] at hx
      exact absurd hx he
    ·have i1 : (3 : Int) < (xs.length : Int) := by omega
     have hzv : z = 1 := hz.symm
     subst hzv
     have hne : (y != 1) = true := bne_iff_ne.2 he
     have hne2 : (y == 1) = false := beq_eq_false_iff_ne.2 he
     clear hz
     go_wp2_with fail
     go_quiet (fail)
     go_wp2_with fail
     ·have hfin := ((show Held (w3.drewN (n + nq)) w.heap.size 78 #[.int .i64 0, .slice none 0 0] from HR3.out).put 0 (.int .i64 0)).put 1 (.slice none 0 0)
      obtain ⟨e0, e1⟩ := cC2 hfin
      simp at e0 e1
      exact bodyPost_ret (v := .tuple #[.agg #[.int .i64 0, .slice none 0 0], .int .i64 0, .int .i64 4]) (by simp [results, Tryz.results129, go_sem, e0, e1]) rfl (rf_none HF.out (below_drewN HB3.out _))
     ·rename_i hx
      simp [bne] at hx
      exact absurd hx he
  ·have hkM : k = M := by omega
   by_cases h4 : xs.length < 4
   ·have hget : getFr xs = noFr 2 := by
     have hm : markI markL xs = 2 := markI_short markL xs (by simpa [markL] using h4) (fun j hj => HJ.out j (by rcases HM3.out with h | h <;> omega))
     unfold getFr
     rw [if_pos (by rw [hm]; simp), hm]
    have HF := hid hget
    clear hget
    obtain rfl : k = xs.length := by rcases HM3.out with h | h <;> omega
    have h5i : (xs.length : Int) < 5 := by omega
    have h4i : (xs.length : Int) < 4 := by omega
    clear HJ hkM
    go_wp2_with fail
    have hfin := ((show Held (w3.drewN n) w.heap.size 78 #[.int .i64 0, .slice none 0 0] from HR3.out).put 0 (.int .i64 0)).put 1 (.slice none 0 0)
    obtain ⟨e0, e1⟩ := cC2 hfin
    simp at e0 e1
    exact bodyPost_ret (v := .tuple #[.agg #[.int .i64 0, .slice none 0 0], .int .i64 0, .int .i64 2]) (by simp [results, Tryz.results129, go_sem, e0, e1]) rfl (rf_none HF.out (below_drewN HB3.out _))
   obtain rfl : k = 4 := by rcases HM3.out with h | h <;> omega
   clear hkM
   by_cases h5 : xs.length < 5
   ·have hget : getFr xs = noFr 2 := by
     have hm : markI markL xs = 0 := markI_all markL xs (by simp [markL]; omega) (fun j hj => HJ.out j (by simpa [markL] using hj))
     unfold getFr
     rw [if_neg (by rw [hm]; simp), List.drop_of_length_le (by omega)]
    have HF := hid hget
    clear hget HJ
    have h5i : (xs.length : Int) < 5 := by omega
    go_wp2_with fail
    have hfin := ((show Held (w3.drewN n) w.heap.size 78 #[.int .i64 0, .slice none 0 0] from HR3.out).put 0 (.int .i64 0)).put 1 (.slice none 0 0)
    obtain ⟨e0, e1⟩ := cC2 hfin
    simp at e0 e1
    exact bodyPost_ret (v := .tuple #[.agg #[.int .i64 0, .slice none 0 0], .int .i64 0, .int .i64 2]) (by simp [results, Tryz.results129, go_sem, e0, e1]) rfl (rf_none HF.out (below_drewN HB3.out _))
   ·have hm : markI markL xs = 0 := markI_all markL xs (by simp [markL]; omega) (fun j hj => HJ.out j (by simpa [markL] using hj))
    have hx := markI_back hm
    have hd : xs.drop 4 = xs.getD 4 0 :: xs.drop 5 := by
     rw [List.drop_eq_getElem_cons (by omega)]
     simp [List.getD, List.getElem?_eq_getElem (show 4 < xs.length by omega)]
    rw [hd] at hx
    have hgf : getFr xs = if xs.getD 4 0 = 1 ∨ xs.getD 4 0 = 2 then getBody (xs.getD 4 0) (xs.drop 5) else noFr 4 := by
     conv => lhs; rw [hx]
     rw [getFr_mark]
    have hat := str_at xs HB.out 4 (by omega) (by omega)
    have hin : xs.getD 4 0 ∈ xs := by rw [List.getD, List.getElem?_eq_getElem (by omega)]; simp
    obtain ⟨y0, y1⟩ := HB.out _ hin
    clear hin hm HJ
    have hd4 : (xs.drop 4) = xs.getD 4 0 :: xs.drop 5 := hd
    have HD4 := hid hd4
    clear hd hx hd4
    obtain ⟨k0, hk0⟩ : ∃ k0, xs.getD 4 0 = k0 := ⟨_, rfl⟩
    rw [hk0] at hat y0 y1 hgf HD4
    clear hk0
    have h5i : (5 : Int) ≤ (xs.length : Int) := by omega
    have h5n : 4 < xs.length := by omega
    by_cases hk : k0 = 1 ∨ k0 = 2
    ·rw [if_pos hk] at hgf
     have HGF := hid hgf
     clear hgf
     have hcut5 : (strOfNums xs).extract 5 xs.length = strOfNums (xs.drop 5) := by rw [str_cut, List.take_length]
     have hbys : ∀ x ∈ xs.drop 5, 0 ≤ x ∧ x < 256 := drop_bytes HB.out 5
     have hyl : (xs.drop 5).length = xs.length - 5 := by simp
     have HG := hid (fun W => rget_any (xs.drop 5) hbys (by omega) W)
     have HBY := hid hbys
     have HYL := hid hyl
     clear hbys hyl
     generalize hys0 : xs.drop 5 = ys at HGF hcut5 HG HBY HYL HD4
     have HYS := hid hys0.symm
     clear hys0
     by_cases her : (getI ys).2.2 = 0
     ·obtain ⟨m, sz, hgi, h1, h2, h3, h4, h5⟩ := getI_ok ys HBY.out her
      rw [hgi] at HG
      simp only at HG
      have hszl : ys.length = xs.length - 5 := HYL.out
      by_cases hlim : 4096 < m
      ·have HF := hid (HGF.out.trans (getBody_limit hgi hlim))
       have hli : (4096 : Int) < (m : Int) := by omega
       clear HGF h4 her hgi HD4
       rcases hk with rfl | rfl
       all_goals
        go_wp2_with fail
        refine (HG.out _).mono ?_
        rintro e w4 ⟨rfl, rfl⟩
        go_wp2_with fail
        have hfin := ((show Held (w3.drewN n) w.heap.size 78 #[.int .i64 0, .slice none 0 0] from HR3.out).put 0 (.int .i64 0)).put 1 (.slice none 0 0)
        obtain ⟨e0, e1⟩ := cC2 hfin
        simp at e0 e1
        exact bodyPost_ret (v := .tuple #[.agg #[.int .i64 0, .slice none 0 0], .int .i64 0, .int .i64 6]) (by simp [results, Tryz.results129, go_sem, e0, e1]) rfl (rf_none HF.out (below_drewN HB3.out _))
      ·have hli : (m : Int) ≤ 4096 := by omega
       by_cases hsh : ys.length < sz + m + 4
       ·have HF := hid (HGF.out.trans (getBody_short hgi (by omega) hsh))
        have hshi : (xs.length : Int) < 5 + (sz : Int) + (m : Int) + 4 := by omega
        clear HGF h4 her hgi HD4
        rcases hk with rfl | rfl
        all_goals
         go_wp2_with fail
         refine (HG.out _).mono ?_
         rintro e w4 ⟨rfl, rfl⟩
         go_wp2_with fail
         have hfin := ((show Held (w3.drewN n) w.heap.size 78 #[.int .i64 0, .slice none 0 0] from HR3.out).put 0 (.int .i64 0)).put 1 (.slice none 0 0)
         obtain ⟨e0, e1⟩ := cC2 hfin
         simp at e0 e1
         exact bodyPost_ret (v := .tuple #[.agg #[.int .i64 0, .slice none 0 0], .int .i64 0, .int .i64 2]) (by simp [results, Tryz.results129, go_sem, e0, e1]) rfl (rf_none HF.out (below_drewN HB3.out _))
       ·obtain ⟨P, hP⟩ : ∃ P, P = 5 + sz := ⟨_, rfl⟩
        obtain ⟨E, hE⟩ : ∃ E, E = P + m := ⟨_, rfl⟩
        obtain ⟨E4, hE4⟩ : ∃ E4, E4 = E + 4 := ⟨_, rfl⟩
        have hys : ys = xs.drop 5 := HYS.out
        have hcutE : (strOfNums xs).extract E E4 = strOfNums ((ys.drop (sz + m)).take 4) := by
         rw [str_cut, List.drop_take, hys, List.drop_drop, show E4 - E = 4 by omega, show 5 + (sz + m) = E by omega]
        have hcutB : (strOfNums xs).extract 4 E = strOfNums (k0 :: ys.take (sz + m)) := by
         rw [str_cut, List.drop_take, HD4.out, show E - 4 = (sz + m) + 1 by omega, List.take_succ_cons]
        have hcutP : (strOfNums xs).extract P E = strOfNums ((ys.drop sz).take m) := by
         rw [str_cut, List.drop_take, hys, List.drop_drop, show E - P = m by omega, show 5 + sz = P by omega]
        have hbb : ∀ x ∈ k0 :: ys.take (sz + m), 0 ≤ x ∧ x < 256 := by
         intro x hx
         rcases List.mem_cons.1 hx with rfl | hx
         ·omega
         ·exact HBY.out x (List.mem_of_mem_take hx)
        have hsl := sumX_lt hbb
        have HS := hid (fun W => rsum_any (k0 :: ys.take (sz + m)) hbb (by simp; omega) W)
        have HF4 := hid (fun W => rfour_any (sumX (k0 :: ys.take (sz + m))) hsl W)
        have hb4 : ∀ x ∈ (ys.drop (sz + m)).take 4, 0 ≤ x ∧ x < 256 := fun x hx => HBY.out x (List.mem_of_mem_drop (List.mem_of_mem_take hx))
        have hbpay : ∀ x ∈ (ys.drop sz).take m, 0 ≤ x ∧ x < 256 := fun x hx => HBY.out x (List.mem_of_mem_drop (List.mem_of_mem_take hx))
        have hpayl : ((ys.drop sz).take m).length ≤ 100000000000 := by simp; omega
        have HBPAY := hid hbpay
        have hsum9 : 9 + sz + m = E4 := by omega
        have HS9 := hid hsum9
        have p1 : (5 : Int) + (sz : Int) = (P : Int) := by omega
        have p2 : (P : Int) + (m : Int) = (E : Int) := by omega
        have p3 : (E : Int) + 4 = (E4 : Int) := by omega
        have q1 : (4 : Int) ≤ (E : Int) := by omega
        have q2 : (E : Int) ≤ (E4 : Int) := by omega
        have q3 : (E4 : Int) ≤ (xs.length : Int) := by omega
        have q4 : (P : Int) ≤ (E : Int) := by omega
        have q5 : (E : Int) ≤ (xs.length : Int) := by omega
        have q6 : 4 ≤ E := by omega
        have q7 : E ≤ E4 := by omega
        have q8 : E4 ≤ xs.length := by omega
        have q9 : P ≤ E := by omega
        have qa : E ≤ xs.length := by omega
        have r1 : IntKind.i64.wrap (E4 : Int) = (E4 : Int) := IntWalk.i64_in _ (by omega)
        clear hP hE hE4 hbpay hsum9
        by_cases hq : (ys.drop (sz + m)).take 4 = le4 (sumX (k0 :: ys.take (sz + m)))
        ·have hget := HGF.out.trans (getBody_ok hgi (by omega) hsh hq)
         rw [HS9.out] at hget
         have HF := hid hget
         rw [hq] at hcutE
         generalize strOfNums (le4 (sumX (k0 :: ys.take (sz + m)))) = s2 at HF4 hcutE
         generalize strOfNums (k0 :: ys.take (sz + m)) = s3 at hcutB HS
         generalize hpay : (ys.drop sz).take m = pay at hcutP HBPAY hpayl HF
         have HPAY := hid hpay
         clear HGF h4 her hgi HD4 hb4 hbb hsl hq hys hsh hpay hget
         rcases hk with rfl | rfl
         ·go_wp2_with fail
          refine (HG.out _).mono ?_
          rintro e w4 ⟨rfl, rfl⟩
          go_wp2_with fail
          go_region_held (fun _ => True) (trivial)
           (first
            | (go_at_call 170; refine (HS.out _).mono ?_; rintro e w5 ⟨rfl, rfl⟩)
            | (go_at_call 169; refine (HF4.out _).mono ?_; rintro e w6 ⟨rfl, hb6⟩))
          have b6 : Below w3.heap.size w3 w6 := ⟨hb6.os, hb6.tape, hb6.output, hb6.size, hb6.block⟩
          have hr6 := HR3.out.below b6 (by omega)
          have B6 := hid b6
          clear hb6 b6
          obtain ⟨A7, c7, w7, hcv7, hrow7, hb7⟩ := conv_bytes (P := Tryz.prog) w6.drew 9 23 5 Tryz.underlying9 Tryz.underlying23 Tryz.underlying5 pay HBPAY.out (by omega)
          have hlt6 : w.heap.size < w6.heap.size := hr6.lt
          have hr7 := (show Held w6.drew w.heap.size 78 #[.int .i64 0, .slice none 0 0] from hr6).below hb7 hlt6
          obtain ⟨g0, g1⟩ := cC2 hr7
          simp at g0 g1
          obtain ⟨g2, g3⟩ := cF2 hr7
          have HR7 := hid hr7
          have HROW7 := hid hrow7
          have b7 : Below w3.heap.size w3 w7 := B6.out.trans ((show Below w6.heap.size w6 w7 from ⟨hb7.os, hb7.tape, hb7.output, hb7.size, hb7.block⟩).mono B6.out.size)
          have B7 := hid b7
          clear hr6 hr7 hrow7 hb7 b7
          go_wp2_with fail
          go_region_held (fun _ => True) (trivial) (fail)
          all_goals
           go_wp2_with fail
           have hfin := (HR7.out.put 0 (.int .i64 (IntKind.i64.wrap 1))).put 1 (.slice A7 pay.length c7)
           obtain ⟨e0, e1⟩ := cC2 hfin
           simp at e0 e1
           refine bodyPost_ret (v := .tuple #[.agg #[.int .i64 (IntKind.i64.wrap 1), .slice A7 pay.length c7], .int .i64 E4, .int .i64 0]) (by simp [results, Tryz.results129, go_sem, e0, e1]) rfl ?_
           rw [HF.out]
           refine ⟨A7, c7, rfl, ?_, ?_⟩
           ·refine (HROW7.out.keep_but (g := w.heap.size) (fun k _ hn => ?_) (fun i n => ?_)).more (by simp)
            ·exact (Below.heap_setCell _ ⟨w.heap.size, 1, none⟩ _ k (by simp only; exact hn)).trans (Below.heap_setCell _ ⟨w.heap.size, 0, none⟩ _ k (by simp only; exact hn))
            ·rw [HR7.out.cell i]
             match i with
             | 0 => simp
             | 1 => simp
             | i + 2 => simp
           ·exact ((HB3.out.trans (B7.out.mono (by omega))).setCell (p := ⟨w.heap.size, 0, none⟩) (Nat.le_refl _) _).setCell (p := ⟨w.heap.size, 1, none⟩) (Nat.le_refl _) _
         ·go_wp2_with fail
          refine (HG.out _).mono ?_
          rintro e w4 ⟨rfl, rfl⟩
          go_wp2_with fail
          go_region_held (fun _ => True) (trivial)
           (first
            | (go_at_call 170; refine (HS.out _).mono ?_; rintro e w5 ⟨rfl, rfl⟩)
            | (go_at_call 169; refine (HF4.out _).mono ?_; rintro e w6 ⟨rfl, hb6⟩))
          have b6 : Below w3.heap.size w3 w6 := ⟨hb6.os, hb6.tape, hb6.output, hb6.size, hb6.block⟩
          have hr6 := HR3.out.below b6 (by omega)
          have B6 := hid b6
          clear hb6 b6
          obtain ⟨A7, c7, w7, hcv7, hrow7, hb7⟩ := conv_bytes (P := Tryz.prog) w6.drew 9 23 5 Tryz.underlying9 Tryz.underlying23 Tryz.underlying5 pay HBPAY.out (by omega)
          have hlt6 : w.heap.size < w6.heap.size := hr6.lt
          have hr7 := (show Held w6.drew w.heap.size 78 #[.int .i64 0, .slice none 0 0] from hr6).below hb7 hlt6
          obtain ⟨g0, g1⟩ := cC2 hr7
          simp at g0 g1
          obtain ⟨g2, g3⟩ := cF2 hr7
          have HR7 := hid hr7
          have HROW7 := hid hrow7
          have b7 : Below w3.heap.size w3 w7 := B6.out.trans ((show Below w6.heap.size w6 w7 from ⟨hb7.os, hb7.tape, hb7.output, hb7.size, hb7.block⟩).mono B6.out.size)
          have B7 := hid b7
          clear hr6 hr7 hrow7 hb7 b7
          go_wp2_with fail
          go_region_held (fun _ => True) (trivial) (fail)
          all_goals
           go_wp2_with fail
           have hfin := (HR7.out.put 0 (.int .i64 (IntKind.i64.wrap 2))).put 1 (.slice A7 pay.length c7)
           obtain ⟨e0, e1⟩ := cC2 hfin
           simp at e0 e1
           refine bodyPost_ret (v := .tuple #[.agg #[.int .i64 (IntKind.i64.wrap 2), .slice A7 pay.length c7], .int .i64 E4, .int .i64 0]) (by simp [results, Tryz.results129, go_sem, e0, e1]) rfl ?_
           rw [HF.out]
           refine ⟨A7, c7, rfl, ?_, ?_⟩
           ·refine (HROW7.out.keep_but (g := w.heap.size) (fun k _ hn => ?_) (fun i n => ?_)).more (by simp)
            ·exact (Below.heap_setCell _ ⟨w.heap.size, 1, none⟩ _ k (by simp only; exact hn)).trans (Below.heap_setCell _ ⟨w.heap.size, 0, none⟩ _ k (by simp only; exact hn))
            ·rw [HR7.out.cell i]
             match i with
             | 0 => simp
             | 1 => simp
             | i + 2 => simp
           ·exact ((HB3.out.trans (B7.out.mono (by omega))).setCell (p := ⟨w.heap.size, 0, none⟩) (Nat.le_refl _) _).setCell (p := ⟨w.heap.size, 1, none⟩) (Nat.le_refl _) _
        ·have HF := hid (HGF.out.trans (getBody_sum hgi (by omega) hsh hq))
         have hne : strOfNums ((ys.drop (sz + m)).take 4) ≠ strOfNums (le4 (sumX (k0 :: ys.take (sz + m)))) := fun h => hq (str_inj hb4 (le4_byte hsl) h)
         generalize strOfNums ((ys.drop (sz + m)).take 4) = s1 at hcutE hne
         generalize strOfNums (le4 (sumX (k0 :: ys.take (sz + m)))) = s2 at HF4 hne
         generalize strOfNums (k0 :: ys.take (sz + m)) = s3 at hcutB HS
         have hn3 : (s1.toList == s2.toList) = false := beq_eq_false_iff_ne.2 (fun h => hne (bytes_eq h))
         have hn1 : (s1 == s2) = false := by rw [beq_toListBytes]; exact hn3
         have hn2 : (s1 != s2) = true := by simp only [bne, hn1, Bool.not_false]
         clear HGF h4 her hgi HD4 hb4 hbb hsl hq hcutP hys hsh HBPAY hpayl
         rcases hk with rfl | rfl
         all_goals
          go_wp2_with fail
          refine (HG.out _).mono ?_
          rintro e w4 ⟨rfl, rfl⟩
          go_wp2_with fail
          go_region_held (fun _ => True) (trivial)
           (first
            | (go_at_call 170; refine (HS.out _).mono ?_; rintro e w5 ⟨rfl, rfl⟩)
            | (go_at_call 169; refine (HF4.out _).mono ?_; rintro e w6 ⟨rfl, hb6⟩))
          have b6 : Below w3.heap.size w3 w6 := ⟨hb6.os, hb6.tape, hb6.output, hb6.size, hb6.block⟩
          have hr6 := HR3.out.below b6 (by omega)
          have hn6 := HN3.out.below b6 (by omega)
          obtain ⟨g0, g1⟩ := cC2 hr6
          obtain ⟨g2, g3⟩ := cC2 hn6
          simp at g0 g1 g2 g3
          obtain ⟨g4, g5⟩ := cF2 hr6
          have HR6 := hid hr6
          have B6 := hid b6
          clear hb6 b6 hr6 hn6
          go_wp2_with fail
          have hfin := (HR6.out.put 0 (.int .i64 0)).put 1 (.slice none 0 0)
          obtain ⟨e0, e1⟩ := cC2 hfin
          simp at e0 e1
          exact bodyPost_ret (v := .tuple #[.agg #[.int .i64 0, .slice none 0 0], .int .i64 0, .int .i64 5]) (by simp [results, Tryz.results129, go_sem, e0, e1]) rfl (rf_none HF.out (HB3.out.trans (B6.out.mono (by omega))))
     ·have HF := hid (HGF.out.trans (getBody_err rfl her))
      have hne1 : ((getI ys).2.2 != 0) = true := bne_iff_ne.2 her
      have hne2 : ((getI ys).2.2 == 0) = false := beq_eq_false_iff_ne.2 her
      generalize (getI ys).2.2 = er at HG HF hne1 hne2
      clear HGF her HD4
      rcases hk with rfl | rfl
      all_goals
       go_wp2_with fail
       refine (HG.out _).mono ?_
       rintro e w4 ⟨rfl, rfl⟩
       go_wp2_with fail
       have hfin := ((show Held (w3.drewN n) w.heap.size 78 #[.int .i64 0, .slice none 0 0] from HR3.out).put 0 (.int .i64 0)).put 1 (.slice none 0 0)
       obtain ⟨e0, e1⟩ := cC2 hfin
       simp at e0 e1
       exact bodyPost_ret (v := .tuple #[.agg #[.int .i64 0, .slice none 0 0], .int .i64 0, .int .i64 er]) (by simp [results, Tryz.results129, go_sem, e0, e1]) rfl (rf_none HF.out (below_drewN HB3.out _))
    ·rw [if_neg hk] at hgf
     have HF := hid hgf
     have hne1 : (k0 != 1) = true := bne_iff_ne.2 (by omega)
     have hne2 : (k0 != 2) = true := bne_iff_ne.2 (by omega)
     have hne3 : (k0 == 1) = false := beq_eq_false_iff_ne.2 (by omega)
     have hne4 : (k0 == 2) = false := beq_eq_false_iff_ne.2 (by omega)
     clear hgf hk
     go_wp2_with fail
     have hfin := ((show Held (w3.drewN n) w.heap.size 78 #[.int .i64 0, .slice none 0 0] from HR3.out).put 0 (.int .i64 0)).put 1 (.slice none 0 0)
     obtain ⟨e0, e1⟩ := cC2 hfin
     simp at e0 e1
     exact bodyPost_ret (v := .tuple #[.agg #[.int .i64 0, .slice none 0 0], .int .i64 0, .int .i64 4]) (by simp [results, Tryz.results129, go_sem, e0, e1]) rfl (rf_none HF.out (below_drewN HB3.out _))
theorem segs_made (w : World) (n0 : Nat) (hn : n0 ≤ w.heap.size) : Segs (w.alloc (.cells #[] 80)) n0 (.slice (some ⟨w.heap.size, 0, none⟩) 0 0) [] := by
 refine ⟨World.ownsRow_made w #[] 0 hn (Nat.zero_le _) rfl, fun g hg i n => ?_, by simp⟩
 obtain rfl : w.heap.size = g := by simpa [Value.ownBlock] using hg
 rw [cell_of_row _ w.heap.size i #[] _ (0, 0) (heap_alloc_new w _)]
 simp
theorem snoc_cases {α : Type} (l : List α) : l = [] ∨ ∃ a b, l = a ++ [b] := by
 rcases List.eq_nil_or_concat l with h | ⟨a, b, h⟩
 ·exact .inl h
 ·exact .inr ⟨a, b, by simpa using h⟩
theorem Walked.last_n {xs : List Int} {out : List Sg} {g : Sg} {a : Nat} (h : Walked xs (out ++ [g]) a) (hl : g.isf = false) : g.n ≤ a := by
 rcases h with ⟨h, _⟩ | ⟨o, f, e, hf, hn, h⟩
 ·have := h _ _ rfl
  rw [hl] at this
  cases this
 ·obtain ⟨rfl, e2⟩ := List.append_inj' e rfl
  simp only [List.cons.injEq, and_true] at e2
  subst e2
  simp only [skipS]
  omega
theorem skip_one (a : Nat) : skipS a (a + 1) = ⟨a, 1, false, 0, []⟩ := by
 simp only [skipS, Sg.mk.injEq, and_true, true_and]
 omega
theorem rof_any (xs : List Int) (hl : xs.length ≤ 100000000000) (w : World) (hb : ∀ x ∈ xs, 0 ≤ x ∧ x < 256) :
  Calls Tryz.prog 77 #[.string (strOfNums xs)] w (Collected xs w) := by
 obtain ⟨i0, hi, hz0, hz1, hz2⟩ := info_parts Tryz.infoSeg
 have hsz := strOfNums_size xs
 have HG := hid (fun W k => rfget_any (xs.drop k) (by rw [List.length_drop]; omega) W (drop_bytes hb k))
 have HC := hid (fun k => (show (strOfNums xs).extract k xs.length = strOfNums (xs.drop k) by rw [str_cut, List.take_length]))
 have HX := hid hb
 clear hb
 obtain ⟨L, hL⟩ : ∃ L, xs.length = L := ⟨_, rfl⟩
 obtain ⟨S, hS⟩ : ∃ S, strOfNums xs = S := ⟨_, rfl⟩
 have HL := hid hL
 rw [hL] at hsz HC hl
 rw [hS] at hsz HC ⊢
 clear hL hS
 go_enter Tryz.func77, Tryz.ntmps77
 go_wp2_with fail
 have HS0 := hid (segs_made w w.heap.size (Nat.le_refl _))
 have HB0 := hid ((Below.refl w.heap.size w).alloc (Nat.le_refl _) (.cells #[] 80))
 go_loopw [3, 4] (fun v t wr => ∃ (ps : List Pt) (a : Nat), t = .int .i64 a ∧ a ≤ L ∧ ps.length ≤ a ∧ Hid (Walked xs (ps.map (·.s)) a) ∧ Hid (Segs wr w.heap.size v ps) ∧ Below w.heap.size w wr) (fun _ t _ => L - (intOf t).toNat)
 case atStart => exact ⟨[], 0, rfl, Nat.zero_le _, Nat.zero_le _, Walked.start xs, HS0.out, HB0.out⟩
 case round =>
  obtain ⟨ps, a, rfl, ha, hpl, HW, HSG, hbw⟩ := hrel
  clear HS0 HB0
  by_cases hal : a < L
  ·obtain ⟨A0, c0, rfl, hlc, hcm⟩ := HSG.out.form
   obtain ⟨n, hn⟩ : ∃ n, ps.length = n := ⟨_, rfl⟩
   have HN := hid hn
   have HPL := hid hpl
   rw [hn] at hlc HSG hpl ⊢
   clear hn
   go_wp2_with fail
   rw [HC.out]
   refine (HG.out _ a).mono ?_
   obtain ⟨⟨⟨kd, pl⟩, nn, er⟩, ht⟩ : ∃ t, getFr (xs.drop a) = t := ⟨_, rfl⟩
   rw [ht]
   have HT := hid ht
   clear ht
   rintro e w1 ⟨A1, c1, rfl, hr1, hb1⟩
   simp only at hr1 ⊢
   have hb2 := hb1.alloc hb1.size (.cells #[.int .i64 kd, .slice A1 pl.length c1] 78)
   by_cases he : er = 0
   ·subst he
    have hbg : Begins xs a := by unfold Begins; rw [HT.out]
    obtain ⟨h9, hin, _⟩ := begins_in HX.out hbg
    rw [HT.out, HL.out] at hin
    rw [HT.out] at h9
    simp only at hin h9
    have hcells : ∀ (j : Nat) (u : Value), (Pt.cells ⟨⟨a, nn, true, kd, pl⟩, A1, c1⟩)[j]? = some u → ((w1.alloc (.cells #[.int .i64 kd, .slice A1 pl.length c1] 78)).alloc (.cells #[.int .i64 a, .int .i64 nn, .bool true, .int .i64 kd, .slice A1 pl.length c1] 80)).cell? ((⟨w1.heap.size + 1, 0, none⟩ : Addr).add j) = some u := by
     intro j u hj
     have hz : (w1.alloc (.cells #[.int .i64 kd, .slice A1 pl.length c1] 78)).heap.size = w1.heap.size + 1 := World.size_alloc _ _
     rw [Go.WideShapes.add_plain, Nat.zero_add, cell_of_row _ (w1.heap.size + 1) j #[.int .i64 a, .int .i64 nn, .bool true, .int .i64 kd, .slice A1 pl.length c1] _ (0, 0) (by rw [← hz]; exact heap_alloc_new _ _)]
     simpa [Pt.cells] using hj
    have HCELLS := hid hcells
    have HB3 := hid (hb2.alloc hb2.size (.cells #[.int .i64 a, .int .i64 nn, .bool true, .int .i64 kd, .slice A1 pl.length c1] 80))
    have HS3 := hid (HSG.out.below HB3.out)
    have HRD := hid (show Pt.Reads ((w1.alloc (.cells #[.int .i64 kd, .slice A1 pl.length c1] 78)).alloc (.cells #[.int .i64 a, .int .i64 nn, .bool true, .int .i64 kd, .slice A1 pl.length c1] 80)) ((w1.alloc (.cells #[.int .i64 kd, .slice A1 pl.length c1] 78)).alloc (.cells #[.int .i64 a, .int .i64 nn, .bool true, .int .i64 kd, .slice A1 pl.length c1] 80)).heap.size ⟨⟨a, nn, true, kd, pl⟩, A1, c1⟩ from (hr1.below ((((Below.refl w1.heap.size w1).alloc (Nat.le_refl _) _).alloc (by simp) _))).more (by simp; omega))
    have HBA := hid (hbw.trans (HB3.out.mono hbw.size))
    have hle : w.heap.size ≤ w1.heap.size := Nat.le_trans hbw.size hb1.size
    have HWK := hid (show Walked xs (ps.map (·.s) ++ [⟨a, nn, true, kd, pl⟩]) (a + nn) from by have := HW.out.fr (by rw [HL.out]; exact hal) hbg; unfold frS at this; rw [HT.out] at this; exact this)
    clear hb1 hb2 hr1 hcells hbw HSG HW
    go_wp2_with (at_builtin; refine wpList_append_seg rfl _ _ 76 rfl i0 _ Tryz.underlying76 hi hz0 hz1 (by omega) rfl w.heap.size _ ps rfl HS3.out _ _ ⟨⟨a, nn, true, kd, pl⟩, A1, c1⟩ rfl HCELLS.out HRD.out (by have := HPL.out; omega) HBA.out.size ?_; intro v' w4 hs4 hgr; have HS4 := hid hs4; have HGR := hid hgr; clear hs4 hgr)
    go_roundw
    case rel => exact ⟨ps ++ [⟨⟨a, nn, true, kd, pl⟩, A1, c1⟩], a + nn, by go_num, by omega, by have := HPL.out; (try simp) <;> omega, by rw [map_snoc]; exact HWK.out, HS4, HBA.out.grown HGR.out (by simp; omega) (fun k e => (HS3.out.1.lt k e).1)⟩
    case measure => simp [intOf]; omega
   ·have heq : (er == 0) = false := by simpa using he
    have hbg : ¬ Begins xs a := by unfold Begins; rw [HT.out]; exact he
    rcases snoc_cases ps with rfl | ⟨pre, g, rfl⟩
    ·obtain rfl : n = 0 := by have := HN.out; simpa using this.symm
     have hwk := HW.out.one (by simp) hbg
     rw [skip_one] at hwk
     have hc00 : (0 : Int) - 1 = -1 := rfl
     have hcells : ∀ (j : Nat) (u : Value), (Pt.cells ⟨⟨a, 1, false, 0, []⟩, none, 0⟩)[j]? = some u → ((w1.alloc (.cells #[.int .i64 kd, .slice A1 pl.length c1] 78)).alloc (.cells #[.int .i64 a, .int .i64 1, .bool false, .int .i64 0, .slice none 0 0] 80)).cell? ((⟨w1.heap.size + 1, 0, none⟩ : Addr).add j) = some u := by
      intro j u hj
      have hz : (w1.alloc (.cells #[.int .i64 kd, .slice A1 pl.length c1] 78)).heap.size = w1.heap.size + 1 := World.size_alloc _ _
      rw [Go.WideShapes.add_plain, Nat.zero_add, cell_of_row _ (w1.heap.size + 1) j #[.int .i64 a, .int .i64 1, .bool false, .int .i64 0, .slice none 0 0] _ (0, 0) (by rw [← hz]; exact heap_alloc_new _ _)]
      simpa [Pt.cells] using hj
     have HCELLS := hid hcells
     have HB3 := hid (hb2.alloc hb2.size (.cells #[.int .i64 a, .int .i64 1, .bool false, .int .i64 0, .slice none 0 0] 80))
     have HS3 := hid (HSG.out.below HB3.out)
     have HRD := hid (show Pt.Reads ((w1.alloc (.cells #[.int .i64 kd, .slice A1 pl.length c1] 78)).alloc (.cells #[.int .i64 a, .int .i64 1, .bool false, .int .i64 0, .slice none 0 0] 80)) ((w1.alloc (.cells #[.int .i64 kd, .slice A1 pl.length c1] 78)).alloc (.cells #[.int .i64 a, .int .i64 1, .bool false, .int .i64 0, .slice none 0 0] 80)).heap.size ⟨⟨a, 1, false, 0, []⟩, none, 0⟩ from Row.nil _ _)
     have HBA := hid (hbw.trans (HB3.out.mono hbw.size))
     have hle : w.heap.size ≤ w1.heap.size := Nat.le_trans hbw.size hb1.size
     have HWK := hid (hwk)
     clear hb1 hb2 hr1 hcells hbw HSG HW
     go_wp2_with (at_builtin; refine wpList_append_seg rfl _ _ 76 rfl i0 _ Tryz.underlying76 hi hz0 hz1 (by omega) rfl w.heap.size _ [] rfl HS3.out _ _ ⟨⟨a, 1, false, 0, []⟩, none, 0⟩ rfl HCELLS.out HRD.out (by have := HPL.out; omega) HBA.out.size ?_; intro v' w4 hs4 hgr; have HS4 := hid hs4; have HGR := hid hgr; clear hs4 hgr)
     go_roundw
     case rel => exact ⟨[] ++ [⟨⟨a, 1, false, 0, []⟩, none, 0⟩], a + 1, by go_num, by omega, by have := HPL.out; (try simp) <;> omega, by rw [map_snoc]; exact HWK.out, HS4, HBA.out.grown HGR.out (by simp; omega) (fun k e => (HS3.out.1.lt k e).1)⟩
     case measure => simp [intOf]; omega
    ·obtain rfl : n = pre.length + 1 := by have := HN.out; simp at this; omega
     obtain ⟨g0, rfl⟩ : ∃ g0, A0 = some ⟨g0, 0, none⟩ := by
      rcases HSG.out.1.2 with ⟨h1, h2⟩ | ⟨g0, cap, cur, h1, _⟩
      ·simp at h2
      ·injection h1 with h1
       exact ⟨g0, h1⟩
     have hgi : (pre ++ [g])[pre.length]? = some g := by simp
     have hg0 : g0 < wr.heap.size := (HSG.out.1.lt g0 rfl).2
     have hgb : w.heap.size ≤ g0 := (HSG.out.1.lt g0 rfl).1
     have HS2 := hid (HSG.out.below hb2)
     have hsl : (pre ++ [g]).length = pre.length + 1 := by simp
     have cat : ∀ (j : Nat) (u : Value), g.cells[j]? = some u → j < 5 → (w1.alloc (.cells #[.int .i64 kd, .slice A1 pl.length c1] 78)).cell? ⟨g0, pre.length * 5 + j, none⟩ = some u := fun j u hj hj5 => by
      have h := HS2.out.1
      rw [hsl] at h
      rw [h.cellAt _ (by omega)]
      exact flatS_at _ _ g hgi j u hj
     have k1 := cat 1 _ rfl (by omega)
     have k2 := cat 2 _ rfl (by omega)
     have kf : (w1.alloc (.cells #[.int .i64 kd, .slice A1 pl.length c1] 78)).frozen? ⟨g0, pre.length * 5 + 1, none⟩ = false := by
      have h := HS2.out.1
      rw [hsl] at h
      exact h.frozenAt _
     clear cat
     have hpl0 : (0 : Int) ≤ pre.length := by omega
     rcases Bool.eq_false_or_eq_true g.s.isf with hf | hf
     ·rw [hf] at k2
      have hwk := HW.out.one (fun o g' e => by
       rw [List.map_append] at e
       have e2 := (List.append_inj' e rfl).2
       simp only [List.map_cons, List.map_nil, List.cons.injEq, and_true] at e2
       rw [← e2]
       exact hf) hbg
      rw [skip_one] at hwk
      have hcells : ∀ (j : Nat) (u : Value), (Pt.cells ⟨⟨a, 1, false, 0, []⟩, none, 0⟩)[j]? = some u → ((w1.alloc (.cells #[.int .i64 kd, .slice A1 pl.length c1] 78)).alloc (.cells #[.int .i64 a, .int .i64 1, .bool false, .int .i64 0, .slice none 0 0] 80)).cell? ((⟨w1.heap.size + 1, 0, none⟩ : Addr).add j) = some u := by
       intro j u hj
       have hz : (w1.alloc (.cells #[.int .i64 kd, .slice A1 pl.length c1] 78)).heap.size = w1.heap.size + 1 := World.size_alloc _ _
       rw [Go.WideShapes.add_plain, Nat.zero_add, cell_of_row _ (w1.heap.size + 1) j #[.int .i64 a, .int .i64 1, .bool false, .int .i64 0, .slice none 0 0] _ (0, 0) (by rw [← hz]; exact heap_alloc_new _ _)]
       simpa [Pt.cells] using hj
      have HCELLS := hid hcells
      have HB3 := hid (hb2.alloc hb2.size (.cells #[.int .i64 a, .int .i64 1, .bool false, .int .i64 0, .slice none 0 0] 80))
      have HS3 := hid (HSG.out.below HB3.out)
      have HRD := hid (show Pt.Reads ((w1.alloc (.cells #[.int .i64 kd, .slice A1 pl.length c1] 78)).alloc (.cells #[.int .i64 a, .int .i64 1, .bool false, .int .i64 0, .slice none 0 0] 80)) ((w1.alloc (.cells #[.int .i64 kd, .slice A1 pl.length c1] 78)).alloc (.cells #[.int .i64 a, .int .i64 1, .bool false, .int .i64 0, .slice none 0 0] 80)).heap.size ⟨⟨a, 1, false, 0, []⟩, none, 0⟩ from Row.nil _ _)
      have HBA := hid (hbw.trans (HB3.out.mono hbw.size))
      have hle : w.heap.size ≤ w1.heap.size := Nat.le_trans hbw.size hb1.size
      have HWK := hid (hwk)
      clear HS2 hb1 hb2 hr1 hcells hbw HSG HW
      go_wp2_with (at_builtin; refine wpList_append_seg rfl _ _ 76 rfl i0 _ Tryz.underlying76 hi hz0 hz1 (by omega) rfl w.heap.size _ (pre ++ [g]) rfl HS3.out _ _ ⟨⟨a, 1, false, 0, []⟩, none, 0⟩ rfl HCELLS.out HRD.out (by have := HPL.out; omega) HBA.out.size ?_; intro v' w4 hs4 hgr; have HS4 := hid hs4; have HGR := hid hgr; clear hs4 hgr)
      go_roundw
      case rel => exact ⟨(pre ++ [g]) ++ [⟨⟨a, 1, false, 0, []⟩, none, 0⟩], a + 1, by go_num, by omega, by have := HPL.out; (try simp) <;> omega, by rw [map_snoc]; exact HWK.out, HS4, HBA.out.grown HGR.out (by simp; omega) (fun k e => (HS3.out.1.lt k e).1)⟩
      case measure => simp [intOf]; omega
     ·rw [hf] at k2
      have hwk := Walked.more (xs := xs) (out := pre.map (·.s)) (g := g.s) (by have := HW.out; rwa [map_snoc] at this) hf hbg
      have hst := Segs.store (i := pre.length) (p := g) (q := ⟨{ g.s with n := g.s.n + 1 }, g.A, g.c⟩) (by have := HS2.out; rw [← hsl] at this; exact this) hgi 1 (by omega) (.int .i64 ((g.s.n : Int) + 1)) rfl rfl rfl rfl (by simp)
      have hset : (pre ++ [g]).set pre.length ⟨{ g.s with n := g.s.n + 1 }, g.A, g.c⟩ = pre ++ [⟨{ g.s with n := g.s.n + 1 }, g.A, g.c⟩] := by simp
      rw [hset, hsl] at hst
      have HWK := hid hwk
      have HST := hid hst
      have HBA := hid ((hbw.trans (hb2.mono hbw.size)).setCell (p := ⟨g0, pre.length * 5 + 1, none⟩) hgb (.int .i64 ((g.s.n : Int) + 1)))
      have hgn0 : (0 : Int) ≤ g.s.n := by omega
      have hgn1 : (g.s.n : Int) ≤ 100000000000 := by
       have := Walked.last_n (xs := xs) (out := pre.map (·.s)) (g := g.s) (by have := HW.out; rwa [map_snoc] at this) hf
       omega
      clear hwk hst hset hb1 hb2 hr1 hbw HSG HW HS2
      go_wp2_with fail
      go_roundw
      case rel => exact ⟨pre ++ [⟨{ g.s with n := g.s.n + 1 }, g.A, g.c⟩], a + 1, by go_num, by omega, by have := HPL.out; (try simp) <;> simp at this <;> omega, by rw [map_snoc]; exact HWK.out, HST, HBA.out⟩
      case measure => simp [intOf]; omega
  ·obtain rfl : a = L := by omega
   go_wp2_with fail
   go_ret
   exact ⟨_, ps, rfl, by have := HW.out; rw [← HL.out] at this; exact this.done, HSG.out, hbw⟩
open Go.RowKit Go.ChangeShapes Go.WideShapes
set_option linter.unusedVariables false
def sgJ (s : Sg) : Sj := ⟨s.frm, s.n, s.isf, s.kind, s.pay⟩
def toJ (p : Pt) : Jm := ⟨sgJ p.s, p.A, p.c⟩
theorem flatS5_pt : ∀ l : List Pt, flatS5 (l.map toJ) = flatS l
 | [] => rfl
 | p :: l => by
  rw [List.map_cons, flatS5, flatS5_pt l]
  rfl
theorem parts_pay {xs : List Int} (hx : ∀ x ∈ xs, 0 ≤ x ∧ x < 256) {a : Nat} {l : List Sg} (h : PartsS xs a l) : ∀ s ∈ l, s.pay.length ≤ 4096 ∧ ∀ y ∈ s.pay, 0 ≤ y ∧ y < 256 := by
 induction h with
 | stop a h => simp
 | rest a h hn =>
  intro s hs
  obtain rfl := List.mem_singleton.1 hs
  exact ⟨Nat.zero_le _, by simp [skipS]⟩
 | fr a l h hb hl ih =>
  intro s hs
  rcases List.mem_cons.1 hs with rfl | hs
  ·obtain ⟨_, _, _, h4, h5, _⟩ := begins_in hx hb
   exact ⟨h4, h5⟩
  ·exact ih s hs
 | gap a r l ha h hn hb hl ih =>
  intro s hs
  rcases List.mem_cons.1 hs with rfl | hs
  ·exact ⟨Nat.zero_le _, by simp [skipS]⟩
  ·rcases List.mem_cons.1 hs with rfl | hs
   ·obtain ⟨_, _, _, h4, h5, _⟩ := begins_in hx hb
    exact ⟨h4, h5⟩
   ·exact ih s hs
theorem jrow_of {w : World} {n0 : Nat} {v : Value} {xs : List Int} {ps : List Pt} (hx : ∀ x ∈ xs, 0 ≤ x ∧ x < 256) (hl : xs.length ≤ 100000) (hp : PartsS xs 0 (ps.map (·.s))) (h : Segs w n0 v ps) : JRow w w.heap.size v (ps.map toJ) := by
 have hle := hp.le hx
 have hpay := parts_pay hx hp
 refine ⟨by rw [List.length_map, flatS5_pt]; exact ERow.of_own h.1, fun x hxm => ?_⟩
 obtain ⟨p, hpm, rfl⟩ := List.mem_map.1 hxm
 have h1 := hle.2.2 p.s (List.mem_map_of_mem hpm)
 have h2 := hpay p.s (List.mem_map_of_mem hpm)
 exact ⟨h.2.2 p hpm, h2.2, by show p.s.pay.length ≤ _; omega, by show (-1099511627776 : Int) ≤ (p.s.n : Int); omega, by show (p.s.n : Int) ≤ 1099511627776; omega⟩
def ofG (xs : List Int) (g : Gp) : Prop := ∃ l, PartsS xs 0 l ∧ g = takeL noG (l.map sgJ)
theorem noG_in (S : Nat → Prop) (w : World) : GIn S w noG none 0 [] none 0 [] none 0 := fun W' _ => ⟨PredRow.nil _ _, rfl, ⟨ERow.nil _ _, by simp⟩, rfl, ERow.nil _ _⟩
section
variable {w : World} {R : Nat} {a b c d e f : Value} {T : Array Value}
theorem res_of (h : T[2]?.getD undef = .pointer (some ⟨R, 0, none⟩)) (hz : Held w R 66 #[a, b, c, d, e, f]) :
  (results Tryz.f30 T).run Tryz.prog w = .ok (.agg #[a, b, c, d, e, f]) w := by
 obtain ⟨z0, z1, z2, z3, z4, z5⟩ := cC6 hz
 simp at z0 z1 z2 z3 z4 z5
 simp [results, Tryz.results30, go_sem, h, z0, z1, z2, z3, z4, z5]
end
theorem rgof_any (xs : List Int) (hb : ∀ x ∈ xs, 0 ≤ x ∧ x < 256) (hl : xs.length ≤ 100000) (w : World) (S : Nat → Prop) (hS : ∀ j, w.heap.size ≤ j → ¬ S j) :
  Calls Tryz.prog 30 #[.string (strOfNums xs)] w fun e W' => ∃ g, ofG xs g ∧ TGot S w g e W' := by
 obtain ⟨N, hN⟩ : ∃ N, w.heap.size = N := ⟨_, rfl⟩
 obtain ⟨u0, hu0⟩ : ∃ u, w.alloc (.cells #[.slice none 0 0, .slice none 0 0, .int .i64 0, .int .i64 0, .slice none 0 0, .bool false] 66) = u := ⟨_, rfl⟩
 have s0 : u0.heap.size = N + 1 := by rw [← hu0, World.size_alloc, hN]
 have b0 : Below N w u0 := by rw [← hu0]; exact (Below.refl _ _).alloc (by omega) _
 have h0 : Held u0 N 66 #[.slice none 0 0, .slice none 0 0, .int .i64 0, .int .i64 0, .slice none 0 0, .bool false] := by rw [← hu0, ← hN]; exact heap_alloc_new w _
 have HOF := hid (rof_any xs (by omega) u0 hb)
 have H0 := hid h0
 have HB0 := hid b0
 have HXB := hid hb
 have HN := hid hN
 rw [hN] at hS
 clear h0 b0 hb
 go_enter Tryz.func30, Tryz.ntmps30
 go_wp2_with fail
 refine HOF.out.mono ?_
 rintro e w1 ⟨v, ps, rfl, hparts, hsegs, hb1⟩
 have hj := jrow_of HXB.out hl hparts hsegs
 have hz1 := hb1.size
 have hle := (hparts.le HXB.out).1
 rw [List.length_map] at hle
 obtain ⟨A1, c1, rfl⟩ := own_form hsegs.1
 have HTK := hid (rgtake_any noG none 0 [] none 0 [] none 0 A1 c1 (ps.map toJ) w1 (fun i => i = N ∨ S i) (noG_in _ _) (fun j hj e => by
  rcases e with e | e
  ·omega
  ·exact hS j (by omega) e) (by rw [List.length_map]; exact hj) (by rw [List.length_map]; omega) ⟨by simp [noG], by simp [noG], by simp [noG], by simp [noG]⟩)
 rw [List.length_map, List.map_map] at HTK
 have HPP := hid hparts
 have H01 := hid (H0.out.below hb1 H0.out.lt)
 have HB1 := hid (HB0.out.trans (hb1.mono (by omega)))
 clear hj hparts hsegs hb1
 go_wp2_with fail
 refine HTK.out.mono ?_
 rintro e w2 ⟨SA, Sc, es, PA, Pc, qs, RA, Rc, rfl, hg2, hb2⟩
 have h2 := H01.out.below hb2 H01.out.lt
 have hz2 := hb2.size
 have HG2 := hid hg2
 have HB2 := hid (HB1.out.trans (hb2.mono (by omega)))
 have H2 := hid h2
 obtain ⟨⟨f0, f1, f2, f3, f4, f5⟩, z0, z1, z2, z3, z4, z5⟩ := cG6 h2
 simp at z0 z1 z2 z3 z4 z5
 clear h2 hg2 hb2
 go_wp2_with fail
 refine bodyPost_ret (v := GV (takeL noG (ps.map ((·.s) ∘ toJ))) SA Sc es PA Pc qs RA Rc) ?_ rfl ?_
 ·exact res_of (R := N) (by simp only [pV]) (held_put6 H2.out _ _ _ _ _ _)
 ·refine ⟨_, ⟨_, HPP.out, rfl⟩, SA, Sc, es, PA, Pc, qs, RA, Rc, by rw [List.map_map]; rfl, ?_, ?_⟩
  ·rw [List.map_map]
   exact fun W' hp => HG2.out W' ((part_put6 w2 N (Or.inl rfl) _ _ _ _ _ _).trans (hp.mono (fun i h => Or.inr h)))
  ·rw [HN.out]
   exact HB2.out.grown (grown_put6 w2 N _ _ _ _ _ _) (by have := H2.out.lt; omega) (fun j e => by injection e with e; omega)
section
open Go.RowKit Go.Shelf
attribute [local go_sem] Oper.semAt_some
def PtOk (xs : List Int) (p : Pt) (w : World) : Prop := p.Reads w w.heap.size ∧ p.s.frm + p.s.n ≤ xs.length
def KeepsB (n₀ Bn m : Nat) (w w' : World) : Prop := Below n₀ w w' ∧ w'.heap[Bn]? = w.heap[Bn]? ∧ ∀ k, m ≤ k → k < w.heap.size → w'.heap[k]? = w.heap[k]?
theorem KeepsB.trans {n₀ Bn m : Nat} {a b c : World} (h : KeepsB n₀ Bn m a b) (k : KeepsB n₀ Bn m b c) : KeepsB n₀ Bn m a c :=
 ⟨h.1.trans k.1, k.2.1.trans h.2.1, fun i h1 h2 => (k.2.2 i h1 (Nat.lt_of_lt_of_le h2 h.1.size)).trans (h.2.2 i h1 h2)⟩
theorem KeepsB.turn {n₀ Bn : Nat} {w : World} (hn : n₀ ≤ w.heap.size) (hB : Bn < w.heap.size) (m : Nat) (W : World) (l : Nat) (o o' : Obj) (hl : w.heap.size ≤ l) (hm : l < m) (h : W.heap[l]? = some o) (_ : o.isCells = false) : KeepsB n₀ Bn m W (W.putObj l o') :=
 ⟨(Below.refl n₀ W).grown (grownBy_putObj' W l o') (by have := (Array.getElem?_eq_some_iff.1 h).1; omega) (fun k e => by cases e; omega), World.putObj_heap_other (by omega), fun k h1 _ => World.putObj_heap_other (by omega)⟩
theorem step_next {xs : List Int} {a : Nat} (h : nextI false xs a = -1) : max (nextI false xs a) 0 = 0 ∧ decide (0 ≤ nextI false xs a) = false := by rw [h]; exact ⟨rfl, rfl⟩
theorem step_found {xs : List Int} {a r : Nat} (h : nextI false xs a = (r : Int)) : max (nextI false xs a) 0 = (r : Int) ∧ decide (0 ≤ nextI false xs a) = true := by
 rw [h]
 exact ⟨by omega, by simp⟩
theorem parts1_in (n : Nat) (hn : 1 ≤ n) (l Bn n₀ : Nat) (A : Option Addr) (c : Nat) (xs : List Int) (hsm : xs.length ≤ 1000000000000) (hbx : ∀ x ∈ xs, 0 ≤ x ∧ x < 256) (J : List Pt → World → Prop) (W : World)
  (hY : ∀ pre x W0 W1, J pre W0 → Below W0.heap.size W0 W1 → PtOk xs x W1 → pre.length < xs.length → YieldAt Fence.wide (n - 1) Tryz.prog l #[x.val] W1 fun e W' => e = .returned (.bool true) ∧ J (pre ++ [x]) W' ∧ KeepsB n₀ Bn W0.heap.size W1 W')
  (hBn : W.cell? ⟨Bn, 0, none⟩ = some (.slice A xs.length c)) (hlt : Bn < W.heap.size) (hn0 : n₀ ≤ W.heap.size) (hrow : Row W n₀ (.slice A xs.length c) xs) (h0 : J [] W) :
  CallsIn Fence.wide n Tryz.prog 134 #[.func (.yield l) #[] #[], .pointer (some ⟨Bn, 0, none⟩)] W fun e W' => (∃ v, e = .returned v) ∧ ∃ (ys : List Pt) (W0 : World), PartsS xs 0 (ys.map (·.s)) ∧ J ys W0 ∧ Below W0.heap.size W0 W' := by
 refine callsIn_of_wp Tryz.func134 rfl trivial ?_ rfl
 simp only [Tryz.ntmps134, List.size_toArray, List.length_cons, List.length_nil, Nat.reduceAdd, Nat.reduceSub, Array.replicate_succ, Array.replicate_zero, List.push_toArray, List.append_toArray, List.nil_append, List.cons_append]
 have HROW := hid hrow
 have HX := hid hbx
 have HY := hid hY
 have NX := hid (fun W1 (h : Row W1 W1.heap.size (.slice A xs.length c) xs) (a : Nat) (ha : a ≤ xs.length) => next_any A c xs (by omega) W1 h hbx a (by omega) (by omega))
 have FP := hid (fun W1 (h : Row W1 W1.heap.size (.slice A xs.length c) xs) (a : Nat) (ha : a ≤ xs.length) => framePart_any A c xs (by omega) W1 h hbx a ha)
 have HBN := hid hBn
 clear hrow hbx hY
 gi_wp2_with (refine ⟨trivial, ?_⟩; gi_at_call 135; refine (callsIn_wide.2 (NX.out _ (HROW.out.more hn0) 0 (Nat.zero_le _))).mono ?_; rintro e w1 ⟨rfl, hb1⟩)
 clear hBn
 have HN := hid (next_ways xs)
 gi_loopw [3, 4, 5] (fun f t d wr => ∃ (pre : List Pt) (a : Nat) (W0 : World), f = .int .i64 a ∧ t = .int .i64 (max (nextI false xs a) 0) ∧ d = .bool (decide (0 ≤ nextI false xs a)) ∧ a ≤ xs.length ∧ pre.length ≤ a ∧
   Hid (Ahead xs (pre.map (·.s)) a) ∧ J pre W0 ∧ Below W0.heap.size W0 wr ∧ Hid (Below n₀ W wr ∧ wr.heap[Bn]? = W.heap[Bn]?))
  (fun f _ _ _ => xs.length - (intOf f).toNat)
 case atStart =>
  exact ⟨[], 0, W, rfl, rfl, rfl, Nat.zero_le _, Nat.zero_le _, Ahead.start xs, h0, hb1, hb1.mono hn0, hb1.block _ hlt⟩
 case round =>
  clear hb1 h0
  obtain ⟨pre, a, W0, rfl, rfl, rfl, ha, hpl, HA, hJs, hk0, HK⟩ := hrel
  have hcb : wr.cell? ⟨Bn, 0, none⟩ = some (.slice A xs.length c) := (World.cell?_of_block HK.out.2).trans HBN.out
  have hnr : n₀ ≤ wr.heap.size := Nat.le_trans hn0 HK.out.1.size
  have HR := hid ((HROW.out.below HK.out.1).more hnr)
  rcases HN.out a with hno | ⟨r, hr⟩
  ·obtain ⟨e1, e2⟩ := step_next hno
   have hnn := next_no (show nextI false xs a < 0 by omega)
   have HNN := hid hnn
   rw [e1, e2]
   clear e1 e2 hno hnn
   by_cases hal : a < xs.length
   ·gi_wp2_with (refine ⟨trivial, ?_⟩; gi_at_call 136; refine (callsIn_wide.2 (skipped_any a xs.length ha (by omega) _)).mono ?_; rintro e w1 ⟨rfl, hb1⟩
                 obtain ⟨fn, tmps, assign, body, hy, hR⟩ := HY.out pre ⟨skipS a xs.length, none, 0⟩ W0 w1 hJs (hk0.trans (hb1.mono hk0.size)) ⟨Row.nil _ _, by simp only [skipS]; omega⟩ (by omega); dsimp only [Pt.val, skipS, List.length_nil] at hy)
    refine hR.mono ?_
    rintro e W3 ⟨rfl, hJ3, hk3⟩
    gi_wp2
    go_end0
    exact ⟨⟨_, rfl⟩, pre ++ [⟨skipS a xs.length, none, 0⟩], W3, by rw [map_snoc]; exact HA.out.last hal HNN.out, hJ3, Below.refl _ _⟩
   ·have hal' : ¬ a < xs.length := hal
    gi_wp2
    go_end0
    exact ⟨⟨_, rfl⟩, pre, W0, HA.out.done (by omega), hJs, hk0⟩
  ·obtain ⟨e1, e2⟩ := step_found hr
   obtain ⟨har, hrl, hbg, hnb⟩ := next_some hr
   have HBG := hid hbg
   have HNB := hid hnb
   obtain ⟨h9, hin, _⟩ := begins_in HX.out hbg
   have HFR := hid (fun p : List Pt => HA.out)
   rw [e1, e2]
   clear e1 e2 hr hbg hnb HFR
   obtain ⟨t, ht⟩ : ∃ t, getFr (xs.drop r) = t := ⟨_, rfl⟩
   have HT := hid ht
   rw [ht] at h9 hin
   clear ht
   have FR := hid (fun W1 (h : Row W1 W1.heap.size (.slice A xs.length c) xs) => FP.out W1 h r (by omega))
   rw [HT.out] at FR
   -- how a round ends behind what has been skipped
   by_cases hgt : a < r
   ·gi_wp2_with (refine ⟨trivial, ?_⟩; gi_at_call 136; refine (callsIn_wide.2 (skipped_any a r har (by omega) _)).mono ?_; rintro e w1 ⟨rfl, hb1⟩
                 obtain ⟨fn, tmps, assign, body, hy, hR⟩ := HY.out pre ⟨skipS a r, none, 0⟩ W0 w1 hJs (hk0.trans (hb1.mono hk0.size)) ⟨Row.nil _ _, by simp only [skipS]; omega⟩ (by omega); dsimp only [Pt.val, skipS, List.length_nil] at hy)
    refine hR.mono ?_
    rintro e W3 ⟨rfl, hJ3, hk3⟩
    have HK3 : Hid (Below n₀ W W3 ∧ W3.heap[Bn]? = W.heap[Bn]?) := hid ⟨(HK.out.1.trans (hb1.mono hnr)).trans hk3.1, hk3.2.1.trans ((hb1.block Bn (Nat.lt_of_lt_of_le hlt HK.out.1.size)).trans HK.out.2)⟩
    clear hk3 hb1 hcb HR hnr hy hR hk0 HK
    have hcb : W3.cell? ⟨Bn, 0, none⟩ = some (.slice A xs.length c) := (World.cell?_of_block HK3.out.2).trans HBN.out
    have HR := hid ((HROW.out.below HK3.out.1).more (Nat.le_trans hn0 HK3.out.1.size))
    have hl3 : (pre ++ [(⟨skipS a r, none, 0⟩ : Pt)]).length < xs.length := by simp; omega
    have hnr : n₀ ≤ W3.heap.size := Nat.le_trans hn0 HK3.out.1.size
    have hltc : Bn < W3.heap.size := Nat.lt_of_lt_of_le hlt HK3.out.1.size
    gi_wp2_with fail
    refine ⟨trivial, ?_⟩
    refine (callsIn_wide.2 (FR.out _ HR.out)).mono ?_
    rintro e w4 ⟨A1, c1, rfl, hrow4, hb4⟩
    have hb5 := hb4.alloc (Nat.le_trans (Nat.le_refl _) hb4.size) (.cells #[.int .i64 r, .int .i64 t.2.1, .bool true, .int .i64 t.1.1, .slice A1 t.1.2.length c1] 80)
    have hrow5 := (hrow4.below ((Below.refl _ _).alloc (Nat.le_refl _) (.cells #[.int .i64 r, .int .i64 t.2.1, .bool true, .int .i64 t.1.1, .slice A1 t.1.2.length c1] 80))).more (Nat.le_of_lt (by simp : w4.heap.size < (w4.alloc (.cells #[.int .i64 r, .int .i64 t.2.1, .bool true, .int .i64 t.1.1, .slice A1 t.1.2.length c1] 80)).heap.size))
    obtain ⟨fn2, tmps2, assign2, body2, hy2, hR2⟩ := HY.out (pre ++ [(⟨skipS a r, none, 0⟩ : Pt)]) ⟨⟨r, t.2.1, true, t.1.1, t.1.2⟩, A1, c1⟩ W3 _ hJ3 ((Below.refl W3.heap.size W3).trans (hb5.mono (Below.refl W3.heap.size W3).size)) ⟨hrow5, hin⟩ hl3
    dsimp only [Pt.val] at hy2
    gi_wp2_with fail
    refine hR2.mono ?_
    rintro e W6 ⟨rfl, hJ6, hk6⟩
    have hz4 : W3.heap.size ≤ w4.heap.size := Nat.le_trans (Below.refl W3.heap.size W3).size hb4.size
    have hpart : Held W6 w4.heap.size 80 #[.int .i64 r, .int .i64 t.2.1, .bool true, .int .i64 t.1.1, .slice A1 t.1.2.length c1] := (hk6.2.2 w4.heap.size hz4 (by simp)).trans (heap_alloc_new w4 _)
    have hp1 := hpart.cell 1
    simp at hp1
    have HK6 : Hid (Below n₀ W W6 ∧ W6.heap[Bn]? = W.heap[Bn]?) := hid ⟨(HK3.out.1.trans (hb5.mono hnr)).trans hk6.1, hk6.2.1.trans ((hb5.block Bn hltc).trans HK3.out.2)⟩
    have HJ6 := hid hJ6
    clear hk6 hb5 hb4 hrow4 hrow5 hcb HR hy2 hR2 hpart hJ6
    have hcb : W6.cell? ⟨Bn, 0, none⟩ = some (.slice A xs.length c) := (World.cell?_of_block HK6.out.2).trans HBN.out
    have hn6 : n₀ ≤ W6.heap.size := Nat.le_trans hn0 HK6.out.1.size
    have HR6 := hid ((HROW.out.below HK6.out.1).more hn6)
    obtain ⟨b, hb⟩ : ∃ b : Nat, r + t.2.1 = b := ⟨_, rfl⟩
    have hbi : (r : Int) + t.2.1 = b := by omega
    have hbl : b ≤ xs.length := by omega
    have hbr : r + 9 ≤ b := by omega
    have HB := hid hb
    clear hb hin
    gi_wp2_with (refine ⟨trivial, ?_⟩; gi_at_call 135; refine (callsIn_wide.2 (NX.out _ HR6.out b hbl)).mono ?_; rintro e w7 ⟨rfl, hb7⟩)
    go_roundw
    case rel =>
     refine ⟨(pre ++ [(⟨skipS a r, none, 0⟩ : Pt)]) ++ [(⟨⟨r, t.2.1, true, t.1.1, t.1.2⟩, A1, c1⟩ : Pt)], b, W6, by simp, rfl, rfl, hbl, by simp; omega, ?_, HJ6.out, hb7, HK6.out.1.trans (hb7.mono hn6), (hb7.block Bn (Nat.lt_of_lt_of_le hlt HK6.out.1.size)).trans HK6.out.2⟩
     have e1 : frS xs r = ⟨r, t.2.1, true, t.1.1, t.1.2⟩ := by unfold frS; rw [HT.out]
     have e2 := HA.out.gap hgt hrl HNB.out HBG.out
     rw [e1, HT.out, HB.out] at e2
     change Ahead xs (List.map (fun x : Pt => x.s) _) b
     simpa using e2
    case measure => simp [intOf]; omega
   ·obtain rfl : r = a := by omega
    clear hnr
    have hnn : ¬ (r : Int) < r := by omega
    gi_wp2_with fail
    refine ⟨trivial, ?_⟩
    gi_wp2_with fail
    refine ⟨fun _ h => (by cases h), ?_⟩
    have hnr : n₀ ≤ wr.heap.size := Nat.le_trans hn0 HK.out.1.size
    have hltc : Bn < wr.heap.size := Nat.lt_of_lt_of_le hlt HK.out.1.size
    gi_wp2_with fail
    refine ⟨trivial, ?_⟩
    refine (callsIn_wide.2 (FR.out _ HR.out)).mono ?_
    rintro e w4 ⟨A1, c1, rfl, hrow4, hb4⟩
    have hb5 := hb4.alloc (Nat.le_trans (Nat.le_refl _) hb4.size) (.cells #[.int .i64 r, .int .i64 t.2.1, .bool true, .int .i64 t.1.1, .slice A1 t.1.2.length c1] 80)
    have hrow5 := (hrow4.below ((Below.refl _ _).alloc (Nat.le_refl _) (.cells #[.int .i64 r, .int .i64 t.2.1, .bool true, .int .i64 t.1.1, .slice A1 t.1.2.length c1] 80))).more (Nat.le_of_lt (by simp : w4.heap.size < (w4.alloc (.cells #[.int .i64 r, .int .i64 t.2.1, .bool true, .int .i64 t.1.1, .slice A1 t.1.2.length c1] 80)).heap.size))
    obtain ⟨fn2, tmps2, assign2, body2, hy2, hR2⟩ := HY.out pre ⟨⟨r, t.2.1, true, t.1.1, t.1.2⟩, A1, c1⟩ W0 _ hJs (hk0.trans (hb5.mono hk0.size)) ⟨hrow5, hin⟩ (by omega)
    dsimp only [Pt.val] at hy2
    gi_wp2_with fail
    refine hR2.mono ?_
    rintro e W6 ⟨rfl, hJ6, hk6⟩
    have hz4 : W0.heap.size ≤ w4.heap.size := Nat.le_trans hk0.size hb4.size
    have hpart : Held W6 w4.heap.size 80 #[.int .i64 r, .int .i64 t.2.1, .bool true, .int .i64 t.1.1, .slice A1 t.1.2.length c1] := (hk6.2.2 w4.heap.size hz4 (by simp)).trans (heap_alloc_new w4 _)
    have hp1 := hpart.cell 1
    simp at hp1
    have HK6 : Hid (Below n₀ W W6 ∧ W6.heap[Bn]? = W.heap[Bn]?) := hid ⟨(HK.out.1.trans (hb5.mono hnr)).trans hk6.1, hk6.2.1.trans ((hb5.block Bn hltc).trans HK.out.2)⟩
    have HJ6 := hid hJ6
    clear hk6 hb5 hb4 hrow4 hrow5 hcb HR hy2 hR2 hpart hJ6
    have hcb : W6.cell? ⟨Bn, 0, none⟩ = some (.slice A xs.length c) := (World.cell?_of_block HK6.out.2).trans HBN.out
    have hn6 : n₀ ≤ W6.heap.size := Nat.le_trans hn0 HK6.out.1.size
    have HR6 := hid ((HROW.out.below HK6.out.1).more hn6)
    obtain ⟨b, hb⟩ : ∃ b : Nat, r + t.2.1 = b := ⟨_, rfl⟩
    have hbi : (r : Int) + t.2.1 = b := by omega
    have hbl : b ≤ xs.length := by omega
    have hbr : r + 9 ≤ b := by omega
    have HB := hid hb
    clear hb hin
    gi_wp2_with (refine ⟨trivial, ?_⟩; gi_at_call 135; refine (callsIn_wide.2 (NX.out _ HR6.out b hbl)).mono ?_; rintro e w7 ⟨rfl, hb7⟩)
    go_roundw
    case rel =>
     refine ⟨pre ++ [(⟨⟨r, t.2.1, true, t.1.1, t.1.2⟩, A1, c1⟩ : Pt)], b, W6, by simp, rfl, rfl, hbl, by simp; omega, ?_, HJ6.out, hb7, HK6.out.1.trans (hb7.mono hn6), (hb7.block Bn (Nat.lt_of_lt_of_le hlt HK6.out.1.size)).trans HK6.out.2⟩
     have e1 : frS xs r = ⟨r, t.2.1, true, t.1.1, t.1.2⟩ := by unfold frS; rw [HT.out]
     have e2 := HA.out.fr hrl HBG.out
     rw [e1, HT.out, HB.out] at e2
     change Ahead xs (List.map (fun x : Pt => x.s) _) b
     simpa using e2
    case measure => simp [intOf]; omega
theorem parts_any (A : Option Addr) (n c : Nat) (w : World) :
  Calls Tryz.prog 85 #[.slice A n c] w fun e w' => e = .returned (.func (.func 134) #[] #[.pointer (some ⟨w.heap.size, 0, none⟩)]) ∧ w' = w.alloc (.cells #[.slice A n c] 23) := by
 go_enter Tryz.func85, Tryz.ntmps85
 go_wp2_with fail
 go_ret
 exact ⟨rfl, rfl⟩
theorem parts_hands (n : Nat) (hn : 1 ≤ n) (Bn n₀ : Nat) (A : Option Addr) (c : Nat) (xs : List Int) (hsm : xs.length ≤ 1000000000000) (hbx : ∀ x ∈ xs, 0 ≤ x ∧ x < 256) (w : World)
  (hBn : w.cell? ⟨Bn, 0, none⟩ = some (.slice A xs.length c)) (hlt : Bn < w.heap.size) (hn0 : n₀ ≤ w.heap.size) (hrow : Row w n₀ (.slice A xs.length c) xs) :
  Hands Fence.wide n Tryz.prog 134 #[.pointer (some ⟨Bn, 0, none⟩)] (fun x : Pt => #[x.val]) (PtOk xs) (KeepsB n₀ Bn) (fun ys => PartsS xs 0 (ys.map (·.s))) xs.length w := fun l J W hW hY h0 =>
 parts1_in n hn l Bn n₀ A c xs hsm hbx J W hY ((hW.cell (p := ⟨Bn, 0, none⟩) hlt).trans hBn) (Nat.lt_of_lt_of_le hlt hW.size) (Nat.le_trans hn0 hW.size) (hrow.below (hW.mono hn0)) h0
end
end Go.Proofs.YtimihhcidbeonaaGreat
