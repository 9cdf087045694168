/-
  What the theorem of ReadTakes rests on, part 7 of 17.
-/
import Derived.Test.YtimihhcidbeonaaGreatRows
import Derived.WalkKit
import Derived.WalkSpells
import Derived.WalkLawsBesides
import Derived.LoopTactic
import Derived.Lib.Hide
import Derived.Outline
import Derived.Laws.BitsAllLaws
import Derived.Lib.SliceRun
import Derived.Maps.AppendAt
import Derived.Deep.RegionWith
import Derived.Deep.RegionHeld3
import Derived.Shelf.RegionOpen
import Derived.RegionIn
import Derived.Deep.QuietTactic
import Derived.BigQuiet
import Derived.Test.YtimihhcidbeonaaGreatReadTakesZ6
set_option maxRecDepth 100000
set_option maxHeartbeats 16000000
namespace Go.Proofs.YtimihhcidbeonaaGreat
open Lib (hid)
open Go.RowKit Go.ChangeShapes Go.WideShapes
theorem rplace_any {w : World} {B : Nat} (A : Option Addr) (c : Nat) (L : List (List Int)) (s : List Int) (h : ERow w B (.slice A L.length c) L.length (strVs L)) (hx : TxOk L) (hs : TxB s) :
  Calls Tryz.prog 176 #[.slice A L.length c, .string (strOfNums s)] w fun e w' => e = .returned (.int .i64 (placeD L s)) ∧ w = w' := by
 obtain ⟨-, hc1, hc2⟩ := h.len
 have HR := hid h
 have HX := hid hx
 have HS := hid hs
 have HFD := hid (fun (r : Nat) (h : L[r]? = some s) => placeD_found (l := L) (x := s) (r := r) h)
 have HNO := hid (fun (h : s ∉ L) => placeD_none h)
 clear h hx hs
 obtain ⟨R, hR⟩ : ∃ R, placeD L s = R := ⟨_, rfl⟩
 rw [hR] at HNO ⊢
 simp only [hR] at HFD
 clear hR
 go_enter Tryz.func176, Tryz.ntmps176
 go_wp2_with fail
 go_loopg [5] L.length (fun gk i wr => ∃ k : Nat, k ≤ L.length ∧ i = .int .i64 k ∧ Hid (L.length - k = gk) ∧ Hid (∀ j, j < k → L[j]? ≠ some s) ∧ wr = w)
 case atStart => exact ⟨0, Nat.zero_le _, rfl, hid rfl, hid (fun j hj => absurd hj (Nat.not_lt_zero _)), rfl⟩
 case round =>
  obtain ⟨k, hk, rfl, HGK, HN, rfl⟩ := hrel
  by_cases hlt : k < L.length
  ·obtain ⟨t, ht⟩ : ∃ t, L[k]? = some t := ⟨_, List.getElem?_eq_getElem hlt⟩
   obtain ⟨b, o, rfl, _, hcl⟩ := HR.out.block (by omega)
   have x1 := hcl k _ (strVs_at L ht)
   have hbt := (HX.out t (List.mem_of_getElem? ht)).2
   by_cases he : t = s
   ·have heq : ((strOfNums t).toList == (strOfNums s).toList) = true := by rw [str_eq_dec hbt HS.out, decide_eq_true he]
    have HK := hid (HFD.out k (by rw [ht, he]) HN.out)
    clear hbt ht hcl he
    go_wp2_with fail
    go_ret
    exact ⟨by rw [HK.out]; rfl, rfl⟩
   ·have heq : ((strOfNums t).toList == (strOfNums s).toList) = false := by rw [str_eq_dec hbt HS.out, decide_eq_false he]
    have HN2 := hid (show ∀ j, j < k + 1 → L[j]? ≠ some s from fun j hj => by
     rcases Nat.lt_or_ge j k with h | h
     ·exact HN.out j h
     ·obtain rfl : j = k := by omega
      rw [ht]
      exact fun e => he (by injection e))
    clear hbt ht hcl he
    go_wp2_with fail
    go_roundg (L.length - (k + 1))
    case measure => have := HGK.out; omega
    case rel => exact ⟨k + 1, by omega, by go_num, hid rfl, HN2, rfl⟩
  ·obtain rfl : k = L.length := by omega
   have hno : s ∉ L := fun hm => by
    obtain ⟨i, hi⟩ := List.mem_iff_getElem?.1 hm
    exact HN.out i (List.getElem?_eq_some_iff.1 hi).1 hi
   have HK := hid (HNO.out hno)
   clear hno
   go_wp2_with fail
   go_ret
   exact ⟨by rw [HK.out]; rfl, rfl⟩
theorem putD_tx {L : List (List Int)} {s : List Int} (h : TxOk L) (hs : TxB s) (hl : s.length ≤ maxLen) : TxOk (putD L s).1 := fun t ht => by
 rcases putD_mem ht with h1 | rfl
 ·exact h t h1
 ·exact ⟨hl, hs⟩
def RPut (w : World) (n0 : Nat) (v : Value) (r : List (List Int) × Int) (e : Ending) (w' : World) : Prop :=
 ∃ v', e = .returned (.tuple #[v', .int .i64 r.2]) ∧ w'.ownsRow n0 9 1 v' r.1.length (strVs r.1) ∧ (v' = v ∨ w'.ownsRow w.heap.size 9 1 v' r.1.length (strVs r.1)) ∧ Below w.heap.size w w'
theorem rput13_any {w : World} {n0 : Nat} {v : Value} {L : List (List Int)} (h : w.ownsRow n0 9 1 v L.length (strVs L)) (hn0 : n0 ≤ w.heap.size) (hx : TxOk L) (s : List Int) (hs : TxB s) (hn : L.length ≤ 1000000000) :
  Calls Tryz.prog 200 #[v, .string (strOfNums s)] w (RPut w n0 v (putD L s)) := by
 obtain ⟨i0, hi, hz0, hz1, hz2⟩ := info_parts Tryz.infoTxt
 have her := ERow.of_own h
 obtain ⟨A, c, rfl, hc1, hc2⟩ := her.form
 have HPL := hid (rplace_any A c L s her hx hs)
 rcases placeD_ways L s with ⟨hp, hno⟩ | ⟨j, hj0, hp, _, _⟩
 ·rw [putD_new hp]
  rw [hp] at HPL
  have HER := hid her
  have hl : (strVs L).length = L.length * 1 := by rw [strVs_length, Nat.mul_one]
  have HON := hid (strVs_one L)
  obtain ⟨n, hn'⟩ : ∃ n, L.length = n := ⟨_, rfl⟩
  have HN := hid hn'
  rw [hn'] at HPL HER hl hc1 hn ⊢
  clear h her hx hs hno hp hn'
  go_enter Tryz.func200, Tryz.ntmps200
  go_wp2_with fail
  refine HPL.out.mono ?_
  rintro e w1 ⟨rfl, rfl⟩
  go_wp2_with (first
   | (at_builtin; refine wpList_append_erow _ rfl _ _ 55 9 rfl w.heap.size i0 (.string ⟨#[]⟩) 1 16 Tryz.underlying55 hi hz0 hz1 hz2 rfl (by decide) (.slice (some ⟨w.heap.size, 0, none⟩) 0 0) 0 [] (by rfl) (own_none (Nat.le_refl _)) w.heap.size (.slice A n c) n (strVs L) (by rfl) (HER.out.below ((Below.refl _ _).alloc (Nat.le_refl _) _)) hl HON.out (by simp only [maxLen]; omega) (by omega) (by simp) n (Nat.zero_add n) (strVs L) rfl ?_; intro A2 c2 w2 hown2 hg2 hat2; have HO2 := hid hown2; have HG2 := hid hg2; clear hown2 hg2 hat2)
   | (at_builtin; refine wpList_append_erow _ rfl _ _ 55 9 rfl w.heap.size i0 (.string ⟨#[]⟩) 1 16 Tryz.underlying55 hi hz0 hz1 hz2 rfl (by decide) (.slice A2 n c2) n (strVs L) (by rfl) (HO2.out.alloc _) (w2.heap.size + 1) (.slice (some ⟨w2.heap.size, 0, none⟩) 1 1) 1 [.string (strOfNums s)] (by rfl) (ERow.held (t := 9) (heap_alloc_new w2 _) (Nat.lt_succ_self _) (by unfold maxLen; omega)) rfl (by simp [Value.oneCell']) (by simp only [maxLen]; omega) (by omega) (by have := HG2.out.size; simp at this ⊢; omega) (n + 1) rfl _ rfl ?_; intro A3 c3 w3 hown3 hg3 hat3; have HO3 := hid hown3; have HG3 := hid hg3; clear hown3 hg3 hat3))
  have hb2 : Below w.heap.size w w2 := ((Below.refl _ _).alloc (Nat.le_refl _) _).grown HG2.out (by simp) (fun k hk => by simp [Value.ownBlock] at hk; omega)
  have hz2' := hb2.size
  have hb3 : Below w.heap.size w w3 := (hb2.alloc hz2' _).grown HG3.out (by simp; omega) (fun k hk => (HO2.out.lt k hk).1)
  have ho3 := HO3.out
  have ho4 : w3.ownsRow w.heap.size 9 1 (.slice A3 (n + 1) c3) (L ++ [s]).length (strVs (L ++ [s])) := by
   rw [List.length_append, strVs_snoc, HN.out]
   exact ho3
  have hfin : RPut w n0 (.slice A n c) (L ++ [s], (n : Int)) (.returned (.tuple #[.slice A3 (n + 1) c3, .int .i64 n])) w3 := ⟨_, rfl, own_base ho4 hn0, .inr ho4, hb3⟩
  exact bodyPost_ret (v := .tuple #[.slice A3 (n + 1) c3, .int .i64 n]) (by simp [results, Tryz.results200, go_sem]) rfl hfin
 ·rw [putD_old hp]
  rw [hp] at HPL
  have HF := hid (show RPut w n0 (.slice A L.length c) (L, (j : Int)) (.returned (.tuple #[.slice A L.length c, .int .i64 j])) w from ⟨_, rfl, h, .inl rfl, Below.refl _ _⟩)
  clear h her hx hp
  go_enter Tryz.func200, Tryz.ntmps200
  go_wp2_with fail
  refine HPL.out.mono ?_
  rintro e w1 ⟨rfl, rfl⟩
  go_wp2_with fail
  exact bodyPost_ret (v := .tuple #[.slice A L.length c, .int .i64 j]) (by simp [results, Tryz.results200, go_sem]) rfl HF.out
def ORow (w : World) (N : Nat) (v : Value) (L : List (List Int)) : Prop := w.ownsRow N 9 1 v L.length (strVs L) ∧ TxOk L
theorem rof13_any (A : Option Addr) (c : Nat) (ps : List Pm) (w : World) (hrow : TrRow w w.heap.size (.slice A ps.length c) ps) (hn : nT ps ≤ 1000000000) :
  Calls Tryz.prog 173 #[.slice A ps.length c] w fun e w' => ∃ v, e = .returned v ∧ ORow w' w.heap.size v (addT [] ps) ∧ Below w.heap.size w w' := by
 obtain ⟨-, hc1, hc2⟩ := hrow.1.len
 obtain ⟨N, hN⟩ : ∃ N, w.heap.size = N := ⟨_, rfl⟩
 have H0 := hid (show ORow (w.alloc (.cells #[] 9)) N (.slice (some ⟨N, 0, none⟩) 0 0) [] from ⟨by rw [← hN]; exact own_none (Nat.le_refl _), fun t h => by simp at h⟩)
 have HB0 := hid (show Below N w (w.alloc (.cells #[] 9)) from (Below.refl _ _).alloc (by omega) _)
 rw [hN] at hrow ⊢
 have HTR := hid hrow
 clear hrow
 go_enter Tryz.func173, Tryz.ntmps173
 go_wp2_with fail
 go_loopg [3, 4] ps.length (fun gk v0 i wr => ∃ (k : Nat) (v : Value), k ≤ ps.length ∧ v = v0 ∧ i = .int .i64 k ∧ Hid (ps.length - k = gk) ∧ Hid (ORow wr N v (addT [] (ps.take k))) ∧ Hid (Below N w wr))
 case atStart => exact ⟨0, _, Nat.zero_le _, rfl, rfl, hid rfl, (by first | exact H0 | (rw [hN]; exact H0)), HB0⟩
 case round =>
  obtain ⟨k, v1, hk, rfl, rfl, HGK, HD, HB⟩ := hrel
  by_cases hlt : k < ps.length
  ·obtain ⟨d, hd⟩ : ∃ d, ps[k]? = some d := ⟨_, List.getElem?_eq_getElem hlt⟩
   obtain ⟨b, o, rfl, hb, x0, x1, hok, hl1, hl2⟩ := (HTR.out.below HB.out).at hd
   have HXX := hid (fun (W : World) (h : Below N w W) => (h.cell (p := ⟨b, o + k * 2 + 1, none⟩) hb).trans ((HB.out.cell (p := ⟨b, o + k * 2 + 1, none⟩) hb).symm.trans x1))
   have HOK := hid (fun (W : World) (h : Below N w W) => ((HTR.out.below h).2 d (List.mem_of_getElem? hd)).1)
   have HS := hid (addT_succ (L := []) hd)
   have hnk := nT_at ps k d hd
   have hlen := (addT_ok (ps.take k) []).high
   simp only [List.length_nil, Nat.zero_add] at hlen
   obtain ⟨M, hM⟩ : ∃ M, addT [] (ps.take k) = M := ⟨_, rfl⟩
   rw [hM] at hlen HS HD
   obtain ⟨dA, hdA⟩ : ∃ dA, d.A = dA := ⟨_, rfl⟩
   rw [hdA] at HXX HOK
   have HLE := hid hlen
   have HNK := hid hnk
   clear hok hd x0 x1 hM hlen hnk hdA
   go_wp2_with fail
   go_loopg [3, 5] d.evs.length (fun gm v0 i wr2 => ∃ (m : Nat) (v : Value), m ≤ d.evs.length ∧ v = v0 ∧ i = .int .i64 m ∧ Hid (d.evs.length - m = gm) ∧ Hid (ORow wr2 N v (addE M (d.evs.take m))) ∧ Hid (Below N w wr2))
   case atStart => exact ⟨0, _, Nat.zero_le _, rfl, rfl, hid rfl, HD, HB⟩
   case round =>
    obtain ⟨m, v2, hm, rfl, rfl, HGM, HD5, HB5⟩ := hrel
    have x1 := HXX.out _ HB5.out
    by_cases hml : m < d.evs.length
    ·obtain ⟨x, hx⟩ : ∃ x, d.evs[m]? = some x := ⟨_, List.getElem?_eq_getElem hml⟩
     obtain ⟨b2, o2, e2, hb2, u0, u1, hokx, hl3, hl4⟩ := (HOK.out _ HB5.out).at hx
     rw [e2] at x1
     have HOX := hid (fun (W : World) (h : Below N w W) => (show GRow W N (.slice x.A x.args.length x.c) x.args from ((HOK.out _ h).2 x (List.mem_of_getElem? hx)).1))
     have hlm := (addE_ok (d.evs.take m) M).high
     have hna := nA_at d.evs m x hx
     have HQ := hid (addE_succ (L := M) hx)
     obtain ⟨Q, hQ⟩ : ∃ Q, addE M (d.evs.take m) = Q := ⟨_, rfl⟩
     rw [hQ] at hlm HQ HD5
     have HLQ := hid (show Q.length + x.args.length ≤ 1000000000 by have := HLE.out; have := HNK.out; omega)
     obtain ⟨xA, hxA⟩ : ∃ xA, x.A = xA := ⟨_, rfl⟩
     rw [hxA] at u1 HOX
     clear hx hokx e2 hxA hQ hlm hna
     go_wp2_with fail
     go_loopg [3, 7] x.args.length (fun gj v0 i wr3 => ∃ (j : Nat) (v : Value), j ≤ x.args.length ∧ v = v0 ∧ i = .int .i64 j ∧ Hid (x.args.length - j = gj) ∧ Hid (ORow wr3 N v (addA Q (x.args.take j))) ∧ Hid (Below N w wr3))
     case atStart => exact ⟨0, _, Nat.zero_le _, rfl, rfl, hid rfl, HD5, HB5⟩
     case round =>
      obtain ⟨j, v3, hj, rfl, rfl, HGJ, HD7, HB7⟩ := hrel
      clear u0 u1 x1
      by_cases hjl : j < x.args.length
      ·obtain ⟨a, ha⟩ : ∃ a, x.args[j]? = some a := ⟨_, List.getElem?_eq_getElem hjl⟩
       obtain ⟨b3, o3, rfl, hb3, y0, y1, y2, hfit⟩ := (HOX.out _ HB7.out).at ha
       have HA := hid (addA_succ (L := Q) ha)
       have hz7 := HB7.out.size
       by_cases ht : a.t = 2
       ·have hst : stepA (addA Q (x.args.take j)) a = (putD (addA Q (x.args.take j)) a.s).1 := if_pos ht
        have hp := rput13_any HD7.out.1 (by omega) HD7.out.2 a.s hfit.2.1 (by have := addA_le (L := Q) (l := x.args) j; have := HLQ.out; omega)
        have htx := putD_tx HD7.out.2 hfit.2.1 hfit.1
        rw [hst] at HA
        unfold RPut at hp
        rw [← HA.out] at hp htx
        have HP := hid hp
        have HTX := hid htx
        obtain ⟨at', hat⟩ : ∃ t, a.t = t := ⟨_, rfl⟩
        rw [hat] at y0 ht
        clear hp htx hst ha hfit hat
        subst ht
        go_wp2_with fail
        refine HP.out.mono ?_
        rintro e w5 ⟨v4, rfl, ho, _, hb⟩
        have HB8 := hid (HB7.out.trans (hb.mono (by omega)))
        have HO := hid ho
        clear ho hb
        go_wp2_with fail
        go_roundg (x.args.length - (j + 1))
        case measure => have := HGJ.out; omega
        case rel => exact ⟨j + 1, v4, by omega, rfl, by go_num, hid rfl, hid ⟨HO.out, HTX.out⟩, HB8⟩
       ·have hst : stepA (addA Q (x.args.take j)) a = addA Q (x.args.take j) := if_neg ht
        rw [hst] at HA
        rw [← HA.out] at HD7
        have hne : (a.t == 2) = false := beq_eq_false_iff_ne.2 ht
        clear hst ha hfit ht
        go_wp2_with fail
        go_roundg (x.args.length - (j + 1))
        case measure => have := HGJ.out; omega
        case rel => exact ⟨j + 1, _, by omega, rfl, by go_num, hid rfl, HD7, HB7⟩
      ·obtain rfl : j = x.args.length := by omega
       have HJ := HD7
       rw [List.take_length, ← HQ.out] at HJ
       go_wp2_with fail
       go_roundg (d.evs.length - (m + 1))
       case measure => have := HGM.out; omega
       case rel => exact ⟨m + 1, _, by omega, rfl, by go_num, hid rfl, HJ, HB7⟩
    ·obtain rfl : m = d.evs.length := by omega
     have HJ := HD5
     rw [List.take_length, ← HS.out] at HJ
     go_wp2_with fail
     go_roundg (ps.length - (k + 1))
     case measure => have := HGK.out; omega
     case rel => exact ⟨k + 1, _, by omega, rfl, by go_num, hid rfl, HJ, HB5⟩
  ·obtain rfl : k = ps.length := by omega
   have HJ := HD
   rw [List.take_length] at HJ
   go_wp2_with fail
   go_ret
   exact ⟨_, rfl, HJ.out, HB.out⟩
open Go.RowKit
theorem st_even {m : Nat} (h : m % 2 = 0) : st m = m / 2 := by unfold st; rw [if_neg (by omega), Nat.xor_zero]
theorem st_odd {m : Nat} (h : m % 2 = 1) : st m = m / 2 ^^^ 3988292384 := by unfold st; rw [if_pos h]; rfl
theorem it_next (k m : Nat) : it (k + 1) m = it k (st m) := rfl
theorem shifted_any (n : Nat) (hn : n < 4294967296) (w : World) :
  Calls Tryz.prog 218 #[.int .u32 n] w fun e w' => e = .returned (.int .u32 (it 8 n : Nat)) ∧ w = w' := by
 go_enter Tryz.func218, Tryz.ntmps218
 go_wp2
 go_loop [0, 4] (fun s i => ∃ k m : Nat, k ≤ 8 ∧ m < 4294967296 ∧ i = .int .i64 k ∧ s = .int .u32 m ∧ Hid (it (8 - k) m = it 8 n)) (fun _ i => 8 - (intOf i).toNat)
 case atStart => exact ⟨0, n, by omega, hn, rfl, rfl, hid rfl⟩
 case round =>
  obtain ⟨k, m, hk, hm, rfl, rfl, HI⟩ := hrel
  by_cases hlt : k < 8
  ·have hnx : it (8 - (k + 1)) (st m) = it 8 n := by rw [← HI.out, ← it_next]; congr 1; omega
   have hsl := st_lt hm
   have hand := u32_and_nat m 1 hm (by omega)
   rw [nat_mask1] at hand
   rcases Nat.mod_two_eq_zero_or_one m with ho | ho
   ·rw [ho] at hand
    rw [st_even ho] at hnx hsl
    have HN := hid hnx; clear hnx
    clear ho
    simp only [Int.natCast_one] at hand
    go_wp2_with fail
    go_round
    case rel => exact ⟨k + 1, m / 2, by omega, hsl, by go_num, by go_num, HN⟩
    case measure => simp [intOf]; omega
   ·rw [ho] at hand
    rw [st_odd ho] at hnx hsl
    have hxor : bits .xor .u32 ((m : Int) / 2) 3988292384 = ((m / 2 ^^^ 3988292384 : Nat) : Int) := u32_xor_nat (m / 2) 3988292384 (by omega) (by omega)
    have HN := hid hnx; clear hnx
    clear ho
    simp only [Int.natCast_one] at hand
    go_wp2_with fail
    go_round
    case rel => exact ⟨k + 1, m / 2 ^^^ 3988292384, by omega, hsl, by go_num, by go_num, HN⟩
    case measure => simp [intOf]; omega
  ·obtain rfl : k = 8 := by omega
   have he : m = it 8 n := HI.out
   have HE := hid he; clear he
   go_wp2_with fail
   go_ret
   exact ⟨by rw [HE.out]; rfl, rfl⟩
def toN (xs : List Int) : List Nat := xs.map Int.toNat
theorem toN_append (xs ys : List Int) : toN (xs ++ ys) = toN xs ++ toN ys := List.map_append
theorem toN_byte {xs : List Int} (hb : ∀ x ∈ xs, 0 ≤ x ∧ x < 256) : ∀ x ∈ toN xs, x < 256 := by
 intro x hx
 obtain ⟨y, hy, rfl⟩ := List.mem_map.1 hx
 have := hb y hy
 omega
theorem state_next (n : Nat) (xs : List Int) {k : Nat} (hk : k < xs.length) : stateI n (toN (xs.take (k + 1))) = it 8 (stateI n (toN (xs.take k)) ^^^ (xs.getD k 0).toNat) := by
 have h : xs.take (k + 1) = xs.take k ++ [xs.getD k 0] := by rw [List.take_succ_eq_append_getElem hk]; simp [List.getD, List.getElem?_eq_getElem hk]
 rw [h, toN_append, state_append]
 rfl
theorem max_xor (n : Nat) (hn : n < 4294967296) : bits .xor .u32 IntKind.u32.max (n : Int) = ((4294967295 ^^^ n : Nat) : Int) := u32_xor_nat 4294967295 n (by omega) hn
def sumX (xs : List Int) : Nat := sumI (toN xs)
theorem more_any (n : Nat) (hn : n < 4294967296) (A : Option Addr) (c : Nat) (xs : List Int) (w : World) (hrow : Row w w.heap.size (.slice A xs.length c) xs) (hb : ∀ x ∈ xs, 0 ≤ x ∧ x < 256) :
  Calls Tryz.prog 210 #[.int .u32 n, .slice A xs.length c] w fun e w' => e = .returned (.int .u32 (4294967295 ^^^ stateI (4294967295 ^^^ n) (toN xs) : Nat)) ∧ w = w' := by
 obtain ⟨A', c', hv, hlc, hcm, _, hcells⟩ := hrow
 injection hv with h1 h2 h3
 subst h1 h3
 unfold maxLen at hcm
 have hsz : xs.length ≤ 9223372036854775807 := by omega
 have HC := hid hcells; clear hcells
 have HB := hid hb; clear hb
 have hst : (4294967295 ^^^ n) < 4294967296 := Nat.xor_lt_two_pow (n := 32) (by omega) hn
 have hm0 := max_xor n hn
 generalize 4294967295 ^^^ n = n0 at hst hm0 ⊢
 go_enter Tryz.func210, Tryz.ntmps210
 go_wp2
 go_loop [5, 12] (fun s i => ∃ k m : Nat, k ≤ xs.length ∧ m < 4294967296 ∧ i = .int .i64 k ∧ s = .int .u32 m ∧ Hid (m = stateI n0 (toN (xs.take k)))) (fun _ i => xs.length - (intOf i).toNat)
 case atStart => exact ⟨0, n0, Nat.zero_le _, hst, rfl, rfl, hid rfl⟩
 case round =>
  obtain ⟨k, m, hk, hm, rfl, rfl, HI⟩ := hrel
  by_cases hlt : k < xs.length
  ·obtain ⟨b, o, rfl, _, hc⟩ := HC.out (by omega)
   have hck := hc k (by omega)
   clear hc
   have hin : xs.getD k 0 ∈ xs := by rw [List.getD, List.getElem?_eq_getElem (by omega)]; simp
   obtain ⟨y0, y1⟩ := HB.out _ hin
   clear hin
   have hnx := state_next n0 xs hlt
   rw [← HI.out] at hnx
   obtain ⟨y, hy⟩ := Int.eq_ofNat_of_zero_le y0
   rw [hy] at hck hnx y1
   rw [Int.toNat_natCast] at hnx
   clear hy y0
   have hxor := u32_xor_nat m y hm (by omega)
   have hms : m ^^^ y < 4294967296 := Nat.xor_lt_two_pow (n := 32) hm (by omega)
   generalize m ^^^ y = z at hnx hxor hms
   have HN := hid hnx; clear hnx HI
   have hz := it_lt 8 hms
   go_wp2_with fail
   refine (shifted_any z hms _).mono ?_
   rintro e w1 ⟨rfl, rfl⟩
   go_wp2_with fail
   go_round
   case rel => exact ⟨k + 1, it 8 z, by omega, hz, by go_num, rfl, hid HN.out.symm⟩
   case measure => simp [intOf]; omega
  ·obtain rfl : k = xs.length := by omega
   have he : m = stateI n0 (toN xs) := by rw [HI.out, List.take_length]
   have hmx := max_xor m hm
   have HE := hid he
   clear he HI hm hm0
   go_wp2_with fail
   go_ret
   exact ⟨by rw [← HE.out]; rfl, rfl⟩
def Parts (w : World) (B : Nat) (v : Value) (xss : List (List Int)) : Prop :=
 ∃ us, VRow w B v us ∧ us.length = xss.length ∧ ∀ (i : Nat) (u : Value) (xs : List Int), us[i]? = some u → xss[i]? = some xs → Row w B u xs
theorem Parts.one {w : World} {B g : Nat} {u : Value} {xs : List Int} (hg : g < B) (hc : w.cell? ⟨g, 0, none⟩ = some u) (h : Row w B u xs) : Parts w B (.slice (some ⟨g, 0, none⟩) 1 1) [xs] :=
 ⟨[u], ⟨_, 1, rfl, Nat.le_refl _, by simp [maxLen], by simp, fun _ => ⟨g, 0, rfl, hg, fun i u' hi => by
  match i with
  | 0 => simp at hi; subst hi; exact hc
  | i + 1 => simp at hi⟩⟩, rfl, fun i u' ys h1 h2 => by
  match i with
  | 0 => simp at h1 h2; subst h1 h2; exact h
  | i + 1 => simp at h1⟩
theorem sumX_more (xs ys : List Int) : sumX (xs ++ ys) = 4294967295 ^^^ stateI (4294967295 ^^^ sumX xs) (toN ys) := by
 unfold sumX
 rw [toN_append, sum_more]
theorem sumX_lt {xs : List Int} (hb : ∀ x ∈ xs, 0 ≤ x ∧ x < 256) : sumX xs < 4294967296 := sum_lt (toN_byte hb)
theorem sumX_nil : sumX [] = 0 := by decide
theorem sum_any (v : Value) (xss : List (List Int)) (w : World) (h : Parts w w.heap.size v xss) (hb : ∀ xs ∈ xss, ∀ x ∈ xs, 0 ≤ x ∧ x < 256) :
  Calls Tryz.prog 191 #[v] w fun e w' => e = .returned (.int .u32 (sumX xss.flatten : Nat)) ∧ w = w' := by
 obtain ⟨us, ⟨A, c, rfl, hlc, hcm, _, hcells⟩, hul, hrow⟩ := h
 unfold maxLen at hcm
 have hsz : us.length ≤ 9223372036854775807 := by omega
 have HC := hid hcells; clear hcells
 have HB := hid hb; clear hb
 have HR := hid hrow; clear hrow
 have HU := hid hul; clear hul
 go_enter Tryz.func191, Tryz.ntmps191
 go_wp2
 go_loop [3, 8] (fun s i => ∃ k m : Nat, k ≤ us.length ∧ m < 4294967296 ∧ i = .int .i64 k ∧ s = .int .u32 m ∧ Hid (m = sumX (xss.take k).flatten)) (fun _ i => us.length - (intOf i).toNat)
 case atStart => exact ⟨0, 0, Nat.zero_le _, by omega, rfl, rfl, hid (by simp [sumX_nil])⟩
 case round =>
  obtain ⟨k, m, hk, hm, rfl, rfl, HI⟩ := hrel
  by_cases hlt : k < us.length
  ·obtain ⟨b, o, rfl, _, hc⟩ := HC.out (by omega)
   have hue : us[k]? = some us[k] := List.getElem?_eq_getElem hlt
   have hck := hc k _ hue
   clear hc
   have hlx : k < xss.length := by rw [← HU.out]; exact hlt
   have hxe : xss[k]? = some xss[k] := List.getElem?_eq_getElem hlx
   have hr := HR.out k _ _ hue hxe
   have hbx := HB.out xss[k] (List.getElem_mem hlx)
   have hnx : sumX (xss.take (k + 1)).flatten = 4294967295 ^^^ stateI (4294967295 ^^^ m) (toN xss[k]) := by
    rw [List.take_succ_eq_append_getElem hlx, List.flatten_append, HI.out, ← sumX_more]
    simp
   clear hue hxe
   generalize us[k] = u at *
   generalize xss[k] = xs at *
   obtain ⟨A2, c2, rfl, _⟩ := id hr
   have HM := hid (more_any m hm A2 c2 xs w hr hbx)
   have hlt2 : sumX (xss.take (k + 1)).flatten < 4294967296 := sumX_lt (fun x hx => by
    obtain ⟨ys, hys, hx⟩ := List.mem_flatten.1 hx
    exact HB.out ys (List.mem_of_mem_take hys) x hx)
   rw [← hnx] at HM
   clear hnx HI hr hbx
   obtain ⟨m2, HS⟩ : ∃ m2, Hid (m2 = sumX (xss.take (k + 1)).flatten) := ⟨_, hid rfl⟩
   rw [← HS.out] at HM hlt2
   go_wp2_with fail
   refine HM.out.mono ?_
   rintro e w1 ⟨rfl, rfl⟩
   go_wp2_with fail
   go_round
   case rel => exact ⟨k + 1, m2, by omega, hlt2, by go_num, rfl, hid HS.out⟩
   case measure => simp [intOf]; omega
  ·obtain rfl : k = us.length := by omega
   have he : m = sumX xss.flatten := by rw [HI.out, HU.out, List.take_length]
   have HE := hid he
   clear he HI
   go_wp2_with fail
   go_ret
   exact ⟨by rw [← HE.out]; rfl, rfl⟩
def le4 (n : Nat) : List Int := [(n : Int) % 256, (n : Int) / 256 % 256, (n : Int) / 65536 % 256, (n : Int) / 16777216]
def le4V (n : Nat) : Value := .agg #[.int .u8 ((n : Int) % 256), .int .u8 ((n : Int) / 256 % 256), .int .u8 ((n : Int) / 65536 % 256), .int .u8 ((n : Int) / 16777216)]
theorem four_any (n : Nat) (hn : n < 4294967296) (w : World) :
  Calls Tryz.prog 190 #[.int .u32 n] w fun e w' => e = .returned (le4V n) ∧ Below w.heap.size w w' := by
 go_enter Tryz.func190, Tryz.ntmps190
 go_wp2
 exact bodyPost_ret (v := le4V n) (by simp [results, Tryz.results190, go_sem, le4V]) rfl ⟨rfl, (Below.refl _ _).alloc (Nat.le_refl _) _⟩
def markL : List Int := [199, 84, 71, 1]
def markI : List Int → List Int → Int
 | [], _ => 0
 | _ :: _, [] => 2
 | m :: ms, x :: xs => if x = m then markI ms xs else 4
def bodyL (k : Int) (p : List Int) : List Int := k :: encT p
def encFr (k : Int) (p : List Int) : List Int := markL ++ (bodyL k p ++ le4 (sumX (bodyL k p)))
def noFr (e : Int) : (Int × List Int) × Nat × Int := ((0, []), 0, e)
def getBody (k : Int) (ys : List Int) : (Int × List Int) × Nat × Int :=
 if (getI ys).2.2 ≠ 0 then noFr (getI ys).2.2
 else if 4096 < (getI ys).1 then noFr 6
 else if ys.length < (getI ys).2.1 + (getI ys).1.toNat + 4 then noFr 2
 else if (ys.drop ((getI ys).2.1 + (getI ys).1.toNat)).take 4 ≠ le4 (sumX (k :: ys.take ((getI ys).2.1 + (getI ys).1.toNat))) then noFr 5
 else ((k, (ys.drop (getI ys).2.1).take (getI ys).1.toNat), 9 + (getI ys).2.1 + (getI ys).1.toNat, 0)
def getFr (xs : List Int) : (Int × List Int) × Nat × Int :=
 if markI markL xs ≠ 0 then noFr (markI markL xs)
 else match xs.drop 4 with
  | [] => noFr 2
  | k :: ys => if k = 1 ∨ k = 2 then getBody k ys else noFr 4
theorem markI_mark (rest : List Int) : markI markL (markL ++ rest) = 0 := by simp [markI, markL]
theorem markI_back {xs : List Int} (h : markI markL xs = 0) : xs = markL ++ xs.drop 4 := by
 match xs with
 | [] => simp [markI, markL] at h
 | [a] =>
  simp only [markI, markL] at h
  split at h <;> simp at h
 | [a, b] =>
  simp only [markI, markL] at h
  split at h
  ·split at h <;> simp at h
  ·simp at h
 | [a, b, c] =>
  simp only [markI, markL] at h
  split at h
  ·split at h
   ·split at h <;> simp at h
   ·simp at h
  ·simp at h
 | a :: b :: c :: d :: r =>
  simp only [markI, markL] at h
  split at h
  ·split at h
   ·split at h
    ·split at h
     ·subst_vars; rfl
     ·simp at h
    ·simp at h
   ·simp at h
  ·simp at h
theorem getFr_mark (rest : List Int) : getFr (markL ++ rest) = match rest with | [] => noFr 2 | k :: ys => if k = 1 ∨ k = 2 then getBody k ys else noFr 4 := by
 unfold getFr
 rw [if_neg (by rw [markI_mark]; simp), show (markL ++ rest).drop 4 = rest by simp [markL]]
theorem getBody_err {k er : Int} {ys : List Int} (h : (getI ys).2.2 = er) (hne : er ≠ 0) : getBody k ys = noFr er := by
 unfold getBody
 rw [if_pos (by rw [h]; exact hne), h]
theorem getBody_limit {k : Int} {ys : List Int} {n s : Nat} (h : getI ys = ((n : Int), s, 0)) (hl : 4096 < n) : getBody k ys = noFr 6 := by
 unfold getBody
 rw [h, if_neg (by simp), if_pos (by simp only; omega)]
theorem getBody_short {k : Int} {ys : List Int} {n s : Nat} (h : getI ys = ((n : Int), s, 0)) (hl : n ≤ 4096) (hs : ys.length < s + n + 4) : getBody k ys = noFr 2 := by
 unfold getBody
 rw [h, if_neg (by simp), if_neg (by simp only; omega), if_pos (by simp only [Int.toNat_natCast]; exact hs)]
theorem getBody_sum {k : Int} {ys : List Int} {n s : Nat} (h : getI ys = ((n : Int), s, 0)) (hl : n ≤ 4096) (hs : ¬ ys.length < s + n + 4) (hne : (ys.drop (s + n)).take 4 ≠ le4 (sumX (k :: ys.take (s + n)))) : getBody k ys = noFr 5 := by
 unfold getBody
 rw [h, if_neg (by simp), if_neg (by simp only; omega), if_neg (by simp only [Int.toNat_natCast]; exact hs), if_pos (by simp only [Int.toNat_natCast]; exact hne)]
theorem getBody_ok {k : Int} {ys : List Int} {n s : Nat} (h : getI ys = ((n : Int), s, 0)) (hl : n ≤ 4096) (hs : ¬ ys.length < s + n + 4) (he : (ys.drop (s + n)).take 4 = le4 (sumX (k :: ys.take (s + n)))) : getBody k ys = ((k, (ys.drop s).take n), 9 + s + n, 0) := by
 unfold getBody
 rw [h, if_neg (by simp), if_neg (by simp only; omega), if_neg (by simp only [Int.toNat_natCast]; exact hs), if_neg (by simp only [Int.toNat_natCast]; exact fun hn => hn he)]
 simp only [Int.toNat_natCast]
theorem encFr_length (k : Int) (p : List Int) : (encFr k p).length = 9 + (encI p.length).length + p.length := by
 simp only [encFr, markL, bodyL, encT, le4, List.length_append, List.length_cons, List.length_nil]
 omega
theorem getFr_back (xs : List Int) (hb : ∀ x ∈ xs, 0 ≤ x ∧ x < 256) (h : (getFr xs).2.2 = 0) :
  ((getFr xs).1.1 = 1 ∨ (getFr xs).1.1 = 2) ∧ (getFr xs).1.2.length ≤ 4096 ∧ (getFr xs).2.1 ≤ xs.length ∧ encFr (getFr xs).1.1 (getFr xs).1.2 = xs.take (getFr xs).2.1 ∧ (∀ x ∈ (getFr xs).1.2, 0 ≤ x ∧ x < 256) := by
 by_cases hm : markI markL xs = 0
 ·have hx := markI_back hm
  have hb2 : ∀ x ∈ xs.drop 4, 0 ≤ x ∧ x < 256 := fun x hx => hb x (List.mem_of_mem_drop hx)
  generalize xs.drop 4 = r at hx hb2
  subst hx
  rw [getFr_mark] at h ⊢
  cases r with
  | nil => simp [noFr] at h
  | cons k ys =>
   simp only at h ⊢
   by_cases hk : k = 1 ∨ k = 2
   ·rw [if_pos hk] at h ⊢
    have hby : ∀ x ∈ ys, 0 ≤ x ∧ x < 256 := fun x hx => hb2 x (by simp [hx])
    by_cases he : (getI ys).2.2 = 0
    ·obtain ⟨n, s, hg, h1, h2, h3, h4, h5⟩ := getI_ok ys hby he
     by_cases hl : 4096 < n
     ·rw [getBody_limit hg hl] at h; simp [noFr] at h
     ·by_cases hs : ys.length < s + n + 4
      ·rw [getBody_short hg (by omega) hs] at h; simp [noFr] at h
      ·by_cases hq : (ys.drop (s + n)).take 4 = le4 (sumX (k :: ys.take (s + n)))
       ·rw [getBody_ok hg (by omega) hs hq]
        have hlen : ((ys.drop s).take n).length = n := by simp; omega
        have henc : encT ((ys.drop s).take n) = ys.take (s + n) := by rw [encT, hlen, h4, ← List.take_add]
        refine ⟨hk, by simp only; omega, by simp [markL]; omega, ?_, fun x hx => hby x (List.mem_of_mem_drop (List.mem_of_mem_take hx))⟩
        have e3 : ys.take (s + n + 4) = ys.take (s + n) ++ (ys.drop (s + n)).take 4 := List.take_add
        simp only [encFr, bodyL, henc]
        rw [← hq, show 9 + s + n = 4 + (s + n + 4 + 1) by omega, show 4 = markL.length from rfl, List.take_length_add_append, List.take_succ_cons, show markL.length = 4 from rfl, e3, List.cons_append]
       ·rw [getBody_sum hg (by omega) hs hq] at h; simp [noFr] at h
    ·rw [getBody_err rfl he] at h; simp [noFr] at h; exact absurd h he
   ·rw [if_neg hk] at h; simp [noFr] at h
 ·unfold getFr at h
  rw [if_pos hm] at h
  exact absurd h hm
def begI (opn : Bool) (xs : List Int) (a : Nat) : Bool := (getFr (xs.drop a)).2.2 == 0 || (opn && (getFr (xs.drop a)).2.2 == 2)
def firstI (q : Nat → Bool) : Nat → Nat → Int
 | 0, _ => -1
 | n + 1, a => if q a then (a : Int) else firstI q n (a + 1)
def nextI (opn : Bool) (xs : List Int) (frm : Int) : Int := firstI (begI opn xs) (xs.length - frm.toNat) frm.toNat
theorem first_found {q : Nat → Bool} : ∀ (n a r : Nat), a ≤ r → r < a + n → (∀ j, a ≤ j → j < r → q j = false) → q r = true → firstI q n a = (r : Int)
 | 0, a, r, h1, h2, _, _ => by omega
 | n + 1, a, r, h1, h2, hn, hr => by
  simp only [firstI]
  by_cases e : a = r
  ·subst e
   rw [if_pos hr]
  ·rw [if_neg (by rw [hn a (Nat.le_refl _) (by omega)]; simp)]
   exact first_found n (a + 1) r (by omega) (by omega) (fun j hj hj2 => hn j (by omega) hj2) hr
theorem first_none {q : Nat → Bool} : ∀ (n a : Nat), (∀ j, a ≤ j → j < a + n → q j = false) → firstI q n a = -1
 | 0, _, _ => rfl
 | n + 1, a, hn => by
  simp only [firstI]
  rw [if_neg (by rw [hn a (Nat.le_refl _) (by omega)]; simp)]
  exact first_none n (a + 1) (fun j hj hj2 => hn j (by omega) (by omega))
theorem first_cases (q : Nat → Bool) : ∀ (n a : Nat), (firstI q n a = -1 ∧ ∀ j, a ≤ j → j < a + n → q j = false) ∨ ∃ r : Nat, firstI q n a = (r : Int) ∧ a ≤ r ∧ r < a + n ∧ q r = true ∧ ∀ j, a ≤ j → j < r → q j = false
 | 0, a => Or.inl ⟨rfl, fun j h1 h2 => by omega⟩
 | n + 1, a => by
  by_cases h : q a = true
  ·exact Or.inr ⟨a, by simp only [firstI, if_pos h], Nat.le_refl _, by omega, h, fun j h1 h2 => by omega⟩
  ·have hf : q a = false := by simpa using h
   rcases first_cases q n (a + 1) with ⟨e, hn⟩ | ⟨r, e, h1, h2, h3, h4⟩
   ·refine Or.inl ⟨by simp only [firstI, if_neg h]; exact e, fun j h1 h2 => ?_⟩
    by_cases ej : j = a
    ·rw [ej]; exact hf
    ·exact hn j (by omega) (by omega)
   ·refine Or.inr ⟨r, by simp only [firstI, if_neg h]; exact e, by omega, by omega, h3, fun j h5 h6 => ?_⟩
    by_cases ej : j = a
    ·rw [ej]; exact hf
    ·exact h4 j (by omega) h6
theorem encFr_pos (k : Int) (p : List Int) : 9 ≤ (encFr k p).length := by rw [encFr_length]; omega
structure Sg where
 frm : Nat
 n : Nat
 isf : Bool
 kind : Int
 pay : List Int
deriving DecidableEq
def skipS (a r : Nat) : Sg := ⟨a, r - a, false, 0, []⟩
def frS (xs : List Int) (a : Nat) : Sg := ⟨a, (getFr (xs.drop a)).2.1, true, (getFr (xs.drop a)).1.1, (getFr (xs.drop a)).1.2⟩
def Begins (xs : List Int) (a : Nat) : Prop := (getFr (xs.drop a)).2.2 = 0
inductive PartsS (xs : List Int) : Nat → List Sg → Prop
 | stop (a : Nat) (h : xs.length ≤ a) : PartsS xs a []
 | rest (a : Nat) (h : a < xs.length) (hn : ∀ j, a ≤ j → j < xs.length → ¬ Begins xs j) : PartsS xs a [skipS a xs.length]
 | fr (a : Nat) (l : List Sg) (h : a < xs.length) (hb : Begins xs a) (hl : PartsS xs (a + (getFr (xs.drop a)).2.1) l) : PartsS xs a (frS xs a :: l)
 | gap (a r : Nat) (l : List Sg) (ha : a < r) (h : r < xs.length) (hn : ∀ j, a ≤ j → j < r → ¬ Begins xs j) (hb : Begins xs r) (hl : PartsS xs (r + (getFr (xs.drop r)).2.1) l) : PartsS xs a (skipS a r :: frS xs r :: l)
theorem begins_in {xs : List Int} {a : Nat} (hx : ∀ x ∈ xs, 0 ≤ x ∧ x < 256) (hb : Begins xs a) :
  9 ≤ (getFr (xs.drop a)).2.1 ∧ a + (getFr (xs.drop a)).2.1 ≤ xs.length ∧ ((getFr (xs.drop a)).1.1 = 1 ∨ (getFr (xs.drop a)).1.1 = 2) ∧ (getFr (xs.drop a)).1.2.length ≤ 4096 ∧
  (∀ x ∈ (getFr (xs.drop a)).1.2, 0 ≤ x ∧ x < 256) ∧ (xs.drop a).take (getFr (xs.drop a)).2.1 = encFr (getFr (xs.drop a)).1.1 (getFr (xs.drop a)).1.2 := by
 obtain ⟨h1, h2, h3, h4, h5⟩ := getFr_back (xs.drop a) (fun x h => hx x (List.mem_of_mem_drop h)) hb
 have e1 : ((xs.drop a).take (getFr (xs.drop a)).2.1).length = (getFr (xs.drop a)).2.1 := by rw [List.length_take]; omega
 have e2 := encFr_pos (getFr (xs.drop a)).1.1 (getFr (xs.drop a)).1.2
 rw [h4, e1] at e2
 rw [List.length_drop] at h3
 exact ⟨e2, by omega, h1, h2, h5, h4.symm⟩
theorem next_some {xs : List Int} {a r : Nat} (h : nextI false xs a = (r : Int)) : a ≤ r ∧ r < xs.length ∧ Begins xs r ∧ ∀ j, a ≤ j → j < r → ¬ Begins xs j := by
 rcases first_cases (begI false xs) (xs.length - (a : Int).toNat) (a : Int).toNat with ⟨e, _⟩ | ⟨q, e, h1, h2, h3, h4⟩
 ·unfold nextI at h
  omega
 ·unfold nextI at h
  obtain rfl : q = r := by omega
  rw [Int.toNat_natCast] at h1 h2 h4
  refine ⟨h1, by omega, by simpa [begI, Begins] using h3, fun j hj hj2 => ?_⟩
  have := h4 j hj hj2
  simpa [begI, Begins] using this
theorem next_no {xs : List Int} {a : Nat} (h : nextI false xs a < 0) : ∀ j, a ≤ j → j < xs.length → ¬ Begins xs j := by
 rcases first_cases (begI false xs) (xs.length - (a : Int).toNat) (a : Int).toNat with ⟨_, hn⟩ | ⟨q, e, _⟩
 ·rw [Int.toNat_natCast] at hn
  intro j hj hj2
  have := hn j hj (by omega)
  simpa [begI, Begins] using this
 ·unfold nextI at h
  omega
theorem next_ways (xs : List Int) (a : Nat) : nextI false xs a = -1 ∨ ∃ r : Nat, nextI false xs a = (r : Int) := by
 rcases first_cases (begI false xs) (xs.length - (a : Int).toNat) (a : Int).toNat with ⟨e, _⟩ | ⟨q, e, _⟩
 ·exact .inl e
 ·exact .inr ⟨q, e⟩
theorem PartsS.same {xs : List Int} {a : Nat} {l l' : List Sg} (h : PartsS xs a l) (h' : PartsS xs a l') : l = l' := by
 induction h generalizing l' with
 | stop a h =>
  cases h' with
  | stop _ _ => rfl
  | rest _ h2 _ => omega
  | fr _ _ h2 _ _ => omega
  | gap _ r _ h2 h3 _ _ _ => omega
 | rest a h hn =>
  cases h' with
  | stop _ h2 => omega
  | rest _ _ _ => rfl
  | fr _ _ _ hb _ => exact absurd hb (hn _ (Nat.le_refl _) h)
  | gap _ r _ h2 h3 _ hb _ => exact absurd hb (hn r (by omega) h3)
 | fr a l h hb _ ih =>
  cases h' with
  | stop _ h2 => omega
  | rest _ _ hn => exact absurd hb (hn _ (Nat.le_refl _) h)
  | fr _ _ _ _ hl => rw [ih hl]
  | gap _ r _ h2 _ hn _ _ => exact absurd hb (hn _ (Nat.le_refl _) h2)
 | gap a r l ha h hn hb _ ih =>
  cases h' with
  | stop _ h2 => omega
  | rest _ _ hn2 => exact absurd hb (hn2 r (by omega) h)
  | fr _ _ _ hb2 _ => exact absurd hb2 (hn _ (Nat.le_refl _) ha)
  | gap _ r2 _ h2 _ hn2 hb2 hl =>
   have e : r = r2 := by
    rcases Nat.lt_trichotomy r r2 with h3 | h3 | h3
    ·exact absurd hb (hn2 r (by omega) h3)
    ·exact h3
    ·exact absurd hb2 (hn r2 (by omega) h3)
   subst e
   rw [ih hl]
def Ahead (xs : List Int) (pre : List Sg) (a : Nat) : Prop := ∀ l, PartsS xs a l → PartsS xs 0 (pre ++ l)
theorem Ahead.start (xs : List Int) : Ahead xs [] 0 := fun _ h => h
theorem Ahead.done {xs : List Int} {pre : List Sg} {a : Nat} (h : Ahead xs pre a) (ha : xs.length ≤ a) : PartsS xs 0 pre := by
 have := h [] (.stop a ha)
 rwa [List.append_nil] at this
theorem Ahead.last {xs : List Int} {pre : List Sg} {a : Nat} (h : Ahead xs pre a) (ha : a < xs.length) (hn : ∀ j, a ≤ j → j < xs.length → ¬ Begins xs j) : PartsS xs 0 (pre ++ [skipS a xs.length]) :=
 h _ (.rest a ha hn)
theorem Ahead.fr {xs : List Int} {pre : List Sg} {a : Nat} (h : Ahead xs pre a) (ha : a < xs.length) (hb : Begins xs a) : Ahead xs (pre ++ [frS xs a]) (a + (getFr (xs.drop a)).2.1) := fun l hl => by
 have := h _ (.fr a l ha hb hl)
 simpa using this
theorem Ahead.gap {xs : List Int} {pre : List Sg} {a r : Nat} (h : Ahead xs pre a) (ha : a < r) (hr : r < xs.length) (hn : ∀ j, a ≤ j → j < r → ¬ Begins xs j) (hb : Begins xs r) : Ahead xs ((pre ++ [skipS a r]) ++ [frS xs r]) (r + (getFr (xs.drop r)).2.1) := fun l hl => by
 have := h _ (.gap a r l ha hr hn hb hl)
 simpa using this
def Tiled (xs : List Int) : Nat → Bool → List Sg → Prop
 | a, _, [] => a = xs.length
 | a, sk, s :: l => s.frm = a ∧ 1 ≤ s.n ∧ a + s.n ≤ xs.length ∧ (sk = true → s.isf = true) ∧
   (s.isf = true → (s.kind = 1 ∨ s.kind = 2) ∧ s.pay.length ≤ 4096 ∧ (∀ x ∈ s.pay, 0 ≤ x ∧ x < 256) ∧ (xs.drop a).take s.n = encFr s.kind s.pay) ∧
   (s.isf = false → ∀ j, a ≤ j → j < a + s.n → ¬ Begins xs j) ∧ Tiled xs (a + s.n) (!s.isf) l
theorem tiled_fr {xs : List Int} {a : Nat} {l : List Sg} (hx : ∀ x ∈ xs, 0 ≤ x ∧ x < 256) (hb : Begins xs a) (h : Tiled xs (a + (getFr (xs.drop a)).2.1) false l) (sk : Bool) : Tiled xs a sk (frS xs a :: l) := by
 obtain ⟨h1, h2, h3, h4, h5, h6⟩ := begins_in hx hb
 exact ⟨rfl, by simp only [frS]; omega, by simp only [frS]; omega, fun _ => rfl, fun _ => ⟨h3, h4, h5, h6⟩, fun e => by simp [frS] at e, h⟩
theorem PartsS.tiled {xs : List Int} (hx : ∀ x ∈ xs, 0 ≤ x ∧ x < 256) {a : Nat} {l : List Sg} (h : PartsS xs a l) : a ≤ xs.length → Tiled xs a false l := by
 induction h with
 | stop a h => intro ha; exact Nat.le_antisymm ha h
 | rest a h hn =>
  intro _
  refine ⟨rfl, by simp only [skipS]; omega, by simp only [skipS]; omega, fun e => (by cases e), fun e => by simp [skipS] at e, fun _ j h1 h2 => ?_, ?_⟩
  ·simp only [skipS] at h2
   exact hn j h1 (by omega)
  ·simp only [skipS, Tiled]
   omega
 | fr a l h hb _ ih =>
  intro _
  have := begins_in hx hb
  exact tiled_fr hx hb (ih (by omega)) _
 | gap a r l ha h hn hb _ ih =>
  intro _
  have := begins_in hx hb
  refine ⟨rfl, by simp only [skipS]; omega, by simp only [skipS]; omega, fun e => (by cases e), fun e => by simp [skipS] at e, fun _ j h1 h2 => ?_, ?_⟩
  ·simp only [skipS] at h2
   exact hn j h1 (by omega)
  ·simp only [skipS]
   rw [show a + (r - a) = r by omega]
   exact tiled_fr hx hb (ih (by omega)) _
def skipN : List Sg → Nat
 | [] => 0
 | s :: l => (if s.isf then 0 else s.n) + skipN l
theorem Tiled.le {xs : List Int} : ∀ (l : List Sg) (a : Nat) (sk : Bool), Tiled xs a sk l → l.length + a ≤ xs.length ∧ skipN l + a ≤ xs.length ∧ ∀ s ∈ l, a ≤ s.frm ∧ 1 ≤ s.n ∧ s.frm + s.n ≤ xs.length
 | [], a, _, h => by
  have h' : a = xs.length := h
  simp [skipN, h']
 | s :: l, a, sk, h => by
  obtain ⟨h1, h2, h3, _, _, _, h7⟩ := h
  obtain ⟨i1, i2, i3⟩ := Tiled.le l (a + s.n) _ h7
  refine ⟨by simp only [List.length_cons]; omega, by simp only [skipN]; split <;> omega, fun x hx => ?_⟩
  rcases List.mem_cons.1 hx with rfl | hx
  ·omega
  ·have := i3 x hx
   omega
theorem PartsS.le {xs : List Int} {l : List Sg} (hx : ∀ x ∈ xs, 0 ≤ x ∧ x < 256) (h : PartsS xs 0 l) : l.length ≤ xs.length ∧ skipN l ≤ xs.length ∧ ∀ s ∈ l, 1 ≤ s.n ∧ s.frm + s.n ≤ xs.length := by
 obtain ⟨h1, h2, h3⟩ := Tiled.le l 0 _ (h.tiled hx (Nat.zero_le _))
 exact ⟨by omega, by omega, fun s hs => (h3 s hs).2⟩
set_option linter.unusedVariables false
def NotT (w : World) (r : Option Nat) (e : TypeId) : Prop := ∀ j c f, r = some j → w.heap[j]? ≠ some (.cells c e f)
section
variable {w w' : World} {r : Option Nat} {e f : TypeId} {n m k j sz st : Nat} {u v : Value} {us vs : List Value}
theorem NotT.of_held {cs : Array Value} {g : Nat} (h : Held w g f cs) (hne : f ≠ e) : NotT w (some g) e := by
 rintro j c z hj hh
 injection hj with hj
 subst hj
 rw [show w.heap[g]? = _ from h] at hh
 injection hh with hh
 injection hh with _ h2 _
 exact hne h2
theorem NotT.of_own (h : w.ownsRow m f sz v k us) (hne : f ≠ e) : NotT w v.ownBlock e := by
 rintro j c z hj hh
 rcases h.2 with ⟨rfl, _⟩ | ⟨g, cap, cur, rfl, _, hg, _⟩
 ·simp [Value.ownBlock] at hj
 ·obtain rfl : g = j := by simpa [Value.ownBlock] using hj
  rw [hg] at hh
  injection hh with hh
  injection hh with _ h2 _
  exact hne h2
theorem NotT.ne (hn : NotT w r e) (h : w.ownsRow n e sz u k us) : u.ownBlock = none ∨ u.ownBlock ≠ r := by
 rcases h.2 with ⟨rfl, _⟩ | ⟨g, cap, cur, rfl, _, hg, _⟩
 ·exact .inl rfl
 ·exact .inr fun h2 => hn g cur (0, 0) h2.symm hg
theorem own_nott (h : w.ownsRow n e sz u k us) (hn : NotT w r e) (hg : w.grownBy w' r) : w'.ownsRow n e sz u k us := h.kept hg (hn.ne h)
theorem OwnE.nott {es : List Em} (h : OwnE w n u es) (h1 : NotT w r 97) (h2 : NotT w r 100) (hg : w.grownBy w' r) : OwnE w' n u es :=
 ⟨own_nott h.1 h2 hg, fun d hd => ⟨own_nott (h.2 d hd).1 h1 hg, (h.2 d hd).2⟩⟩
theorem OwnT.nott {ps : List Pm} (h : OwnT w n u ps) (h1 : NotT w r 97) (h2 : NotT w r 100) (h3 : u.ownBlock = none ∨ u.ownBlock ≠ r) (hg : w.grownBy w' r) : OwnT w' n u ps :=
 ⟨h.1.kept hg h3, fun d hd => ⟨(h.2 d hd).1.nott h1 h2 hg, (h.2 d hd).2⟩⟩
theorem tne1 : 51 ≠ 97 := by decide
theorem tne2 : 51 ≠ 100 := by decide
theorem OwnT.joined {ps qs : List Pm} {v' : Value} (h : OwnT w n v ps) (q : OwnT w m u qs) (hm : n ≤ m) (ho : w'.ownsRow n 51 2 v' (ps ++ qs).length (flatN (ps ++ qs))) (hg : w.grownBy w' v.ownBlock) : OwnT w' n v' (ps ++ qs) := by
 have n1 := NotT.of_own h.1 tne1
 have n2 := NotT.of_own h.1 tne2
 refine ⟨ho, fun d hd => ?_⟩
 rcases List.mem_append.1 hd with hd | hd
 ·exact ⟨(h.2 d hd).1.nott n1 n2 hg, (h.2 d hd).2⟩
 ·exact ⟨((q.2 d hd).1.base hm).nott n1 n2 hg, (q.2 d hd).2⟩
theorem PartN.of_grown {S : Nat → Prop} (h : w.grownBy w' r) (hr : ∀ j, r = some j → S j) : PartN S w w' := ⟨h.os, h.tape, h.output, h.size, fun i hi hn => h.block i hi (fun e => hn (hr i e.symm))⟩
theorem PartN.more {S T : Nat → Prop} (h : PartN S w w') (hs : ∀ j, S j → T j) : PartN T w w' := ⟨h.os, h.tape, h.output, h.size, fun i hi hn => h.block i hi (fun x => hn (hs i x))⟩
end
def ob : Option Addr → Option Nat
 | some a => some a.block
 | none => none
theorem ob_own (A : Option Addr) (n c : Nat) : (Value.slice A n c).ownBlock = ob A := by cases A <;> rfl
structure Gp where
 sig : List Pr
 isg : Bool
 pts : List Pn
 sk : Int
 fr : Int
 rej : List (Int × Int)
def noG : Gp := ⟨[], false, [], 0, 0, []⟩
structure Sj where
 frm : Int
 n : Int
 isf : Bool
 kind : Int
 pay : List Int
def lateG (l m : List Pn) : Bool := decide (0 < l.length) && decide ((m.getD 0 default).tm < (l.getD (l.length - 1) default).tm)
def frameG (g : Gp) (k : Int) (p : List Int) : Gp × Int :=
 if k = 1 then
  if (getSig p).2 ≠ 0 then (g, (getSig p).2)
  else if g.isg = true ∧ (getSig p).1 ≠ g.sig then (g, 7)
  else (⟨(getSig p).1, true, g.pts, g.sk, g.fr, g.rej⟩, 0)
 else if k ≠ 2 then (g, 4)
 else if g.isg = false then (g, 10)
 else if (getU g.sig p).2 ≠ 0 then (g, (getU g.sig p).2)
 else if lateG g.pts (getU g.sig p).1 = true then (g, 8)
 else (⟨g.sig, g.isg, g.pts ++ (getU g.sig p).1, g.sk, g.fr, g.rej⟩, 0)
def takeS (g : Gp) (s : Sj) : Gp :=
 if s.isf = false then ⟨g.sig, g.isg, g.pts, g.sk + s.n, g.fr, g.rej⟩
 else if (frameG g s.kind s.pay).2 ≠ 0 then ⟨g.sig, g.isg, g.pts, g.sk, g.fr, g.rej ++ [(s.frm, (frameG g s.kind s.pay).2)]⟩
 else ⟨(frameG g s.kind s.pay).1.sig, (frameG g s.kind s.pay).1.isg, (frameG g s.kind s.pay).1.pts, g.sk, g.fr + 1, g.rej⟩
def takeL (g : Gp) (l : List Sj) : Gp := l.foldl takeS g
theorem takeL_succ {g : Gp} {l : List Sj} {k : Nat} {s : Sj} (h : l[k]? = some s) : takeL g (l.take (k + 1)) = takeS (takeL g (l.take k)) s := by
 unfold takeL
 rw [List.take_add_one, h, List.foldl_append]
 rfl
theorem frameG_kept {g : Gp} {k : Int} {p : List Int} (h : (frameG g k p).2 ≠ 0) : (frameG g k p).1 = g := by
 unfold frameG at h ⊢
 split
 ·rename_i h1
  rw [if_pos h1] at h
  split
  ·rfl
  ·rename_i h2
   rw [if_neg h2] at h
   split
   ·rfl
   ·rename_i h3; rw [if_neg h3] at h; exact absurd rfl h
 ·rename_i h1
  rw [if_neg h1] at h
  split
  ·rfl
  ·rename_i h2
   rw [if_neg h2] at h
   split
   ·rfl
   ·rename_i h3
    rw [if_neg h3] at h
    split
    ·rfl
    ·rename_i h4
     rw [if_neg h4] at h
     split
     ·rfl
     ·rename_i h5; rw [if_neg h5] at h; exact absurd rfl h
theorem frameG_counts (g : Gp) (k : Int) (p : List Int) : (frameG g k p).1.sk = g.sk ∧ (frameG g k p).1.fr = g.fr ∧ (frameG g k p).1.rej = g.rej := by
 unfold frameG
 split
 ·split
  ·exact ⟨rfl, rfl, rfl⟩
  ·split <;> exact ⟨rfl, rfl, rfl⟩
 ·split
  ·exact ⟨rfl, rfl, rfl⟩
  ·split
   ·exact ⟨rfl, rfl, rfl⟩
   ·split
    ·exact ⟨rfl, rfl, rfl⟩
    ·split <;> exact ⟨rfl, rfl, rfl⟩
theorem rget_none (xs : List Int) (hb : ∀ x ∈ xs, 0 ≤ x ∧ x < 256) (hl : xs.length ≤ 9223372036854775807) (hno : ∀ j, j < xs.length → j < 10 → 128 ≤ xs.getD j 0) (er : Int) (her : er = if xs.length < 10 then 2 else 3) (w : World) :
  Calls Tryz.prog 14 #[.string (strOfNums xs)] w fun e w' => e = .returned (.tuple #[.int .u64 0, .int .i64 0, .int .i64 er]) ∧ w = w' := by
 have HER := hid her; clear her
 have hsz := strOfNums_size xs
 have HB := hid hb; clear hb
 have HNO := hid hno; clear hno
 go_enter Tryz.func14, Tryz.ntmps14
 go_wp2
 go_loop [5, 6] (fun t i => ∃ k : Nat, k ≤ xs.length ∧ k ≤ 10 ∧ t = .int .i64 (-1) ∧ i = .int .i64 k) (fun _ i => 10 - (intOf i).toNat)
 case atStart => exact ⟨0, Nat.zero_le _, Nat.zero_le _, rfl, rfl⟩
 case round =>
  obtain ⟨k, hk, hk10, rfl, rfl⟩ := hrel
  by_cases hlt : k < xs.length
  ·by_cases h10 : k < 10
   ·have hat := str_at xs HB.out k hlt (by omega)
    have hge := HNO.out k hlt h10
    generalize xs.getD k 0 = y at hat hge
    go_wp2
    exact ⟨⟨k + 1, by omega, by omega, rfl, by go_num⟩, by simp [intOf]; omega⟩
   ·obtain rfl : k = 10 := by omega
    go_wp2
    go_ret3
    exact ⟨by rw [HER.out, if_neg (by omega)]; rfl, rfl⟩
  ·obtain rfl : k = xs.length := by omega
   by_cases h10 : xs.length < 10
   ·go_wp2
    go_ret3
    exact ⟨by rw [HER.out, if_pos h10]; rfl, rfl⟩
   ·go_wp2
    go_ret3
    exact ⟨by rw [HER.out, if_neg (by omega)]; rfl, rfl⟩
theorem rget_some (xs : List Int) (hb : ∀ x ∈ xs, 0 ≤ x ∧ x < 256) (hl : xs.length ≤ 9223372036854775807) (t : Nat) (ht : t < xs.length) (ht10 : t < 10) (hno : ∀ j, j < t → 128 ≤ xs.getD j 0) (hyes : xs.getD t 0 < 128)
  (hv : lastI t (xs.getD t 0) = 0 → val (xs.take (t + 1)) < 18446744073709551616) (r : Value) (hr : r = if lastI t (xs.getD t 0) = 0 then .tuple #[.int .u64 (val (xs.take (t + 1))), .int .i64 (t + 1 : Nat), .int .i64 0] else .tuple #[.int .u64 0, .int .i64 0, .int .i64 (lastI t (xs.getD t 0))]) (w : World) :
  Calls Tryz.prog 14 #[.string (strOfNums xs)] w fun e w' => e = .returned r ∧ w = w' := by
 have HR := hid hr; clear hr
 have hsz := strOfNums_size xs
 have HB := hid hb; clear hb
 have HNO := hid hno; clear hno
 have HV := hid hv; clear hv
 have hatt := str_at xs HB.out t ht (by omega)
 have hyr := HB.out (xs.getD t 0) (by rw [List.getD, List.getElem?_eq_getElem ht]; simp)
 obtain ⟨y0, y1⟩ := hyr
 generalize hY : xs.getD t 0 = y at hatt hyes HV HR y0 y1
 have HY := hid hY; clear hY
 have HATT := hid hatt; clear hatt
 go_enter Tryz.func14, Tryz.ntmps14
 go_wp2
 go_loop [5, 6] (fun l i => ∃ k : Nat, k ≤ t + 1 ∧ l = .int .i64 (if k = t + 1 then (t : Int) else -1) ∧ i = .int .i64 k) (fun _ i => 11 - (intOf i).toNat)
 case atStart => exact ⟨0, Nat.zero_le _, by simp, rfl⟩
 case round =>
  obtain ⟨k, hk, rfl, rfl⟩ := hrel
  rcases (by omega : k < t ∨ k = t ∨ k = t + 1) with hlt | rfl | rfl
  ·have hat := str_at xs HB.out k (by omega) (by omega)
   have hge := HNO.out k hlt
   generalize xs.getD k 0 = z at hat hge
   rw [if_neg (by omega)]
   go_wp2
   exact ⟨⟨k + 1, by omega, by rw [if_neg (by omega)], by go_num⟩, by simp [intOf]; omega⟩
  ·have hat := HATT.out
   rw [if_neg (by omega)]
   go_wp2
   exact ⟨⟨k + 1, by omega, by rw [if_pos rfl], by go_num⟩, by simp [intOf]; omega⟩
  ·have hat := HATT.out
   rw [if_pos rfl]
   by_cases c1 : t = 9 ∧ 1 < y
   ·obtain ⟨rfl, c1⟩ := c1
    have e1 : lastI 9 y = 3 := by unfold lastI; rw [if_pos ⟨rfl, c1⟩]
    have E1 := hid e1; clear e1
    go_wp2_with fail
    all_goals (go_ret3; exact ⟨by rw [HR.out, E1.out]; rfl, rfl⟩)
   ·by_cases c2 : 0 < t ∧ y = 0
    ·obtain ⟨c2, rfl⟩ := c2
     have e1 : lastI t 0 = 4 := by unfold lastI; rw [if_neg (by omega), if_pos ⟨c2, rfl⟩]
     have E1 := hid e1; clear e1
     by_cases c9 : t = 9
     ·subst c9
      go_wp2_with fail
      all_goals (go_ret3; exact ⟨by rw [HR.out, E1.out]; rfl, rfl⟩)
     ·have b9 : ((t : Int) == 9) = false := beq_eq_false_iff_ne.2 (by omega)
      go_wp2_with fail
      all_goals (go_ret3; exact ⟨by rw [HR.out, E1.out]; rfl, rfl⟩)
    ·have e1 : lastI t y = 0 := by unfold lastI; rw [if_neg c1, if_neg c2]
     have hv := HV.out e1
     have E1 := hid e1; clear e1
     have hr : r = .tuple #[.int .u64 (val (xs.take (t + 1))), .int .i64 ((t : Int) + 1), .int .i64 0] := by rw [HR.out, if_pos E1.out]; rfl
     have HR2 := hid hr; clear hr
     have HVV := hid hv; clear hv
     have hyn : ∀ j, j ≤ t → ∃ z, 0 ≤ z ∧ z < 256 ∧ xs.getD j 0 = z ∧ val ((xs.take (t + 1)).drop j) = z % 128 + 128 * val ((xs.take (t + 1)).drop (j + 1)) := fun j hj => by
      have hjl : j < xs.length := by omega
      have hz := HB.out (xs.getD j 0) (by rw [List.getD, List.getElem?_eq_getElem hjl]; simp)
      refine ⟨_, hz.1, hz.2, rfl, ?_⟩
      have hjl' : j < (xs.take (t + 1)).length := by simp; omega
      rw [List.drop_eq_getElem_cons hjl', val]
      simp [List.getD, List.getElem?_eq_getElem hjl]
     have HYN := hid hyn; clear hyn
     have hd := val_drop_le (xs.take (t + 1))
     have HD := hid hd; clear hd
     have hnn := fun j => val_nonneg ((xs.take (t + 1)).drop j)
     have HNN := hid hnn; clear hnn
     have hend : val ((xs.take (t + 1)).drop (t + 1)) = 0 := by rw [List.drop_of_length_le (by simp; omega)]; rfl
     have HEND := hid hend; clear hend
     have hbeg : (xs.take (t + 1)).drop 0 = xs.take (t + 1) := by simp
     have HBEG := hid hbeg; clear hbeg
     have hatS := fun j (hj : j < xs.length) => str_at xs HB.out j hj (by omega)
     have HAT := hid hatS; clear hatS
     generalize hL : xs.take (t + 1) = l at HYN HD HNN HEND HBEG HR2 HVV
     clear HV HR hL HY
     have key : (t = 9 ∧ y = 1) ∨ (t ≠ 9 ∧ 0 < t ∧ y ≠ 0) ∨ t = 0 := by omega
     clear c1 c2
     rcases key with ⟨rfl, rfl⟩ | ⟨n9, h0, hy0⟩ | rfl
     ·go_wp2_with fail
      all_goals
       clear hat
       go_loop [7, 8] (fun n i => ∃ m : Int, -1 ≤ m ∧ m ≤ (9 : Int) ∧ i = .int .i64 m ∧ n = .int .u64 (val (l.drop (m + 1).toNat))) (fun _ i => (intOf i + 1).toNat)
       case atStart => exact ⟨(9 : Int), by omega, by omega, rfl, by rw [show ((9 : Int) + 1).toNat = 9 + 1 by omega, HEND.out]⟩
       case round =>
        obtain ⟨m, m0, m1, rfl, rfl⟩ := hrel
        by_cases hm : m = -1
        ·subst hm
         have ez : (-1 + 1 : Int).toNat = 0 := rfl
         rw [ez, HBEG.out]
         go_wp2_with fail
         go_ret3
         exact ⟨by rw [HR2.out]; rfl, rfl⟩
        ·obtain ⟨j, rfl⟩ := Int.eq_ofNat_of_zero_le (show 0 ≤ m by omega)
         clear hm
         obtain ⟨z, z0, z1, hz, hzv⟩ := HYN.out j (by omega)
         have hjx : j < xs.length := by omega
         have hatj := HAT.out j hjx
         rw [hz] at hatj
         have n0 := HNN.out (j + 1)
         have n1 := HD.out j
         have n2 := HVV.out
         have n3 : 128 * val (l.drop (j + 1)) + z % 128 < 18446744073709551616 := by omega
         have HZV := hid hzv; clear hzv hz n1 n2
         have ej : ((j : Int) + 1).toNat = j + 1 := by omega
         rw [ej]
         clear ej
         have ev : val (l.drop j) = 128 * val (l.drop (j + 1)) + z % 128 := by rw [HZV.out]; omega
         have EV := hid ev; clear ev
         generalize val (l.drop (j + 1)) = N at n0 n3 EV ⊢
         go_wp2_with fail
         refine ⟨⟨(j : Int) - 1, by omega, by omega, rfl, ?_⟩, by simp [intOf]⟩
         rw [show ((j : Int) - 1 + 1).toNat = j by omega, EV.out]
     ·have b9 : ((t : Int) == 9) = false := beq_eq_false_iff_ne.2 (by omega)
      have by0 : (y == 0) = false := beq_eq_false_iff_ne.2 hy0
      clear n9 hy0
      go_wp2_with fail
      all_goals
       clear hat
       go_loop [7, 8] (fun n i => ∃ m : Int, -1 ≤ m ∧ m ≤ (t : Int) ∧ i = .int .i64 m ∧ n = .int .u64 (val (l.drop (m + 1).toNat))) (fun _ i => (intOf i + 1).toNat)
       case atStart => exact ⟨(t : Int), by omega, by omega, rfl, by rw [show ((t : Int) + 1).toNat = t + 1 by omega, HEND.out]⟩
       case round =>
        obtain ⟨m, m0, m1, rfl, rfl⟩ := hrel
        by_cases hm : m = -1
        ·subst hm
         have ez : (-1 + 1 : Int).toNat = 0 := rfl
         rw [ez, HBEG.out]
         go_wp2_with fail
         go_ret3
         exact ⟨by rw [HR2.out]; rfl, rfl⟩
        ·obtain ⟨j, rfl⟩ := Int.eq_ofNat_of_zero_le (show 0 ≤ m by omega)
         clear hm
         obtain ⟨z, z0, z1, hz, hzv⟩ := HYN.out j (by omega)
         have hjx : j < xs.length := by omega
         have hatj := HAT.out j hjx
         rw [hz] at hatj
         have n0 := HNN.out (j + 1)
         have n1 := HD.out j
         have n2 := HVV.out
         have n3 : 128 * val (l.drop (j + 1)) + z % 128 < 18446744073709551616 := by omega
         have HZV := hid hzv; clear hzv hz n1 n2
         have ej : ((j : Int) + 1).toNat = j + 1 := by omega
         rw [ej]
         clear ej
         have ev : val (l.drop j) = 128 * val (l.drop (j + 1)) + z % 128 := by rw [HZV.out]; omega
         have EV := hid ev; clear ev
         generalize val (l.drop (j + 1)) = N at n0 n3 EV ⊢
         go_wp2_with fail
         refine ⟨⟨(j : Int) - 1, by omega, by omega, rfl, ?_⟩, by simp [intOf]⟩
         rw [show ((j : Int) - 1 + 1).toNat = j by omega, EV.out]
     ·go_wp2_with fail
      all_goals
       clear hat
       go_loop [7, 8] (fun n i => ∃ m : Int, -1 ≤ m ∧ m ≤ (0 : Int) ∧ i = .int .i64 m ∧ n = .int .u64 (val (l.drop (m + 1).toNat))) (fun _ i => (intOf i + 1).toNat)
       case atStart => exact ⟨(0 : Int), by omega, by omega, rfl, by rw [show ((0 : Int) + 1).toNat = 0 + 1 by omega, HEND.out]⟩
       case round =>
        obtain ⟨m, m0, m1, rfl, rfl⟩ := hrel
        by_cases hm : m = -1
        ·subst hm
         have ez : (-1 + 1 : Int).toNat = 0 := rfl
         rw [ez, HBEG.out]
         go_wp2_with fail
         go_ret3
         exact ⟨by rw [HR2.out]; rfl, rfl⟩
        ·obtain ⟨j, rfl⟩ := Int.eq_ofNat_of_zero_le (show 0 ≤ m by omega)
         clear hm
         obtain ⟨z, z0, z1, hz, hzv⟩ := HYN.out j (by omega)
         have hjx : j < xs.length := by omega
         have hatj := HAT.out j hjx
         rw [hz] at hatj
         have n0 := HNN.out (j + 1)
         have n1 := HD.out j
         have n2 := HVV.out
         have n3 : 128 * val (l.drop (j + 1)) + z % 128 < 18446744073709551616 := by omega
         have HZV := hid hzv; clear hzv hz n1 n2
         have ej : ((j : Int) + 1).toNat = j + 1 := by omega
         rw [ej]
         clear ej
         have ev : val (l.drop j) = 128 * val (l.drop (j + 1)) + z % 128 := by rw [HZV.out]; omega
         have EV := hid ev; clear ev
         generalize val (l.drop (j + 1)) = N at n0 n3 EV ⊢
         go_wp2_with fail
         refine ⟨⟨(j : Int) - 1, by omega, by omega, rfl, ?_⟩, by simp [intOf]⟩
         rw [show ((j : Int) - 1 + 1).toNat = j by omega, EV.out]
theorem first_of (xs : List Int) : ∀ k : Nat, (∀ j, j < xs.length → j < k → 128 ≤ xs.getD j 0) ∨ ∃ t, t < k ∧ t < xs.length ∧ (∀ j, j < t → 128 ≤ xs.getD j 0) ∧ xs.getD t 0 < 128 := by
 intro k
 induction k with
 | zero => exact .inl fun _ _ h => absurd h (Nat.not_lt_zero _)
 | succ k ih =>
  rcases ih with h | ⟨t, h1, h2, h3, h4⟩
  ·by_cases hk : k < xs.length
   ·by_cases hx : xs.getD k 0 < 128
    ·exact .inr ⟨k, by omega, hk, fun j hj => h j (by omega) hj, hx⟩
    ·exact .inl fun j h1 h2 => by
      by_cases e : j = k
      ·subst e; omega
      ·exact h j h1 (by omega)
   ·exact .inl fun j h1 h2 => h j h1 (by omega)
  ·exact .inr ⟨t, by omega, h2, h3, h4⟩
theorem rget_any (xs : List Int) (hb : ∀ x ∈ xs, 0 ≤ x ∧ x < 256) (hl : xs.length ≤ 9223372036854775807) (w : World) :
  Calls Tryz.prog 14 #[.string (strOfNums xs)] w fun e w' => e = .returned (.tuple #[.int .u64 (getI xs).1, .int .i64 (getI xs).2.1, .int .i64 (getI xs).2.2]) ∧ w = w' := by
 rcases first_of xs 10 with h | ⟨t, h1, h2, h3, h4⟩
 ·by_cases h10 : xs.length < 10
  ·have e := lenI_short xs h10 (fun j hj => h j hj (by omega))
   have eg : getI xs = (0, 0, 2) := by unfold getI; rw [e]; rfl
   rw [eg]
   exact rget_none xs hb hl h 2 (by rw [if_pos h10]) w
  ·have e := lenI_long xs (by omega) (fun j hj => h j (by omega) hj)
   have eg : getI xs = (0, 0, 3) := by unfold getI; rw [e]; rfl
   rw [eg]
   exact rget_none xs hb hl h 3 (by rw [if_neg h10]) w
 ·have e := lenI_found xs t h1 h3 h2 h4
  refine rget_some xs hb hl t h2 h1 h3 h4 (fun h0 => ?_) _ ?_ w
  ·have h2' : (lenI 0 xs).2 = 0 := by rw [e]; exact h0
   have := (getI_back xs hb h2').2.2.2.2
   rw [e] at this
   exact this
  ·unfold getI
   rw [e]
   by_cases h0 : lastI t (xs.getD t 0) = 0
   ·simp only [h0, if_true]
   ·simp only [h0, if_false]
    rfl
theorem last_any (i : Nat) (x : Int) (hi : i ≤ 9) (hx0 : 0 ≤ x) (hx : x < 256) (w : World) :
  Calls Tryz.prog 155 #[.int .i64 i, .int .u8 x] w fun e w' => e = .returned (.int .i64 (lastI i x)) ∧ w = w' := by
 by_cases h9 : i = 9
 ·subst h9
  by_cases h1 : 1 < x
  ·have e1 : lastI 9 x = 3 := by unfold lastI; rw [if_pos ⟨rfl, h1⟩]
   have E1 := hid e1; clear e1
   go_enter Tryz.func155, Tryz.ntmps155
   go_wp2
   go_ret
   exact ⟨by rw [E1.out]; rfl, rfl⟩
  ·by_cases h0 : x = 0
   ·subst h0
    go_enter Tryz.func155, Tryz.ntmps155
    go_wp2
    go_ret
    exact ⟨rfl, rfl⟩
   ·obtain rfl : x = 1 := by omega
    go_enter Tryz.func155, Tryz.ntmps155
    go_wp2
    go_ret
    exact ⟨rfl, rfl⟩
 ·have b9 : ((i : Int) == 9) = false := beq_eq_false_iff_ne.2 (by omega)
  by_cases h0 : 0 < i
  ·by_cases hz : x = 0
   ·subst hz
    have e1 : lastI i 0 = 4 := by unfold lastI; rw [if_neg (by omega), if_pos ⟨h0, rfl⟩]
    have E1 := hid e1; clear e1
    go_enter Tryz.func155, Tryz.ntmps155
    go_wp2
    go_ret
    exact ⟨by rw [E1.out]; rfl, rfl⟩
   ·have e1 : lastI i x = 0 := by unfold lastI; rw [if_neg (by omega), if_neg (by omega)]
    have E1 := hid e1; clear e1
    have bz : (x == 0) = false := beq_eq_false_iff_ne.2 hz
    go_enter Tryz.func155, Tryz.ntmps155
    go_wp2
    go_ret
    exact ⟨by rw [E1.out]; rfl, rfl⟩
  ·obtain rfl : i = 0 := by omega
   have e1 : lastI 0 x = 0 := by unfold lastI; rw [if_neg (by omega), if_neg (by omega)]
   have E1 := hid e1; clear e1
   go_enter Tryz.func155, Tryz.ntmps155
   go_wp2
   go_ret
   exact ⟨by rw [E1.out]; rfl, rfl⟩
theorem length_any (A : Option Addr) (c : Nat) (xs : List Int) (w : World) (hrow : Row w w.heap.size (.slice A xs.length c) xs) (hb : ∀ x ∈ xs, 0 ≤ x ∧ x < 256) :
  Calls Tryz.prog 105 #[.slice A xs.length c] w fun e w' => e = .returned (.tuple #[.int .i64 (lenI 0 xs).1, .int .i64 (lenI 0 xs).2]) ∧ w = w' := by
 obtain ⟨A', c', hv, hlc, hcm, _, hcells⟩ := hrow
 injection hv with h1 h2 h3
 subst h1 h3
 unfold maxLen at hcm
 have hsz : xs.length ≤ 9223372036854775807 := by omega
 obtain ⟨M, hM, hM1, hM2, hM3⟩ : ∃ M : Nat, min (xs.length : Int) 10 = M ∧ M ≤ xs.length ∧ M ≤ 10 ∧ (M = xs.length ∨ M = 10) := by
  by_cases h : xs.length ≤ 10
  ·exact ⟨xs.length, by omega, by omega, by omega, .inl rfl⟩
  ·exact ⟨10, by omega, by omega, by omega, .inr rfl⟩
 have HM3 := hid hM3; clear hM3
 have HC := hid hcells; clear hcells
 have HB := hid hb; clear hb
 go_enter Tryz.func105, Tryz.ntmps105
 go_wp2
 have HM := hid hM; clear hM
 go_loop [8] (fun i => ∃ k : Nat, k ≤ M ∧ i = .int .i64 k ∧ Hid (∀ j, j < k → 128 ≤ xs.getD j 0)) (fun i => M - (intOf i).toNat)
 case atStart => exact ⟨0, Nat.zero_le _, rfl, hid (fun j h => absurd h (Nat.not_lt_zero _))⟩
 case round =>
  obtain ⟨k, hk, rfl, HJ⟩ := hrel
  by_cases hlt : k < M
  ·obtain ⟨b, o, rfl, _, hc⟩ := HC.out (by omega)
   have hck := hc k (by omega)
   clear hc
   have hin : xs.getD k 0 ∈ xs := by rw [List.getD, List.getElem?_eq_getElem (by omega)]; simp
   obtain ⟨y0, y1⟩ := HB.out _ hin
   clear hin
   obtain ⟨y, hy⟩ : ∃ y, xs.getD k 0 = y := ⟨_, rfl⟩
   rw [hy] at hck y0 y1
   have HY := hid hy; clear hy
   by_cases hs : y < 128
   ·have hfin : lenI 0 xs = (k + 1, lastI k y) := by rw [← HY.out]; exact lenI_found xs k (by omega) HJ.out (by omega) (by rw [HY.out]; exact hs)
    have HF := hid hfin; clear hfin
    go_wp2_with (go_at_call 155; refine (last_any k y (by omega) y0 y1 _).mono ?_; rintro e w' ⟨rfl, rfl⟩)
    go_ret2
    exact ⟨by rw [HF.out]; simp, rfl⟩
   ·go_wp2_with fail
    go_round
    case rel => exact ⟨k + 1, by omega, by go_num, hid (fun j hj => by
     rcases Nat.lt_or_ge j k with h | h
     ·exact HJ.out j h
     ·obtain rfl : j = k := by omega
      rw [HY.out]; omega)⟩
    case measure => simp [intOf]; omega
  ·obtain rfl : k = M := by omega
   rcases Nat.lt_or_ge xs.length 10 with h10 | h10
   ·have hfin : lenI 0 xs = (0, 2) := lenI_short xs h10 (fun j hj => HJ.out j (by rcases HM3.out with h | h <;> omega))
    have HF := hid hfin; clear hfin
    go_wp2_with fail
    go_ret2
    exact ⟨by rw [HF.out]; rfl, rfl⟩
   ·have hfin : lenI 0 xs = (0, 3) := lenI_long xs h10 (fun j hj => HJ.out j (by rcases HM3.out with h | h <;> omega))
    have HF := hid hfin; clear hfin
    go_wp2_with fail
    go_ret2
    exact ⟨by rw [HF.out]; rfl, rfl⟩
section
open Go.RowKit Go.Shelf
attribute [local go_sem] Oper.semAt_some
abbrev Grp := { p : Int × Int // 0 ≤ p.1 ∧ p.1 ≤ 63 ∧ 0 ≤ p.2 ∧ p.2 ≤ 127 }
def grp (xs : List Int) (k : Nat) : Grp := if h : k ≤ 9 then ⟨(7 * (k : Int), xs.getD k 0 % 128), by constructor <;> simp <;> omega⟩ else ⟨(0, 0), by simp⟩
def grps (xs : List Int) (k : Nat) : List Grp := (List.range k).map (grp xs)
theorem grps_succ (xs : List Int) (k : Nat) : grps xs (k + 1) = grps xs k ++ [grp xs k] := by simp [grps, List.range_succ]
theorem grps_length (xs : List Int) (k : Nat) : (grps xs k).length = k := by simp [grps]
theorem groups1_in (F : Fence) (m : Nat) (hf : F.fn 156) (hro : F.round = none) (hm : 1 ≤ m) (l Bs n₀ : Nat) (A : Option Addr) (c : Nat) (xs : List Int) (h10 : xs.length ≤ 10) (hb : ∀ x ∈ xs, 0 ≤ x ∧ x < 256) (J Jx : List Grp → World → Prop)
  (hY : ∀ pre (x : Grp) W, J pre W → pre.length < xs.length → YieldAt F (m - 1) Tryz.prog l #[.int .i64 x.1.1, .int .u64 x.1.2] W fun e W' =>
   (e = .returned (.bool true) ∧ J (pre ++ [x]) W' ∧ Below n₀ W W') ∨ (e = .returned (.bool false) ∧ Jx (pre ++ [x]) W'))
  (W : World) (hBs : W.cell? ⟨Bs, 0, none⟩ = some (.slice A xs.length c)) (hrow : Row W n₀ (.slice A xs.length c) xs) (h0 : J [] W) :
  CallsIn F m Tryz.prog 156 #[.func (.yield l) #[] #[], .pointer (some ⟨Bs, 0, none⟩)] W fun e W' => (∃ v, e = .returned v) ∧
   ((∃ ys, ys = grps xs xs.length ∧ J ys W') ∨ (∃ pre, (∃ k, pre = grps xs k) ∧ Jx pre W')) := by
 have HR := hid hrow; clear hrow
 have HB := hid hb; clear hb
 refine callsIn_of_wp Tryz.func156 rfl hf ?_ hro
 simp only [Tryz.ntmps156, List.size_toArray, List.length_cons, List.length_nil, Nat.reduceAdd, Nat.reduceSub, Array.replicate_succ, Array.replicate_zero, List.push_toArray, List.append_toArray, List.nil_append, List.cons_append]
 gi_wp2
 gi_loopw [7] (fun i wr => ∃ k : Nat, k ≤ xs.length ∧ i = .int .i64 k ∧ J (grps xs k) wr ∧ Below n₀ W wr)
  (fun i _ => xs.length - (intOf i).toNat)
 case atStart => exact ⟨0, Nat.zero_le _, rfl, h0, Below.refl _ _⟩
 case round =>
  obtain ⟨k, hk, rfl, hJs, hnx⟩ := hrel
  by_cases hlt : k < xs.length
  ·obtain ⟨A', c', hv, _, _, _, hcells⟩ := HR.out.below hnx
   injection hv with e1 e2 e3
   subst e1 e3
   obtain ⟨b, o, rfl, _, hc⟩ := hcells (by omega)
   have hck := hc k hlt
   clear hc hcells e2
   have hin : xs.getD k 0 ∈ xs := by rw [List.getD, List.getElem?_eq_getElem hlt]; simp
   obtain ⟨y0, y1⟩ := HB.out _ hin
   clear hin
   obtain ⟨y, hy⟩ : ∃ y, xs.getD k 0 = y := ⟨_, rfl⟩
   rw [hy] at hck y0 y1
   have hg : (grp xs k).1 = (7 * (k : Int), y % 128) := by rw [← hy]; unfold grp; rw [dif_pos (by omega)]
   clear hy
   obtain ⟨fn, tmps, assign, body, hy, hR⟩ := hY _ (grp xs k) wr hJs (by rw [grps_length]; exact hlt)
   simp only [hg] at hy
   clear hg
   gi_wp2
   refine hR.mono ?_
   rintro e W3 (⟨rfl, hJ3, hk3⟩ | ⟨rfl, hJx3⟩)
   ·gi_wp2
    go_roundw
    case rel => exact ⟨k + 1, by omega, by go_num, by rw [grps_succ]; exact hJ3, hnx.trans hk3⟩
    case measure => simp [intOf]; omega
   ·gi_wp2
    refine bodyPost_ret (results_none rfl _ _ _) rfl ?_
    exact ⟨⟨_, rfl⟩, .inr ⟨_, ⟨k + 1, (grps_succ _ _).symm⟩, hJx3⟩⟩
  ·obtain rfl : k = xs.length := by omega
   gi_wp2
   go_end0
   exact ⟨⟨_, rfl⟩, .inl ⟨_, rfl, hJs⟩⟩
theorem groups_in (F : Fence) (m : Nat) (hf : F.fn 106) (hro : F.round = none) (A : Option Addr) (k c : Nat) (w : World) :
  CallsIn F m Tryz.prog 106 #[.slice A k c] w fun e w' => e = .returned (.func (.func 156) #[] #[.pointer (some ⟨w.heap.size, 0, none⟩)]) ∧ w' = w.alloc (.cells #[.slice A k c] 23) := by
 refine callsIn_of_wp Tryz.func106 rfl hf ?_ hro
 simp only [Tryz.ntmps106, List.size_toArray, List.length_cons, List.length_nil, Nat.reduceAdd, Nat.reduceSub, Array.replicate_succ, Array.replicate_zero, List.push_toArray, List.append_toArray, List.nil_append, List.cons_append]
 gi_wp2
 go_ret
 exact ⟨rfl, rfl⟩
theorem groups_stops (F : Fence) (m : Nat) (hf : F.fn 156) (hro : F.round = none) (hm : 1 ≤ m) (Bs n₀ : Nat) (A : Option Addr) (c : Nat) (xs : List Int) (h10 : xs.length ≤ 10) (hb : ∀ x ∈ xs, 0 ≤ x ∧ x < 256) (w : World) (hBs : Bs < w.heap.size) (hn₀ : n₀ ≤ w.heap.size)
  (hc : w.cell? ⟨Bs, 0, none⟩ = some (.slice A xs.length c)) (hrow : Row w n₀ (.slice A xs.length c) xs) :
  SeqStopsK F m Tryz.prog 156 #[.pointer (some ⟨Bs, 0, none⟩)] (fun x : Grp => #[Value.int .i64 x.1.1, Value.int .u64 x.1.2]) (Below n₀) (fun ys => ys = grps xs xs.length) (fun pre => ∃ k, pre = grps xs k) xs.length w := fun l J Jx W hW _ _ hY h0 =>
 groups1_in F m hf hro hm l Bs n₀ A c xs h10 hb J Jx hY W ((hW.cell (p := ⟨Bs, 0, none⟩) hBs).trans hc) (hrow.below (hW.mono hn₀)) h0
def orStep (n : Int) (x : Grp) : Int := bits .or .u64 n (IntKind.u64.wrap (x.1.2 * 2 ^ x.1.1.toNat))
def orAll (xs : List Grp) : Int := xs.foldl orStep 0
theorem orAll_snoc (pre : List Grp) (x : Grp) : orAll (pre ++ [x]) = bits .or .u64 (orAll pre) (IntKind.u64.wrap (x.1.2 * 2 ^ x.1.1.toNat)) := by simp [orAll, orStep]
theorem get_in (F : Fence) (m : Nat) (h0 : F.fn 55) (h1 : F.fn 105) (h2 : F.fn 106) (h3 : F.fn 156) (hro : F.round = none) (hm : 5 ≤ m)
  (hlenC : ∀ (A : Option Addr) (c : Nat) (xs : List Int) (w : World), Row w w.heap.size (.slice A xs.length c) xs → (∀ x ∈ xs, 0 ≤ x ∧ x < 256) → CallsIn F (m - 1) Tryz.prog 105 #[.slice A xs.length c] w fun e w' => e = .returned (.tuple #[.int .i64 (lenI 0 xs).1, .int .i64 (lenI 0 xs).2]) ∧ w = w')
  (A : Option Addr) (c : Nat) (xs : List Int) (w : World) (hrow : Row w w.heap.size (.slice A xs.length c) xs) (hb : ∀ x ∈ xs, 0 ≤ x ∧ x < 256) (hok : (lenI 0 xs).2 = 0) :
  CallsIn F m Tryz.prog 55 #[.slice A xs.length c] w fun e W' => e = .returned (.tuple #[.int .u64 (orAll (grps (xs.take (lenI 0 xs).1) (lenI 0 xs).1)), .int .i64 (lenI 0 xs).1, .int .i64 0]) ∧ Below w.heap.size w W' := by
 have hm1 : 1 ≤ m := by omega
 obtain ⟨k1, k2, k3, h5, h6⟩ := getI_back xs hb hok
 clear h5 h6
 have hcon := hlenC A c xs w hrow hb
 rw [hok] at hcon
 clear hok hlenC
 generalize (lenI 0 xs).1 = s at hcon k1 k2 k3 ⊢
 have hr2 := hrow.take k2
 have hl2 : (xs.take s).length = s := by simp; omega
 rw [hl2] at hr2
 have HC := hid hcon; clear hcon
 have hsm : xs.length ≤ 9223372036854775807 ∧ xs.length ≤ c ∧ c ≤ 9223372036854775807 := by
  obtain ⟨_, _, hv, q1, q2, _, _⟩ := hrow
  injection hv with e1 e2 e3
  subst e3
  unfold maxLen at q2
  omega
 obtain ⟨s1, s2, s3⟩ := hsm
 refine callsIn_of_wp_marks Tryz.func55 rfl h0 ?_ hro
 simp only [Tryz.ntmps55, List.size_toArray, List.length_cons, List.length_nil, Nat.reduceAdd, Nat.reduceSub, Array.replicate_succ, Array.replicate_zero, List.push_toArray, List.append_toArray, List.nil_append, List.cons_append]
 gi_wp2_with (first
  | (gi_at_call 105; refine HC.out.mono ?_; rintro e w1 ⟨rfl, rfl⟩)
  | (gi_at_call 106; refine (groups_in F (m - 1) h2 hro _ _ _ _).mono ?_; rintro e w' ⟨rfl, rfl⟩))
 have bO := Boxed.new w 32 (.int .u64 0)
 have bN := Boxed.new (w.alloc (.cells #[.int .u64 0] 32)) 23 (.slice A s c)
 rw [World.size_alloc] at bN
 have hB0 : Below w.heap.size w ((w.alloc (.cells #[.int .u64 0] 32)).alloc (.cells #[.slice A s c] 23)) := ((Below.refl _ w).alloc (Nat.le_refl _) _).alloc (by simp) _
 have hst := groups_stops F (m - 1) h3 hro (by omega) (w.heap.size + 1) w.heap.size A c (xs.take s) (by omega) (fun x hx => hb x (List.mem_of_mem_take hx)) ((w.alloc (.cells #[.int .u64 0] 32)).alloc (.cells #[.slice A s c] 23)) (by simp) (by simp; omega) (by rw [hl2]; exact bN.cell) (by rw [hl2]; exact hr2.below hB0)
 refine wpIn_rangeFunc_ownG hro hm1 (gf := 156) (lb := #[.pointer (some ⟨w.heap.size + 1, 0, none⟩)]) rfl h3 (enters_of Tryz.func156 (by kernel_rfl) rfl)
  hst belowK_t (belowK_b (by simp; omega)) (Below.refl _ _) (fun _ => rfl)
  (fun pre W => Boxed W w.heap.size 32 (.int .u64 (orAll pre)) ∧ Below w.heap.size w W)
  (fun _ _ _ => False)
  (OwnFrom.and (Own.from (boxed_own w.heap.size 32 (fun pre : List Grp => .int .u64 (orAll pre))) _) (ownFrom_below (Nat.le_refl _) (by simp; omega)))
  (fun _ _ _ _ _ hs _ _ => hs)
  ⟨bO.alloc _, hB0⟩
  (fun x => { tmps := #[.slice A xs.length c, undef, .int .u64 0, .int .i64 0, .int .i64 0, .int .i64 s, .int .i64 0, .pointer (some ⟨w.heap.size, 0, none⟩), .int .i64 x.1.1, .int .u64 x.1.2, .tuple #[.int .i64 s, .int .i64 0], .slice A xs.length c, .tuple #[.int .i64 s, .int .i64 0], .int .i64 s, .int .i64 0, .int .i64 0, .bool false, undef, .slice A xs.length c, .int .i64 s, .slice A s c, .func (.func 156) #[] #[.pointer (some ⟨w.heap.size + 1, 0, none⟩)], .int .i64 x.1.1, .int .u64 x.1.2, undef, undef, undef, undef, undef, undef, undef], defers := [] }) ?assign ?body ?done ?stop
 case assign =>
  intro l x W K hK
  gi_wp2
  exact hK
 case body =>
  rintro l pre x W ⟨hv, hB⟩ hlt
  have hc := hv.cell
  have hfz := hv.frozen
  obtain ⟨⟨sh, g⟩, hs0, hs1, hg0, hg1⟩ := x
  simp only at hs0 hs1 hg0 hg1 ⊢
  gi_wp2
  gi_region
  all_goals gi_wp2
  all_goals exact ⟨((KeepsOthers.setCell _ _ _).trans (KeepsOthers.drew _)).from _, ((Below.refl w.heap.size W).setCell (p := ⟨w.heap.size, 0, none⟩) (Nat.le_refl _) _).drew, by rw [orAll_snoc]; exact hv.set _, (hB.setCell (p := ⟨w.heap.size, 0, none⟩) (Nat.le_refl _) _).drew⟩
 case done =>
  rintro D ys W hD rfl ⟨hv, hB⟩ hK
  have hc := hv.cell
  gi_wp2
  refine ⟨by simp, .inl ⟨_, _, rfl, run_takeDeferred hK, ?_⟩⟩
  exact ⟨_, results_tmp3 rfl _ _ _, rfl, hB.trans (belowK_b (w := w) (Nat.le_refl _) W D _ _ (by simp at hD; omega) hK rfl rfl)⟩
 case stop =>
  rintro D c pre W _ _ h _
  exact h.elim
theorem val_append (b : List Int) : ∀ a : List Int, val (a ++ b) = val a + 128 ^ a.length * val b
 | [] => by simp [val]
 | x :: r => by
  have h := val_append b r
  simp only [List.cons_append, val, h, List.length_cons]
  rw [Int.pow_succ, Int.mul_add, Int.mul_comm ((128 : Int) ^ r.length) 128, Int.mul_assoc]
  omega
theorem val_take_le (ys : List Int) (k : Nat) : val (ys.take k) ≤ val ys := by
 have h := val_append (ys.drop k) (ys.take k)
 rw [List.take_append_drop] at h
 have h1 : 0 ≤ (128 : Int) ^ (ys.take k).length * val (ys.drop k) := Int.mul_nonneg (Int.le_of_lt (Int.pow_pos (by omega))) (val_nonneg _)
 omega
theorem or_step (a : Int) (k : Nat) (g : Int) (ha : 0 ≤ a) (hg : 0 ≤ g) (hk : a < 128 ^ k) (hs : a + 128 ^ k * g < 18446744073709551616) :
  bits .or .u64 a (IntKind.u64.wrap (g * 2 ^ (7 * k))) = a + 128 ^ k * g := by
 obtain ⟨A, rfl⟩ := Int.eq_ofNat_of_zero_le ha
 obtain ⟨G, rfl⟩ := Int.eq_ofNat_of_zero_le hg
 have e2 : (2 : Nat) ^ (7 * k) = 128 ^ k := by rw [Nat.pow_mul]
 have e2i : (2 : Int) ^ (7 * k) = ((128 ^ k : Nat) : Int) := by rw [Int.pow_mul]; simp
 have hk' : A < 128 ^ k := by
  have : ((128 : Int) ^ k) = ((128 ^ k : Nat) : Int) := by simp
  rw [this] at hk
  omega
 have hs' : A + 128 ^ k * G < 18446744073709551616 := by
  have : ((128 : Int) ^ k * (G : Int)) = ((128 ^ k * G : Nat) : Int) := by simp
  rw [this] at hs
  omega
 have hw : IntKind.u64.wrap ((G : Int) * 2 ^ (7 * k)) = ((128 ^ k * G : Nat) : Int) := by
  rw [e2i, ← Int.natCast_mul, Nat.mul_comm, IntKind.wrap_u64]
  omega
 rw [hw, u64_or_nat A (128 ^ k * G) (by omega) (by omega)]
 have := Nat.two_pow_add_eq_or_of_lt (i := 7 * k) (b := A) (by rw [e2]; exact hk') G
 rw [e2] at this
 rw [Nat.or_comm, ← this]
 simp [Int.add_comm]
theorem orAll_val (ys : List Int) (h10 : ys.length ≤ 10) (hv : val ys < 18446744073709551616) : ∀ k : Nat, k ≤ ys.length → orAll (grps ys k) = val (ys.take k) := by
 intro k
 induction k with
 | zero => intro _; simp [grps, orAll, val]
 | succ k ih =>
  intro hk
  have hkl : k < ys.length := by omega
  rw [grps_succ, orAll_snoc, ih (by omega), List.take_succ_eq_append_getElem hkl, val_snoc]
  have hl : (ys.take k).length = k := by simp; omega
  have hg : (grp ys k).1 = (7 * (k : Int), ys[k] % 128) := by
   unfold grp; rw [dif_pos (by omega)]; simp [List.getD, List.getElem?_eq_getElem hkl]
  rw [hg, hl]
  have h1 := val_lt (ys.take k)
  rw [hl] at h1
  have h2 := val_take_le ys (k + 1)
  rw [List.take_succ_eq_append_getElem hkl, val_snoc, hl] at h2
  have e7 : (7 * (k : Int)).toNat = 7 * k := by omega
  simp only [e7]
  exact or_step _ k _ (val_nonneg _) (by omega) h1 (by omega)
theorem get_no (A : Option Addr) (c : Nat) (xs : List Int) (w : World) (hrow : Row w w.heap.size (.slice A xs.length c) xs) (hb : ∀ x ∈ xs, 0 ≤ x ∧ x < 256) (hno : (lenI 0 xs).2 ≠ 0) :
  Calls Tryz.prog 55 #[.slice A xs.length c] w fun e W' => e = .returned (.tuple #[.int .u64 0, .int .i64 0, .int .i64 (lenI 0 xs).2]) ∧ w = W' := by
 have hcon := length_any A c xs w hrow hb
 clear hrow hb
 generalize (lenI 0 xs).1 = s at hcon
 generalize (lenI 0 xs).2 = er at hcon hno ⊢
 have HC := hid hcon; clear hcon
 have hne : (er != 0) = true := by simpa using hno
 clear hno
 go_enter Tryz.func55, Tryz.ntmps55
 go_wp2_with (go_at_call 105; refine HC.out.mono ?_; rintro e w1 ⟨rfl, rfl⟩)
 go_ret3
 exact ⟨rfl, rfl⟩
theorem get_any (A : Option Addr) (c : Nat) (xs : List Int) (w : World) (hrow : Row w w.heap.size (.slice A xs.length c) xs) (hb : ∀ x ∈ xs, 0 ≤ x ∧ x < 256) :
  Calls Tryz.prog 55 #[.slice A xs.length c] w fun e W' => e = .returned (.tuple #[.int .u64 (getI xs).1, .int .i64 (getI xs).2.1, .int .i64 (getI xs).2.2]) ∧ Below w.heap.size w W' := by
 by_cases hok : (lenI 0 xs).2 = 0
 ·have h := callsIn_wide.1 (get_in Fence.wide 5 trivial trivial trivial trivial rfl (by omega) (fun A c xs w h1 h2 => callsIn_wide.2 (length_any A c xs w h1 h2)) A c xs w hrow hb hok)
  obtain ⟨k1, k2, k3, _, h6⟩ := getI_back xs hb hok
  have hl : (xs.take (lenI 0 xs).1).length = (lenI 0 xs).1 := by simp; omega
  have hv := orAll_val (xs.take (lenI 0 xs).1) (by omega) h6 (lenI 0 xs).1 (by omega)
  rw [List.take_take, Nat.min_self] at hv
  rw [hv] at h
  have e : getI xs = (val (xs.take (lenI 0 xs).1), (lenI 0 xs).1, 0) := by unfold getI; rw [if_pos hok]
  rw [e]
  exact h
 ·have e : getI xs = (0, 0, (lenI 0 xs).2) := by unfold getI; rw [if_neg hok]
  rw [e]
  refine (get_no A c xs w hrow hb hok).mono ?_
  rintro e W' ⟨rfl, rfl⟩
  exact ⟨rfl, Below.refl _ _⟩
end
theorem below_drewN {B : Nat} {w w' : World} (h : Below B w w') (n : Nat) : Below B w (w'.drewN n) := ⟨h.os, h.tape, h.output, h.size, h.block⟩
theorem bget_any (A : Option Addr) (c : Nat) (xs : List Int) (most : Int) (hm0 : -9223372036854775808 ≤ most) (hm1 : most ≤ 9223372036854775807) (w : World) (hrow : Row w w.heap.size (.slice A xs.length c) xs) (hb : ∀ x ∈ xs, 0 ≤ x ∧ x < 256) :
  Calls Tryz.prog 194 #[.slice A xs.length c, .int .i64 most] w fun e W' => e = .returned (.tuple #[.string (strOfNums (getT most xs).1), .int .i64 (getT most xs).2.1, .int .i64 (getT most xs).2.2]) ∧ Below w.heap.size w W' := by
 have hg := get_any A c xs w hrow hb
 by_cases he : (getI xs).2.2 = 0
 ·obtain ⟨n, s, hgi, h1, h2, h3, h4, h5⟩ := getI_ok xs hb he
  rw [hgi] at hg
  obtain ⟨M, hM, hMb⟩ : ∃ M : Nat, max most 0 = M ∧ M ≤ 9223372036854775807 := ⟨(max most 0).toNat, by omega, by omega⟩
  have hsm : xs.length ≤ 9223372036854775807 ∧ xs.length ≤ c ∧ c ≤ 9223372036854775807 := by
   obtain ⟨_, _, hv, q1, q2, _, _⟩ := hrow
   injection hv with e1 e2 e3
   subst e3
   unfold maxLen at q2
   omega
  obtain ⟨s1, s2, s3⟩ := hsm
  by_cases hl : M < n
  ·have ht : getT most xs = ([], 0, 6) := getT_limit hgi (by omega)
   rw [ht]
   have HG := hid hg; clear hg hgi ht he hrow hb h4
   go_enter Tryz.func194, Tryz.ntmps194
   go_wp2_with (go_at_call 55; refine HG.out.mono ?_; rintro e w1 ⟨rfl, hb1⟩)
   go_ret3
   exact ⟨rfl, hb1⟩
  ·by_cases hs : xs.length - s < n
   ·have ht : getT most xs = ([], 0, 2) := getT_short hgi (by omega) hs
    rw [ht]
    have HG := hid hg; clear hg hgi ht he hrow hb h4
    go_enter Tryz.func194, Tryz.ntmps194
    go_wp2_with (go_at_call 55; refine HG.out.mono ?_; rintro e w1 ⟨rfl, hb1⟩)
    go_quiet (fail)
    go_wp2_with fail
    all_goals go_ret3
    all_goals exact ⟨rfl, below_drewN hb1 _⟩
   ·have ht : getT most xs = ((xs.drop s).take n, s + n, 0) := getT_ok hgi (by omega) hs
    rw [ht]
    have hr2 := (hrow.drop h2).take (k := n) (by simp; omega)
    have hl2 : ((xs.drop s).take n).length = n := by simp; omega
    rw [hl2] at hr2
    generalize (xs.drop s).take n = ys at hr2 hl2
    have HG := hid hg; clear hg hgi ht he hrow hb h4
    have HL2 := hid hl2; clear hl2
    by_cases hcs : c = s
    ·subst hcs
     rw [if_pos rfl, Nat.sub_self] at hr2
     obtain rfl : n = 0 := by omega
     have HR2 := hid hr2; clear hr2
     go_enter Tryz.func194, Tryz.ntmps194
     go_wp2_with (go_at_call 55; refine HG.out.mono ?_; rintro e w1 ⟨rfl, hb1⟩)
     go_quiet (fail)
     have hcv := (HR2.out.below (below_drewN hb1 nq)).convert (P := Tryz.prog) 23 5 9 Tryz.underlying23 Tryz.underlying5 Tryz.underlying9
     go_wp2_with fail
     go_ret3
     exact ⟨rfl, below_drewN hb1 _⟩
    ·rw [if_neg hcs] at hr2
     have HR2 := hid hr2; clear hr2
     go_enter Tryz.func194, Tryz.ntmps194
     go_wp2_with (go_at_call 55; refine HG.out.mono ?_; rintro e w1 ⟨rfl, hb1⟩)
     go_quiet (fail)
     generalize Option.map (fun x : Addr => x.add s) A = A2 at HR2 ⊢
     have hcv := (HR2.out.below (below_drewN hb1 nq)).convert (P := Tryz.prog) 23 5 9 Tryz.underlying23 Tryz.underlying5 Tryz.underlying9
     have i1 : (0 : Int) ≤ (n : Int) := by omega
     have i2 : (n : Int) ≤ ((c - s : Nat) : Int) := by omega
     go_wp2_with fail
     go_ret3
     exact ⟨rfl, below_drewN hb1 _⟩
 ·have ht : getT most xs = ([], 0, (getI xs).2.2) := getT_err rfl he
  rw [ht]
  clear ht hrow hb
  generalize (getI xs).2.2 = er at hg he
  have HG := hid hg; clear hg
  have hne : (er != 0) = true := by simpa using he
  clear he
  go_enter Tryz.func194, Tryz.ntmps194
  go_wp2_with (go_at_call 55; refine HG.out.mono ?_; rintro e w1 ⟨rfl, hb1⟩)
  go_ret3
  exact ⟨rfl, hb1⟩
def Copied (w : World) (xs : List Int) (e : Ending) (W' : World) : Prop :=
 ∃ A c, e = .returned (.slice A xs.length c) ∧ Row W' W'.heap.size (.slice A xs.length c) xs ∧ (∀ a, A = some a → w.heap.size ≤ a.block) ∧ Below w.heap.size w W'
theorem clone_any (A : Option Addr) (c : Nat) (xs : List Int) (hsm : xs.length ≤ 100000000000) (w : World) (hrow : Row w w.heap.size (.slice A xs.length c) xs) :
  Calls Tryz.prog 93 #[.slice A xs.length c] w (Copied w xs) := by
 obtain ⟨i0, hi, hz0, hz1, hz2⟩ := info_parts Tryz.infoU8
 cases A with
 | none =>
  obtain rfl : xs = [] := by
   obtain ⟨_, _, hv, _, _, _, h4⟩ := hrow
   injection hv with e1
   rcases Nat.eq_zero_or_pos xs.length with h | h
   ·exact List.eq_nil_of_length_eq_zero h
   ·obtain ⟨b, o, e2, _⟩ := h4 h
    rw [e2] at e1
    cases e1
  obtain rfl : c = 0 := by
   obtain ⟨_, _, hv, _, _, h3, _⟩ := hrow
   injection hv with e1 _ e3
   rw [e3]; exact h3 e1.symm
  have heq : ∀ W : World, (binOp .eql 23 (.slice none 0 0) (.slice none 0 0)).run Tryz.prog W = .ok (.bool true) W := fun W => Lib.run_eql_slice_nil W 23 5 none 0 0 0 0 Tryz.underlying23
  go_enter Tryz.func93, Tryz.ntmps93
  go_wp2_with fail
  go_ret
  exact ⟨none, 0, rfl, Row.nil _ _, by simp, Below.refl _ _⟩
 | some ad =>
  have HR := hid hrow; clear hrow
  have heq : ∀ W : World, (binOp .eql 23 (.slice (some ad) xs.length c) (.slice none 0 0)).run Tryz.prog W = .ok (.bool false) W := fun W => Lib.run_eql_slice_nil W 23 5 (some ad) xs.length c 0 0 Tryz.underlying23
  go_enter Tryz.func93, Tryz.ntmps93
  go_wp2_with (at_builtin; refine wpList_append_row _ rfl _ _ 23 rfl w.heap.size 5 i0 (.int .u8 0) Tryz.underlying23 hi hz0 hz1 hz2 rfl (.slice (some ⟨w.heap.size, 0, none⟩) 0 0) 0 [] (by rfl) (own_none1 _ _ _ (Nat.le_refl _)) w.heap.size _ xs rfl (HR.out.below ((Below.refl _ _).alloc (Nat.le_refl _) _)) (by omega) (by simp) ?_; intro v2 w2 hown2 hg2 hn2)
  go_ret
  have hne : v2 ≠ .slice none 0 0 := fun h => by have := (hn2.1 h).1; simp at this
  rw [Nat.zero_add, List.nil_append] at hown2
  obtain ⟨g, cap, rfl⟩ := ownsRow_some hown2 hne
  have hr := Row.of_own hown2
  refine ⟨_, _, rfl, hr, fun a ha => ?_, ((Below.refl _ _).alloc (Nat.le_refl _) _).grown hg2 (by simp) (fun k hk => ?_)⟩
  ·injection ha with ha
   subst ha
   exact (hown2.lt g rfl).1
  ·simp [Value.ownBlock] at hk
   omega
def Fresh (w : World) (xs : List Int) (e : Ending) (W' : World) : Prop :=
 ∃ g, e = .returned (.pointer (some ⟨g, 0, none⟩)) ∧ w.heap.size ≤ g ∧ Cur 174 W' w.heap.size g xs 0 0 ∧ Below w.heap.size w W'
theorem new_any (A : Option Addr) (c : Nat) (xs : List Int) (hsm : xs.length ≤ 100000000000) (w : World) (hrow : Row w w.heap.size (.slice A xs.length c) xs) :
  Calls Tryz.prog 44 #[.slice A xs.length c] w (Fresh w xs) := by
 have HC := hid (clone_any A c xs hsm w hrow); clear hrow
 go_enter Tryz.func44, Tryz.ntmps44
 go_wp2_with fail
 refine HC.out.mono ?_
 rintro e w1 ⟨A1, c1, rfl, hr1, hK1, hb1⟩
 go_wp2_with fail
 go_ret
 refine ⟨w1.heap.size, rfl, hb1.size, ⟨A1, c1, heap_alloc_new w1 _, hr1.below ((Below.refl _ _).alloc (Nat.le_refl _) _), hK1⟩, hb1.alloc hb1.size _⟩
def stopI (e q : Int) : Int := if e = 0 then q else e
theorem stopI_zero (q : Int) : stopI 0 q = q := rfl
theorem stopI_kept {e : Int} (h : e ≠ 0) (q : Int) : stopI e q = e := if_neg h
section
variable {K g : Nat} {xs : List Int} {p : Nat} {e : Int} {w : World}
theorem err_any (h : Cur 174 w K g xs p e) :
  Calls Tryz.prog 49 #[.pointer (some ⟨g, 0, none⟩)] w fun r w' => r = .returned (.int .i64 e) ∧ w = w' := by
 obtain ⟨A, c, c0, c1, c2, f1, f2, hr, _, _⟩ := h.cells
 clear h hr
 go_enter Tryz.func49, Tryz.ntmps49
 go_wp2_with fail
 go_ret
 exact ⟨rfl, rfl⟩
theorem stop_any (q : Int) (h : Cur 174 w K g xs p e) :
  Calls Tryz.prog 47 #[.pointer (some ⟨g, 0, none⟩), .int .i64 q] w fun r w' => r = .returned (.tuple #[]) ∧ Cur 174 w' K g xs p (stopI e q) ∧ w.grownBy w' (some g) := by
 obtain ⟨A, c, c0, c1, c2, f1, f2, hr, _, _⟩ := h.cells
 have HC := hid h; clear h hr
 by_cases he : e = 0
 ·subst he
  go_enter Tryz.func47, Tryz.ntmps47
  go_wp2_with fail
  go_end0
  exact ⟨rfl, HC.out.err q, grown_put _ _ _ _⟩
 ·have hb : (e == 0) = false := beq_eq_false_iff_ne.2 he
  go_enter Tryz.func47, Tryz.ntmps47
  go_wp2_with fail
  go_end0
  exact ⟨rfl, by rw [stopI_kept he]; exact HC.out, World.grownBy.refl _ _⟩
end
def Took {α : Type} (f : α → Value) (w : World) (K g : Nat) (xs : List Int) (t : α × Nat × Int) (r : Ending) (w' : World) : Prop :=
 r = .returned (f t.1) ∧ Cur 174 w' K g xs t.2.1 t.2.2 ∧ w.grownBy w' (some g)
def Found {α : Type} (f : α → Value) (w : World) (t : α × Nat × Int) (r : Ending) (w' : World) : Prop :=
 r = .returned (.tuple #[f t.1, .int .i64 t.2.1, .int .i64 t.2.2]) ∧ Below w.heap.size w w'
def u8V (n : Int) : Value := .int .u8 n
def u64V (n : Int) : Value := .int .u64 n
def i64V (n : Int) : Value := .int .i64 n
def txtV (t : List Int) : Value := .string (strOfNums t)
theorem Cur.rest {w : World} {g : Nat} {A : Option Addr} {c : Nat} {xs : List Int} {p : Nat} (h : Row w g (.slice A xs.length c) xs) (hg : g ≤ w.heap.size) (hp : p ≤ xs.length) :
  Row w w.heap.size (.slice (if c = p then A else Option.map (fun x => x.add p) A) (xs.length - p) (c - p)) (xs.drop p) := by
 have := (h.drop hp).more hg
 rwa [List.length_drop] at this
theorem grown_drew {a b : World} {row : Option Nat} (h : a.drew.grownBy b row) : a.grownBy b row := ⟨h.os, h.tape, h.output, h.size, h.block⟩
theorem text1_any (A : Option Addr) (c : Nat) (ys : List Int) (most : Int) (hm0 : -9223372036854775808 ≤ most) (hm1 : most ≤ 9223372036854775807) (q : Nat) (w : World) (hrow : Row w w.heap.size (.slice A ys.length c) ys) (hb : ∀ x ∈ ys, 0 ≤ x ∧ x < 256) (hq : w.cell? ⟨q, 0, none⟩ = some (.int .i64 most)) :
  Calls Tryz.prog 193 #[.slice A ys.length c, .pointer (some ⟨q, 0, none⟩)] w (Found txtV w (getT most ys)) := by
 have hg := bget_any A c ys most hm0 hm1 w hrow hb
 clear hrow hb
 generalize getT most ys = t at hg
 obtain ⟨n, s, er⟩ := t
 simp only at hg
 have HG := hid hg; clear hg
 go_enter Tryz.func193, Tryz.ntmps193
 go_wp2_with fail
 refine HG.out.mono ?_
 rintro e w1 ⟨rfl, hb1⟩
 go_wp2_with fail
 go_ret3
 exact ⟨rfl, hb1⟩
theorem take_t_any {K g : Nat} {xs : List Int} {p : Nat} {e : Int} {w : World} (most : Int) (hm0 : -9223372036854775808 ≤ most) (hm1 : most ≤ 9223372036854775807) (q : Nat) (h : Cur 174 w K g xs p e) (hp : p ≤ xs.length) (hK : K ≤ g) (hb : ∀ x ∈ xs, 0 ≤ x ∧ x < 256) (hq : w.cell? ⟨q, 0, none⟩ = some (.int .i64 most)) :
  Calls Tryz.prog 192 #[.pointer (some ⟨g, 0, none⟩), .func (.func 193) #[] #[.pointer (some ⟨q, 0, none⟩)]] w (Took txtV w K g xs (tk [] p e (getT most (xs.drop p)))) := by
 obtain ⟨A, c, c0, c1, c2, f1, f2, hr, hl, hc⟩ := h.cells
 have hg := h.lt
 by_cases he : e = 0
 ·subst he
  have hrest := Cur.rest (w := w.drew) (p := p) (hr.keep (fun _ _ => rfl)) (Nat.le_of_lt hg) hp
  have hfits := (getT_fits most (xs.drop p) (drop_bytes hb p)).1
  rw [List.length_drop] at hfits
  have hcall := text1_any _ _ (xs.drop p) most hm0 hm1 q w.drew (by rw [List.length_drop]; exact hrest) (drop_bytes hb p) hq
  rw [List.length_drop] at hcall
  clear hrest hr hb
  generalize getT most (xs.drop p) = t at hfits hcall
  obtain ⟨v, s, er⟩ := t
  have HC := hid h; clear h
  have i0 : (0 : Int) ≤ (p : Int) := by omega
  have i1 : (p : Int) ≤ (xs.length : Int) := by omega
  rcases Nat.decEq c p with hcp | hcp
  ·rw [if_neg hcp] at hcall
   have HCALL := hid hcall; clear hcall
   by_cases her : er = 0
   ·subst her
    have hs : s ≤ xs.length - p := hfits rfl
    clear hfits
    rw [tk_ok rfl]
    go_enter Tryz.func192, Tryz.ntmps192
    go_wp2_with fail
    go_region_held3 (fun w' => w'.cell? ⟨g, 0, none⟩ = some (.slice A xs.length c) ∧ w'.cell? ⟨g, 1, none⟩ = some (.int .i64 p)) (first | go_keep | (refine ⟨(hb1.cell (p := ⟨g, 0, none⟩) hg).trans c0, (hb1.cell (p := ⟨g, 1, none⟩) hg).trans c1⟩))
     (first | ((with_reducible refine HCALL.out.mono ?_); rintro r w1 ⟨rfl, hb1⟩))
    have hc1 : Cur 174 w1 K g xs p 0 := (HC.out.keep (w' := w.drew) (fun _ _ _ => rfl) hK).below hb1 hK
    obtain ⟨A1, c', d0, d1, d2, k1, k2, _, _, _⟩ := hc1.cells
    have HC1 := hid hc1; clear hc1
    go_wp2_with fail
    go_ret
    refine ⟨rfl, ?_, grown_trans (grown_drew (grown_below (a := w.drew) hb1 _)) (grown_put _ _ _ _)⟩
    have hat := HC1.out.at_ (p + s)
    rw [Int.natCast_add] at hat
    exact hat
   ·have hne : (er != 0) = true := by simpa using her
    clear hfits
    rw [tk_err her]
    have hst : stopI 0 er = er := rfl
    have HST := hid hst; clear hst
    go_enter Tryz.func192, Tryz.ntmps192
    go_wp2_with fail
    go_region_held3 (fun w' => w'.cell? ⟨g, 0, none⟩ = some (.slice A xs.length c) ∧ w'.cell? ⟨g, 1, none⟩ = some (.int .i64 p)) (first | go_keep | (refine ⟨(hb1.cell (p := ⟨g, 0, none⟩) hg).trans c0, (hb1.cell (p := ⟨g, 1, none⟩) hg).trans c1⟩))
     (first | ((with_reducible refine HCALL.out.mono ?_); rintro r w1 ⟨rfl, hb1⟩))
    have HC1 : Hid (Cur 174 w1 K g xs p 0) := (HC.out.keep (w' := w.drew) (fun _ _ _ => rfl) hK).below hb1 hK
    go_wp2_with fail
    refine (stop_any er HC1.out).mono ?_
    rintro r w2 ⟨rfl, hc2, hg2⟩
    rw [HST.out] at hc2
    have HC2 := hid hc2; clear hc2
    go_wp2_with fail
    go_ret
    exact ⟨rfl, HC2.out, grown_trans (grown_drew (grown_below (a := w.drew) hb1 _)) hg2⟩
  ·have hcp' := hcp.symm
   subst hcp'
   rw [if_pos rfl, Nat.sub_self, Nat.sub_eq_zero_of_le hl] at hcall
   have HCALL := hid hcall; clear hcall hcp
   by_cases her : er = 0
   ·subst her
    have hs : s ≤ xs.length - p := hfits rfl
    clear hfits
    rw [tk_ok rfl]
    go_enter Tryz.func192, Tryz.ntmps192
    go_wp2_with fail
    go_region_held3 (fun w' => w'.cell? ⟨g, 0, none⟩ = some (.slice A xs.length p) ∧ w'.cell? ⟨g, 1, none⟩ = some (.int .i64 p)) (first | go_keep | (refine ⟨(hb1.cell (p := ⟨g, 0, none⟩) hg).trans c0, (hb1.cell (p := ⟨g, 1, none⟩) hg).trans c1⟩))
     (first | ((with_reducible refine HCALL.out.mono ?_); rintro r w1 ⟨rfl, hb1⟩))
    have hc1 : Cur 174 w1 K g xs p 0 := (HC.out.keep (w' := w.drew) (fun _ _ _ => rfl) hK).below hb1 hK
    obtain ⟨A1, c', d0, d1, d2, k1, k2, _, _, _⟩ := hc1.cells
    have HC1 := hid hc1; clear hc1
    go_wp2_with fail
    go_ret
    refine ⟨rfl, ?_, grown_trans (grown_drew (grown_below (a := w.drew) hb1 _)) (grown_put _ _ _ _)⟩
    have hat := HC1.out.at_ (p + s)
    rw [Int.natCast_add] at hat
    exact hat
   ·have hne : (er != 0) = true := by simpa using her
    clear hfits
    rw [tk_err her]
    have hst : stopI 0 er = er := rfl
    have HST := hid hst; clear hst
    go_enter Tryz.func192, Tryz.ntmps192
    go_wp2_with fail
    go_region_held3 (fun w' => w'.cell? ⟨g, 0, none⟩ = some (.slice A xs.length p) ∧ w'.cell? ⟨g, 1, none⟩ = some (.int .i64 p)) (first | go_keep | (refine ⟨(hb1.cell (p := ⟨g, 0, none⟩) hg).trans c0, (hb1.cell (p := ⟨g, 1, none⟩) hg).trans c1⟩))
     (first | ((with_reducible refine HCALL.out.mono ?_); rintro r w1 ⟨rfl, hb1⟩))
    have HC1 : Hid (Cur 174 w1 K g xs p 0) := (HC.out.keep (w' := w.drew) (fun _ _ _ => rfl) hK).below hb1 hK
    go_wp2_with fail
    refine (stop_any er HC1.out).mono ?_
    rintro r w2 ⟨rfl, hc2, hg2⟩
    rw [HST.out] at hc2
    have HC2 := hid hc2; clear hc2
    go_wp2_with fail
    go_ret
    exact ⟨rfl, HC2.out, grown_trans (grown_drew (grown_below (a := w.drew) hb1 _)) hg2⟩
 ·rw [tk_stopped he]
  have hne : (e != 0) = true := by simpa using he
  have HC := hid h; clear h hr
  go_enter Tryz.func192, Tryz.ntmps192
  go_wp2_with fail
  go_ret
  exact ⟨rfl, HC.out, World.grownBy.refl _ _⟩
section
variable {K g : Nat} {xs : List Int} {p : Nat} {e : Int} {w : World}
theorem grown_alloc (w : World) (o : Obj) (row : Option Nat) : w.grownBy (w.alloc o) row := grown_below ((Below.refl _ _).alloc (Nat.le_refl _) o) row
theorem text_any (most : Int) (hm0 : -9223372036854775808 ≤ most) (hm1 : most ≤ 9223372036854775807) (h : Cur 174 w K g xs p e) (hp : p ≤ xs.length) (hK : K ≤ g) (hb : ∀ x ∈ xs, 0 ≤ x ∧ x < 256) :
  Calls Tryz.prog 152 #[.pointer (some ⟨g, 0, none⟩), .int .i64 most] w (Took txtV w K g xs (tk [] p e (getT most (xs.drop p)))) := by
 have h1 := h.below ((Below.refl _ _).alloc (Nat.le_refl _) (.cells #[.int .i64 most] 3)) hK
 have HT := hid (take_t_any most hm0 hm1 w.heap.size h1 hp hK hb (by simp [World.cell?_alloc_new])); clear h h1 hb
 go_enter Tryz.func152, Tryz.ntmps152
 go_wp2_with fail
 refine HT.out.mono ?_
 rintro r w1 ⟨rfl, hc1, hg1⟩
 go_wp2_with fail
 go_ret
 exact ⟨rfl, hc1, grown_trans (grown_alloc _ _ _) hg1⟩
end
end Go.Proofs.YtimihhcidbeonaaGreat
