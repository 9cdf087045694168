/-
  The document's own answers of layer 13: Place, Put, Of.
-/
import Derived.Test.YtfknibjejnmghaaGreatDictCalls
namespace Go.Proofs.YtfknibjejnmghaaGreat
open Go.RowKit Go.ChangeShapes Go.WideShapes

set_option maxRecDepth 100000 in
set_option maxHeartbeats 1000000 in
theorem rplace_any {w : World} {B : Nat} (A : Option Addr) (c : Nat) (L : List (List Int)) (s : List Int) (h : ERow w B (.slice A L.length c) L.length (strVs L)) (hx : TxOk L) (hs : TxB s) :
    Calls Tryz.prog 100 #[.slice A L.length c, .string (strOfNums s)] w fun e w' => e = .returned (.int .i64 (placeD L s)) ∧ w = w' := by
  obtain ⟨-, hc1, hc2⟩ := h.len
  have HR := Lib.hid h
  have HX := Lib.hid hx
  have HS := Lib.hid hs
  have HFD := Lib.hid (fun (r : Nat) (h : L[r]? = some s) => placeD_found (l := L) (x := s) (r := r) h)
  have HNO := Lib.hid (fun (h : s ∉ L) => placeD_none h)
  clear h hx hs
  obtain ⟨R, hR⟩ : ∃ R, placeD L s = R := ⟨_, rfl⟩
  rw [hR] at HNO ⊢
  simp only [hR] at HFD
  clear hR
  go_enter Tryz.func100, Tryz.ntmps100
  go_wp2_with fail
  go_loopg [5] L.length (fun gk i wr => ∃ k : Nat, k ≤ L.length ∧ i = .int .i64 k ∧ Hid (L.length - k = gk) ∧ Hid (∀ j, j < k → L[j]? ≠ some s) ∧ wr = w)
  case atStart => exact ⟨0, Nat.zero_le _, rfl, Lib.hid rfl, Lib.hid (fun j hj => absurd hj (Nat.not_lt_zero _)), rfl⟩
  case round =>
    obtain ⟨k, hk, rfl, HGK, HN, rfl⟩ := hrel
    by_cases hlt : k < L.length
    · obtain ⟨t, ht⟩ : ∃ t, L[k]? = some t := ⟨_, List.getElem?_eq_getElem hlt⟩
      obtain ⟨b, o, rfl, _, hcl⟩ := HR.out.block (by omega)
      have x1 := hcl k _ (strVs_at L ht)
      have hbt := (HX.out t (List.mem_of_getElem? ht)).2
      by_cases he : t = s
      · have heq : ((strOfNums t).toList == (strOfNums s).toList) = true := by rw [str_eq_dec hbt HS.out, decide_eq_true he]
        have HK := Lib.hid (HFD.out k (by rw [ht, he]) HN.out)
        clear hbt ht hcl he
        go_wp2_with fail
        go_ret
        exact ⟨by rw [HK.out]; rfl, rfl⟩
      · have heq : ((strOfNums t).toList == (strOfNums s).toList) = false := by rw [str_eq_dec hbt HS.out, decide_eq_false he]
        have HN2 := Lib.hid (show ∀ j, j < k + 1 → L[j]? ≠ some s from fun j hj => by
          rcases Nat.lt_or_ge j k with h | h
          · exact HN.out j h
          · obtain rfl : j = k := by omega
            rw [ht]
            exact fun e => he (by injection e))
        clear hbt ht hcl he
        go_wp2_with fail
        go_roundg (L.length - (k + 1))
        case measure => have := HGK.out; omega
        case rel => exact ⟨k + 1, by omega, by go_num, Lib.hid rfl, HN2, rfl⟩
    · obtain rfl : k = L.length := by omega
      have hno : s ∉ L := fun hm => by
        obtain ⟨i, hi⟩ := List.mem_iff_getElem?.1 hm
        exact HN.out i (List.getElem?_eq_some_iff.1 hi).1 hi
      have HK := Lib.hid (HNO.out hno)
      clear hno
      go_wp2_with fail
      go_ret
      exact ⟨by rw [HK.out]; rfl, rfl⟩
#print axioms rplace_any

theorem putD_tx {L : List (List Int)} {s : List Int} (h : TxOk L) (hs : TxB s) (hl : s.length ≤ maxLen) : TxOk (putD L s).1 := fun t ht => by
  rcases putD_mem ht with h1 | rfl
  · exact h t h1
  · exact ⟨hl, hs⟩
/-- What the document's Put answers: the list as it was, or one in new memory. -/
def RPut (w : World) (n0 : Nat) (v : Value) (r : List (List Int) × Int) (e : Ending) (w' : World) : Prop :=
  ∃ v', e = .returned (.tuple #[v', .int .i64 r.2]) ∧ w'.ownsRow n0 9 1 v' r.1.length (strVs r.1) ∧ (v' = v ∨ w'.ownsRow w.heap.size 9 1 v' r.1.length (strVs r.1)) ∧ Below w.heap.size w w'
set_option maxRecDepth 100000 in
set_option maxHeartbeats 1000000 in
theorem rput13_any {w : World} {n0 : Nat} {v : Value} {L : List (List Int)} (h : w.ownsRow n0 9 1 v L.length (strVs L)) (hn0 : n0 ≤ w.heap.size) (hx : TxOk L) (s : List Int) (hs : TxB s) (hn : L.length ≤ 1000000000) :
    Calls Tryz.prog 105 #[v, .string (strOfNums s)] w (RPut w n0 v (putD L s)) := by
  obtain ⟨i0, hi, hz0, hz1, hz2⟩ := info_parts Tryz.infoTxt
  have her := ERow.of_own h
  obtain ⟨A, c, rfl, hc1, hc2⟩ := her.form
  have HPL := Lib.hid (rplace_any A c L s her hx hs)
  rcases placeD_ways L s with ⟨hp, hno⟩ | ⟨j, hj0, hp, _, _⟩
  · rw [putD_new hp]
    rw [hp] at HPL
    have HER := Lib.hid her
    have hl : (strVs L).length = L.length * 1 := by rw [strVs_length, Nat.mul_one]
    have HON := Lib.hid (strVs_one L)
    obtain ⟨n, hn'⟩ : ∃ n, L.length = n := ⟨_, rfl⟩
    have HN := Lib.hid hn'
    rw [hn'] at HPL HER hl hc1 hn ⊢
    clear h her hx hs hno hp hn'
    go_enter Tryz.func105, Tryz.ntmps105
    go_wp2_with fail
    refine HPL.out.mono ?_
    rintro e w1 ⟨rfl, rfl⟩
    go_wp2_with (first
      | (at_builtin; refine wpList_append_erow _ rfl _ _ 57 9 rfl w.heap.size i0 (.string ⟨#[]⟩) 1 16 Tryz.underlying57 hi hz0 hz1 hz2 rfl (by decide) (.slice (some ⟨w.heap.size, 0, none⟩) 0 0) 0 [] (by rfl) (own_none (Nat.le_refl _)) w.heap.size (.slice A n c) n (strVs L) (by rfl) (HER.out.below ((Below.refl _ _).alloc (Nat.le_refl _) _)) hl HON.out (by simp only [maxLen]; omega) (by omega) (by simp) n (Nat.zero_add n) (strVs L) rfl ?_; intro A2 c2 w2 hown2 hg2 hat2; have HO2 := Lib.hid hown2; have HG2 := Lib.hid hg2; clear hown2 hg2 hat2)
      | (at_builtin; refine wpList_append_erow _ rfl _ _ 57 9 rfl w.heap.size i0 (.string ⟨#[]⟩) 1 16 Tryz.underlying57 hi hz0 hz1 hz2 rfl (by decide) (.slice A2 n c2) n (strVs L) (by rfl) (HO2.out.alloc _) (w2.heap.size + 1) (.slice (some ⟨w2.heap.size, 0, none⟩) 1 1) 1 [.string (strOfNums s)] (by rfl) (ERow.held (t := 9) (heap_alloc_new w2 _) (Nat.lt_succ_self _) (by unfold maxLen; omega)) rfl (by simp [Value.oneCell']) (by simp only [maxLen]; omega) (by omega) (by have := HG2.out.size; simp at this ⊢; omega) (n + 1) rfl _ rfl ?_; intro A3 c3 w3 hown3 hg3 hat3; have HO3 := Lib.hid hown3; have HG3 := Lib.hid hg3; clear hown3 hg3 hat3))
    have hb2 : Below w.heap.size w w2 := ((Below.refl _ _).alloc (Nat.le_refl _) _).grown HG2.out (by simp) (fun k hk => by simp [Value.ownBlock] at hk; omega)
    have hz2' := hb2.size
    have hb3 : Below w.heap.size w w3 := (hb2.alloc hz2' _).grown HG3.out (by simp; omega) (fun k hk => (HO2.out.lt k hk).1)
    have ho3 := HO3.out
    have ho4 : w3.ownsRow w.heap.size 9 1 (.slice A3 (n + 1) c3) (L ++ [s]).length (strVs (L ++ [s])) := by
      rw [List.length_append, strVs_snoc, HN.out]
      exact ho3
    have hfin : RPut w n0 (.slice A n c) (L ++ [s], (n : Int)) (.returned (.tuple #[.slice A3 (n + 1) c3, .int .i64 n])) w3 := ⟨_, rfl, own_base ho4 hn0, .inr ho4, hb3⟩
    exact bodyPost_ret (v := .tuple #[.slice A3 (n + 1) c3, .int .i64 n]) (by simp [results, Tryz.results105, go_sem]) rfl hfin
  · rw [putD_old hp]
    rw [hp] at HPL
    have HF := Lib.hid (show RPut w n0 (.slice A L.length c) (L, (j : Int)) (.returned (.tuple #[.slice A L.length c, .int .i64 j])) w from ⟨_, rfl, h, .inl rfl, Below.refl _ _⟩)
    clear h her hx hp
    go_enter Tryz.func105, Tryz.ntmps105
    go_wp2_with fail
    refine HPL.out.mono ?_
    rintro e w1 ⟨rfl, rfl⟩
    go_wp2_with fail
    exact bodyPost_ret (v := .tuple #[.slice A L.length c, .int .i64 j]) (by simp [results, Tryz.results105, go_sem]) rfl HF.out
#print axioms rput13_any
end Go.Proofs.YtfknibjejnmghaaGreat

namespace Go.Proofs.YtfknibjejnmghaaGreat
open Go.RowKit Go.ChangeShapes Go.WideShapes

theorem str_33 : strOfNums [33] = ⟨#[33]⟩ := by decide +kernel
/-- A list of texts of the call's own. -/
def ORow (w : World) (N : Nat) (v : Value) (L : List (List Int)) : Prop := w.ownsRow N 9 1 v L.length (strVs L) ∧ TxOk L
/-- Such a list is kept by a call on a dictionary whose texts lie elsewhere. -/
theorem own_dbut {w w' : World} {n n0 D r : Nat} {v vx : Value} {L : List (List Int)} {k : Nat} {us : List Value} (h : w.ownsRow n 9 1 vx k us) (hb : DBut w w' D r v.ownBlock) (hd : DictAt w n0 D r v L) (hv : ∀ j, v.ownBlock = some j → vx.ownBlock ≠ some j) :
    w'.ownsRow n 9 1 vx k us := by
  obtain ⟨es, cl, hm, _⟩ := hd.map
  have n1 := own_not_held h hd.held (by decide)
  have n2 := own_not_map h hm
  refine ⟨h.1, ?_⟩
  rcases h.2 with h3 | ⟨b, cap, cur, rfl, hbb, hgb, q⟩
  · exact .inl h3
  · refine .inr ⟨b, cap, cur, rfl, hbb, (hb.block b (Array.getElem?_eq_some_iff.1 hgb).1 (fun e2 => n1 (by rw [← e2]; rfl)) (fun e2 => n2 (by rw [← e2]; rfl)) (fun e2 => hv b e2.symm rfl)).trans hgb, q⟩
/-- Writing into a list of the call's own. -/
theorem own_store {w : World} {n c g m : Nat} {e : TypeId} {A : Option Addr} {us : List Value} {u0 : Value} (h : w.ownsRow n e 1 (.slice A g c) g us) (hm : m < g) (hu : us[m]? = some u0) :
    ∃ b, A = some ⟨b, 0, none⟩ ∧ n ≤ b ∧ w.cell? ⟨b, m, none⟩ = some u0 ∧ w.frozen? ⟨b, m, none⟩ = false ∧ ∀ u, (w.setCell ⟨b, m, none⟩ u).ownsRow n e 1 (.slice A g c) g (us.set m u) := by
  rcases h.2 with ⟨h1, h2⟩ | ⟨b, cap, cur, h1, hb, _⟩
  · omega
  · injection h1 with e1 _ e3
    subst e1 e3
    exact ⟨b, rfl, hb, (h.cellAt m (by omega)).trans hu, h.frozenAt m, fun u => (h.stored m u).1⟩
set_option maxRecDepth 100000 in
set_option maxHeartbeats 2000000 in
theorem rof13_any (A : Option Addr) (c : Nat) (ps : List Pm) (w : World) (hrow : TrRow w w.heap.size (.slice A ps.length c) ps) (hn : nT ps ≤ 1000000000) :
    Calls Tryz.prog 95 #[.slice A ps.length c] w fun e w' => ∃ v, e = .returned v ∧ ORow w' w.heap.size v (addT [] ps) ∧ Below w.heap.size w w' := by
  obtain ⟨-, hc1, hc2⟩ := hrow.1.len
  obtain ⟨N, hN⟩ : ∃ N, w.heap.size = N := ⟨_, rfl⟩
  have H0 := Lib.hid (show ORow (w.alloc (.cells #[] 9)) N (.slice (some ⟨N, 0, none⟩) 0 0) [] from ⟨by rw [← hN]; exact own_none (Nat.le_refl _), fun t h => by simp at h⟩)
  have HB0 := Lib.hid (show Below N w (w.alloc (.cells #[] 9)) from (Below.refl _ _).alloc (by omega) _)
  rw [hN] at hrow ⊢
  have HTR := Lib.hid hrow
  clear hrow
  go_enter Tryz.func95, Tryz.ntmps95
  go_wp2_with fail
  go_loopg [3, 4] ps.length (fun gk v0 i wr => ∃ (k : Nat) (v : Value), k ≤ ps.length ∧ v = v0 ∧ i = .int .i64 k ∧ Hid (ps.length - k = gk) ∧ Hid (ORow wr N v (addT [] (ps.take k))) ∧ Hid (Below N w wr))
  case atStart => exact ⟨0, _, Nat.zero_le _, rfl, rfl, Lib.hid rfl, (by first | exact H0 | (rw [hN]; exact H0)), HB0⟩
  case round =>
    obtain ⟨k, v1, hk, rfl, rfl, HGK, HD, HB⟩ := hrel
    by_cases hlt : k < ps.length
    · obtain ⟨d, hd⟩ : ∃ d, ps[k]? = some d := ⟨_, List.getElem?_eq_getElem hlt⟩
      obtain ⟨b, o, rfl, hb, x0, x1, hok, hl1, hl2⟩ := (HTR.out.below HB.out).at hd
      have HXX := Lib.hid (fun (W : World) (h : Below N w W) => (h.cell (p := ⟨b, o + k * 2 + 1, none⟩) hb).trans ((HB.out.cell (p := ⟨b, o + k * 2 + 1, none⟩) hb).symm.trans x1))
      have HOK := Lib.hid (fun (W : World) (h : Below N w W) => ((HTR.out.below h).2 d (List.mem_of_getElem? hd)).1)
      have HS := Lib.hid (addT_succ (L := []) hd)
      have hnk := nT_at ps k d hd
      have hlen := (addT_ok (ps.take k) []).high
      simp only [List.length_nil, Nat.zero_add] at hlen
      obtain ⟨M, hM⟩ : ∃ M, addT [] (ps.take k) = M := ⟨_, rfl⟩
      rw [hM] at hlen HS HD
      obtain ⟨dA, hdA⟩ : ∃ dA, d.A = dA := ⟨_, rfl⟩
      rw [hdA] at HXX HOK
      have HLE := Lib.hid hlen
      have HNK := Lib.hid hnk
      clear hok hd x0 x1 hM hlen hnk hdA
      go_wp2_with fail
      go_loopg [3, 5] d.evs.length (fun gm v0 i wr2 => ∃ (m : Nat) (v : Value), m ≤ d.evs.length ∧ v = v0 ∧ i = .int .i64 m ∧ Hid (d.evs.length - m = gm) ∧ Hid (ORow wr2 N v (addE M (d.evs.take m))) ∧ Hid (Below N w wr2))
      case atStart => exact ⟨0, _, Nat.zero_le _, rfl, rfl, Lib.hid rfl, HD, HB⟩
      case round =>
        obtain ⟨m, v2, hm, rfl, rfl, HGM, HD5, HB5⟩ := hrel
        have x1 := HXX.out _ HB5.out
        by_cases hml : m < d.evs.length
        · obtain ⟨x, hx⟩ : ∃ x, d.evs[m]? = some x := ⟨_, List.getElem?_eq_getElem hml⟩
          obtain ⟨b2, o2, e2, hb2, u0, u1, hokx, hl3, hl4⟩ := (HOK.out _ HB5.out).at hx
          rw [e2] at x1
          have HOX := Lib.hid (fun (W : World) (h : Below N w W) => (show GRow W N (.slice x.A x.args.length x.c) x.args from ((HOK.out _ h).2 x (List.mem_of_getElem? hx)).1))
          have hlm := (addE_ok (d.evs.take m) M).high
          have hna := nA_at d.evs m x hx
          have HQ := Lib.hid (addE_succ (L := M) hx)
          obtain ⟨Q, hQ⟩ : ∃ Q, addE M (d.evs.take m) = Q := ⟨_, rfl⟩
          rw [hQ] at hlm HQ HD5
          have HLQ := Lib.hid (show Q.length + x.args.length ≤ 1000000000 by have := HLE.out; have := HNK.out; omega)
          obtain ⟨xA, hxA⟩ : ∃ xA, x.A = xA := ⟨_, rfl⟩
          rw [hxA] at u1 HOX
          clear hx hokx e2 hxA hQ hlm hna
          go_wp2_with fail
          go_loopg [3, 7] x.args.length (fun gj v0 i wr3 => ∃ (j : Nat) (v : Value), j ≤ x.args.length ∧ v = v0 ∧ i = .int .i64 j ∧ Hid (x.args.length - j = gj) ∧ Hid (ORow wr3 N v (addA Q (x.args.take j))) ∧ Hid (Below N w wr3))
          case atStart => exact ⟨0, _, Nat.zero_le _, rfl, rfl, Lib.hid rfl, HD5, HB5⟩
          case round =>
            obtain ⟨j, v3, hj, rfl, rfl, HGJ, HD7, HB7⟩ := hrel
            clear u0 u1 x1
            by_cases hjl : j < x.args.length
            · obtain ⟨a, ha⟩ : ∃ a, x.args[j]? = some a := ⟨_, List.getElem?_eq_getElem hjl⟩
              obtain ⟨b3, o3, rfl, hb3, y0, y1, y2, hfit⟩ := (HOX.out _ HB7.out).at ha
              have HA := Lib.hid (addA_succ (L := Q) ha)
              have hz7 := HB7.out.size
              by_cases ht : a.t = 2
              · have hst : stepA (addA Q (x.args.take j)) a = (putD (addA Q (x.args.take j)) a.s).1 := if_pos ht
                have hp := rput13_any HD7.out.1 (by omega) HD7.out.2 a.s hfit.2.1 (by have := addA_le (L := Q) (l := x.args) j; have := HLQ.out; omega)
                have htx := putD_tx HD7.out.2 hfit.2.1 hfit.1
                rw [hst] at HA
                unfold RPut at hp
                rw [← HA.out] at hp htx
                have HP := Lib.hid hp
                have HTX := Lib.hid htx
                obtain ⟨at', hat⟩ : ∃ t, a.t = t := ⟨_, rfl⟩
                rw [hat] at y0 ht
                clear hp htx hst ha hfit hat
                subst ht
                go_wp2_with fail
                refine HP.out.mono ?_
                rintro e w5 ⟨v4, rfl, ho, _, hb⟩
                have HB8 := Lib.hid (HB7.out.trans (hb.mono (by omega)))
                have HO := Lib.hid ho
                clear ho hb
                go_wp2_with fail
                go_roundg (x.args.length - (j + 1))
                case measure => have := HGJ.out; omega
                case rel => exact ⟨j + 1, v4, by omega, rfl, by go_num, Lib.hid rfl, Lib.hid ⟨HO.out, HTX.out⟩, HB8⟩
              · have hst : stepA (addA Q (x.args.take j)) a = addA Q (x.args.take j) := if_neg ht
                rw [hst] at HA
                rw [← HA.out] at HD7
                have hne : (a.t == 2) = false := beq_eq_false_iff_ne.2 ht
                clear hst ha hfit ht
                go_wp2_with fail
                go_roundg (x.args.length - (j + 1))
                case measure => have := HGJ.out; omega
                case rel => exact ⟨j + 1, _, by omega, rfl, by go_num, Lib.hid rfl, HD7, HB7⟩
            · obtain rfl : j = x.args.length := by omega
              have HJ := HD7
              rw [List.take_length, ← HQ.out] at HJ
              go_wp2_with fail
              go_roundg (d.evs.length - (m + 1))
              case measure => have := HGM.out; omega
              case rel => exact ⟨m + 1, _, by omega, rfl, by go_num, Lib.hid rfl, HJ, HB7⟩
        · obtain rfl : m = d.evs.length := by omega
          have HJ := HD5
          rw [List.take_length, ← HS.out] at HJ
          go_wp2_with fail
          go_roundg (ps.length - (k + 1))
          case measure => have := HGK.out; omega
          case rel => exact ⟨k + 1, _, by omega, rfl, by go_num, Lib.hid rfl, HJ, HB5⟩
    · obtain rfl : k = ps.length := by omega
      have HJ := HD
      rw [List.take_length] at HJ
      go_wp2_with fail
      go_ret
      exact ⟨_, rfl, HJ.out, HB.out⟩
#print axioms rof13_any
end Go.Proofs.YtfknibjejnmghaaGreat
