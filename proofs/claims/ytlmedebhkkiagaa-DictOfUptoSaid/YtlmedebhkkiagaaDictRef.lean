/-
  The document's own answers of layer 13: Place, Put, Of.
-/
import Derived.Test.YtlmedebhkkiagaaDictOfCode
namespace Go.Proofs.Ytlmedebhkkiagaa
open Go.RowKit Go.ChangeShapes Go.WideShapes

set_option maxRecDepth 100000 in
set_option maxHeartbeats 1000000 in
theorem rplace_any {w : World} {B : Nat} (A : Option Addr) (c : Nat) (L : List (List Int)) (s : List Int) (h : ERow w B (.slice A L.length c) L.length (strVs L)) (hx : TxOk L) (hs : TxB s) :
    Calls Try.prog 22 #[.slice A L.length c, .string (strOfNums s)] w fun e w' => e = .returned (.int .i64 (placeD L s)) ∧ w = w' := by
  obtain ⟨-, hc1, hc2⟩ := h.len
  have HR := Lib.hid h
  have HX := Lib.hid hx
  have HS := Lib.hid hs
  have HFD := Lib.hid (fun (r : Nat) (h : L[r]? = some s) => placeD_found (l := L) (x := s) (r := r) h)
  have HNO := Lib.hid (fun (h : s ∉ L) => placeD_none h)
  clear h hx hs
  obtain ⟨R, hR⟩ : ∃ R, placeD L s = R := ⟨_, rfl⟩
  rw [hR] at HNO ⊢
  simp only [hR] at HFD
  clear hR
  go_enter Try.func22, Try.ntmps22
  go_wp2_with fail
  go_loopg [5] L.length (fun gk i wr => ∃ k : Nat, k ≤ L.length ∧ i = .int .i64 k ∧ Hid (L.length - k = gk) ∧ Hid (∀ j, j < k → L[j]? ≠ some s) ∧ wr = w)
  case atStart => exact ⟨0, Nat.zero_le _, rfl, Lib.hid rfl, Lib.hid (fun j hj => absurd hj (Nat.not_lt_zero _)), rfl⟩
  case round =>
    obtain ⟨k, hk, rfl, HGK, HN, rfl⟩ := hrel
    by_cases hlt : k < L.length
    · obtain ⟨t, ht⟩ : ∃ t, L[k]? = some t := ⟨_, List.getElem?_eq_getElem hlt⟩
      obtain ⟨b, o, rfl, _, hcl⟩ := HR.out.block (by omega)
      have x1 := hcl k _ (strVs_at L ht)
      have hbt := (HX.out t (List.mem_of_getElem? ht)).2
      by_cases he : t = s
      · have heq : ((strOfNums t).toList == (strOfNums s).toList) = true := by rw [str_eq_dec hbt HS.out, decide_eq_true he]
        have HK := Lib.hid (HFD.out k (by rw [ht, he]) HN.out)
        clear hbt ht hcl he
        go_wp2_with fail
        go_ret
        exact ⟨by rw [HK.out]; rfl, rfl⟩
      · have heq : ((strOfNums t).toList == (strOfNums s).toList) = false := by rw [str_eq_dec hbt HS.out, decide_eq_false he]
        have HN2 := Lib.hid (show ∀ j, j < k + 1 → L[j]? ≠ some s from fun j hj => by
          rcases Nat.lt_or_ge j k with h | h
          · exact HN.out j h
          · obtain rfl : j = k := by omega
            rw [ht]
            exact fun e => he (by injection e))
        clear hbt ht hcl he
        go_wp2_with fail
        go_roundg (L.length - (k + 1))
        case measure => have := HGK.out; omega
        case rel => exact ⟨k + 1, by omega, by go_num, Lib.hid rfl, HN2, rfl⟩
    · obtain rfl : k = L.length := by omega
      have hno : s ∉ L := fun hm => by
        obtain ⟨i, hi⟩ := List.mem_iff_getElem?.1 hm
        exact HN.out i (List.getElem?_eq_some_iff.1 hi).1 hi
      have HK := Lib.hid (HNO.out hno)
      clear hno
      go_wp2_with fail
      go_ret
      exact ⟨by rw [HK.out]; rfl, rfl⟩
#print axioms rplace_any

theorem putD_tx {L : List (List Int)} {s : List Int} (h : TxOk L) (hs : TxB s) (hl : s.length ≤ maxLen) : TxOk (putD L s).1 := fun t ht => by
  rcases putD_mem ht with h1 | rfl
  · exact h t h1
  · exact ⟨hl, hs⟩
/-- What the document's Put answers: the list as it was, or one in new memory. -/
def RPut (w : World) (n0 : Nat) (v : Value) (r : List (List Int) × Int) (e : Ending) (w' : World) : Prop :=
  ∃ v', e = .returned (.tuple #[v', .int .i64 r.2]) ∧ w'.ownsRow n0 9 1 v' r.1.length (strVs r.1) ∧ (v' = v ∨ w'.ownsRow w.heap.size 9 1 v' r.1.length (strVs r.1)) ∧ Below w.heap.size w w'
set_option maxRecDepth 100000 in
set_option maxHeartbeats 1000000 in
theorem rput13_any {w : World} {n0 : Nat} {v : Value} {L : List (List Int)} (h : w.ownsRow n0 9 1 v L.length (strVs L)) (hn0 : n0 ≤ w.heap.size) (hx : TxOk L) (s : List Int) (hs : TxB s) (hn : L.length ≤ 1000000000) :
    Calls Try.prog 17 #[v, .string (strOfNums s)] w (RPut w n0 v (putD L s)) := by
  obtain ⟨i0, hi, hz0, hz1, hz2⟩ := info_parts Try.infoTxt
  have her := ERow.of_own h
  obtain ⟨A, c, rfl, hc1, hc2⟩ := her.form
  have HPL := Lib.hid (rplace_any A c L s her hx hs)
  rcases placeD_ways L s with ⟨hp, hno⟩ | ⟨j, hj0, hp, _, _⟩
  · rw [putD_new hp]
    rw [hp] at HPL
    have HER := Lib.hid her
    have hl : (strVs L).length = L.length * 1 := by rw [strVs_length, Nat.mul_one]
    have HON := Lib.hid (strVs_one L)
    obtain ⟨n, hn'⟩ : ∃ n, L.length = n := ⟨_, rfl⟩
    have HN := Lib.hid hn'
    rw [hn'] at HPL HER hl hc1 hn ⊢
    clear h her hx hs hno hp hn'
    go_enter Try.func17, Try.ntmps17
    go_wp2_with fail
    refine HPL.out.mono ?_
    rintro e w1 ⟨rfl, rfl⟩
    go_wp2_with (first
      | (at_builtin; refine wpList_append_erow _ rfl _ _ 46 9 rfl w.heap.size i0 (.string ⟨#[]⟩) 1 16 Try.underlying46 hi hz0 hz1 hz2 rfl (by decide) (.slice (some ⟨w.heap.size, 0, none⟩) 0 0) 0 [] (by rfl) (own_none (Nat.le_refl _)) w.heap.size (.slice A n c) n (strVs L) (by rfl) (HER.out.below ((Below.refl _ _).alloc (Nat.le_refl _) _)) hl HON.out (by simp only [maxLen]; omega) (by omega) (by simp) n (Nat.zero_add n) (strVs L) rfl ?_; intro A2 c2 w2 hown2 hg2 hat2; have HO2 := Lib.hid hown2; have HG2 := Lib.hid hg2; clear hown2 hg2 hat2)
      | (at_builtin; refine wpList_append_erow _ rfl _ _ 46 9 rfl w.heap.size i0 (.string ⟨#[]⟩) 1 16 Try.underlying46 hi hz0 hz1 hz2 rfl (by decide) (.slice A2 n c2) n (strVs L) (by rfl) (HO2.out.alloc _) (w2.heap.size + 1) (.slice (some ⟨w2.heap.size, 0, none⟩) 1 1) 1 [.string (strOfNums s)] (by rfl) (ERow.held (t := 9) (heap_alloc_new w2 _) (Nat.lt_succ_self _) (by unfold maxLen; omega)) rfl (by simp [Value.oneCell']) (by simp only [maxLen]; omega) (by omega) (by have := HG2.out.size; simp at this ⊢; omega) (n + 1) rfl _ rfl ?_; intro A3 c3 w3 hown3 hg3 hat3; have HO3 := Lib.hid hown3; have HG3 := Lib.hid hg3; clear hown3 hg3 hat3))
    have hb2 : Below w.heap.size w w2 := ((Below.refl _ _).alloc (Nat.le_refl _) _).grown HG2.out (by simp) (fun k hk => by simp [Value.ownBlock] at hk; omega)
    have hz2' := hb2.size
    have hb3 : Below w.heap.size w w3 := (hb2.alloc hz2' _).grown HG3.out (by simp; omega) (fun k hk => (HO2.out.lt k hk).1)
    have ho3 := HO3.out
    have ho4 : w3.ownsRow w.heap.size 9 1 (.slice A3 (n + 1) c3) (L ++ [s]).length (strVs (L ++ [s])) := by
      rw [List.length_append, strVs_snoc, HN.out]
      exact ho3
    have hfin : RPut w n0 (.slice A n c) (L ++ [s], (n : Int)) (.returned (.tuple #[.slice A3 (n + 1) c3, .int .i64 n])) w3 := ⟨_, rfl, own_base ho4 hn0, .inr ho4, hb3⟩
    exact bodyPost_ret (v := .tuple #[.slice A3 (n + 1) c3, .int .i64 n]) (by simp [results, Try.results17, go_sem]) rfl hfin
  · rw [putD_old hp]
    rw [hp] at HPL
    have HF := Lib.hid (show RPut w n0 (.slice A L.length c) (L, (j : Int)) (.returned (.tuple #[.slice A L.length c, .int .i64 j])) w from ⟨_, rfl, h, .inl rfl, Below.refl _ _⟩)
    clear h her hx hp
    go_enter Try.func17, Try.ntmps17
    go_wp2_with fail
    refine HPL.out.mono ?_
    rintro e w1 ⟨rfl, rfl⟩
    go_wp2_with fail
    exact bodyPost_ret (v := .tuple #[.slice A L.length c, .int .i64 j]) (by simp [results, Try.results17, go_sem]) rfl HF.out
#print axioms rput13_any
end Go.Proofs.Ytlmedebhkkiagaa
