/-
  How many events there are of each shape: the code's Runs.
-/
import Derived.Test.YtlmedebhkkiagaaDictRefOf
namespace Go.Proofs.Ytlmedebhkkiagaa
open Go.RowKit Go.ChangeShapes Go.WideShapes

theorem Try.infoInt13 : (Try.prog.info? 3).map (fun i => (i.zero, i.size, i.bytes)) = some (some (.int .i64 0), 1, 8) := by kernel_rfl
def natV (n : Nat) : Value := .int .i64 n
def natVs (l : List Nat) : List Value := l.map natV
theorem natVs_length (l : List Nat) : (natVs l).length = l.length := List.length_map _
theorem natVs_at {l : List Nat} {i n : Nat} (h : l[i]? = some n) : (natVs l)[i]? = some (.int .i64 n) := by unfold natVs; rw [List.getElem?_map, h]; rfl
theorem natVs_set (l : List Nat) (i n : Nat) : (natVs l).set i (.int .i64 n) = natVs (l.set i n) := by
  unfold natVs
  rw [List.map_set]
  rfl
theorem natVs_snoc (l : List Nat) (n : Nat) : natVs (l ++ [n]) = natVs l ++ [.int .i64 n] := by unfold natVs; rw [List.map_append]; rfl
def shps (evs : List Em) : List Sh := evs.map shp
theorem shps_at {evs : List Em} {k : Nat} {x : Em} (h : evs[k]? = some x) : (shps evs)[k]? = some (shp x) := by unfold shps; rw [List.getElem?_map, h]; rfl

set_option maxRecDepth 100000 in
theorem shape_any (p : Int) (A : Option Addr) (n c : Nat) (w : World) :
    Calls Try.prog 35 #[.agg #[.int .i64 p, .slice A n c]] w fun e w' => e = .returned (.agg #[.int .i64 p, .int .i64 n]) ∧ Below w.heap.size w w' := by
  go_enter Try.func35, Try.ntmps35
  go_wp2_with fail
  exact bodyPost_ret (v := .agg #[.int .i64 p, .int .i64 n]) (by simp [results, Try.results35, go_sem]) rfl ⟨rfl, ((Below.refl _ _).alloc (Nat.le_refl _) _).alloc (by simp) _⟩
#print axioms shape_any

set_option maxRecDepth 100000 in
set_option maxHeartbeats 2000000 in
theorem druns_any (A : Option Addr) (c : Nat) (evs : List Em) (w : World) (hrow : EvRow w w.heap.size (.slice A evs.length c) evs) (hn : evs.length ≤ 1000000000) :
    Calls Try.prog 26 #[.slice A evs.length c] w fun e w' => ∃ v, e = .returned v ∧ w'.ownsRow w.heap.size 3 1 v (runsD (shps evs) (shps evs)).length (natVs (runsD (shps evs) (shps evs))) ∧ Below w.heap.size w w' := by
  obtain ⟨i0, hi, hz0, hz1, hz2⟩ := info_parts Try.infoInt13
  obtain ⟨-, hc1, hc2⟩ := hrow.1.len
  have HEV := Lib.hid hrow
  clear hrow
  obtain ⟨S, hS⟩ : ∃ S, shps evs = S := ⟨_, rfl⟩
  have HS := Lib.hid hS
  have hsl : S.length = evs.length := by rw [← hS]; exact List.length_map _
  rw [hS]
  clear hS
  obtain ⟨r, hr⟩ : ∃ r, w.heap.size = r := ⟨_, rfl⟩
  have hm0 : MapK shV (w.alloc (.map #[] 0)) r ([] : List Sh) := by rw [← hr]; exact MapK.new shV w
  have hb0 : Below r w (w.alloc (.map #[] 0)) := (Below.refl _ _).alloc (by omega) _
  have HM0 := Lib.hid hm0
  have HB0 := Lib.hid hb0
  have HO0 := Lib.hid (own_nil (w.alloc (.map #[] 0)) r 3)
  rw [hr] at HEV ⊢
  have hmm := @run_makeMap Try.prog
  clear hm0 hb0
  go_enter Try.func26, Try.ntmps26
  go_wp2_with fail
  clear hmm
  go_loopg [3, 12] evs.length (fun gk v0 i wr => ∃ (k : Nat) (v : Value), k ≤ evs.length ∧ v = v0 ∧ i = .int .i64 k ∧ Hid (evs.length - k = gk) ∧ Hid (wr.ownsRow r 3 1 v (runsD (S.take k) (S.take k)).length (natVs (runsD (S.take k) (S.take k)))) ∧ Hid (MapK shV wr r (firstsS (S.take k))) ∧ Hid (Below r w wr))
  case atStart => exact ⟨0, _, Nat.zero_le _, rfl, rfl, Lib.hid rfl, HO0, HM0, HB0⟩
  case round =>
    obtain ⟨k, v, hk, rfl, rfl, HGK, HO, HM, HB⟩ := hrel
    by_cases hlt : k < evs.length
    · obtain ⟨x, hx⟩ : ∃ x, evs[k]? = some x := ⟨_, List.getElem?_eq_getElem hlt⟩
      have hz := HB.out.size
      obtain ⟨b, o, rfl, hb, u0, u1, hokx, hl3, hl4⟩ := (HEV.out.below HB.out).at hx
      have hSk : S[k]? = some (shp x) := by rw [← HS.out]; exact shps_at hx
      have hlr := HM.out.lt
      obtain ⟨xA, hxA⟩ : ∃ xA, x.A = xA := ⟨_, rfl⟩
      obtain ⟨xn, hxn⟩ : ∃ xn, x.args.length = xn := ⟨_, rfl⟩
      obtain ⟨xp, hxp⟩ : ∃ xp, x.p = xp := ⟨_, rfl⟩
      rw [hxA, hxn] at u1
      rw [hxn] at hl3
      rw [hxp] at u0
      have hse : shp x = (xp, xn) := by rw [← hxp, ← hxn]; rfl
      rw [hse] at hSk
      obtain ⟨w1, hw1⟩ : ∃ w1, wr.alloc (.cells #[.int .i64 xp, .slice xA xn x.c] 42) = w1 := ⟨_, rfl⟩
      have s1 : w1.heap.size = wr.heap.size + 1 := by rw [← hw1, World.size_alloc]
      have b1 : Below wr.heap.size wr w1 := by rw [← hw1]; exact (Below.refl _ _).alloc (Nat.le_refl _) _
      have h1 : Held w1 wr.heap.size 42 #[.int .i64 xp, .slice xA xn x.c] := by rw [← hw1]; exact heap_alloc_new wr _
      have HP1 := Lib.hid h1
      have HM1 := Lib.hid (HM.out.below b1 hlr)
      have HO1 := Lib.hid (own_below HO.out b1)
      have HB1 := Lib.hid (HB.out.trans (b1.mono (by omega)))
      have p0 := h1.cell 0
      have p1 := h1.cell 1
      simp at p0 p1
      have hl1 : wr.heap.size < w1.heap.size := by omega
      have HKY := Lib.hid (fun W => shape_any xp xA xn x.c W)
      have hfl : (firstsS (S.take k)).length ≤ k := by
        have h1 := firstsS_le (S.take k)
        have h2 := List.length_take_le k S
        omega
      have hrl := runsD_length (S.take k) (S.take k)
      have HFR := Lib.hid (And.intro hfl hrl)
      have HSK := Lib.hid hSk
      obtain ⟨xc, hxc⟩ : ∃ xc, x.c = xc := ⟨_, rfl⟩
      rw [hxc] at hw1 HP1 p1 HKY u1 hl3 hl4
      clear hokx hx hxA hxn hxp hxc hse h1 b1 hSk hfl hrl
      clear x
      go_wp2_with fail
      refine (HKY.out _).mono ?_
      rintro e w2 ⟨rfl, hb2⟩
      have hz2' : w1.heap.size ≤ w2.heap.size := hb2.size
      have HM2 := Lib.hid (HM1.out.below hb2 (by omega))
      have HO2 := Lib.hid (own_below HO1.out hb2)
      have HB2 := Lib.hid (HB1.out.trans (hb2.mono (by omega)))
      have HP2 := Lib.hid (HP1.out.below hb2 (by omega))
      have hlk := HM2.out.look shape_way (fun _ _ => trivial) (x := (xp, xn)) trivial (t := 83) Try.underlying83 (zero_int13 w2)
      rcases placeD_ways (firstsS (S.take k)) (xp, xn) with ⟨hp, hno⟩ | ⟨j, hj0, hp, hj, _⟩
      · rw [hp] at hlk
        simp only [show ((-1 : Int) < 0) from by decide, if_true, show decide ((0 : Int) ≤ -1) = false from rfl] at hlk
        have HNW := Lib.hid (runsD_new HSK.out hno)
        have HPN := Lib.hid hp
        have p0' := HP2.out.cell 0
        have p1' := HP2.out.cell 1
        have hl2 := HP2.out.lt
        simp at p0' p1'
        obtain ⟨Av, cv, hv, hcv1, hcv2⟩ := (ERow.of_own HO2.out).form
        subst hv
        obtain ⟨R, hR⟩ : ∃ R, runsD (S.take k) (S.take k) = R := ⟨_, rfl⟩
        obtain ⟨Q, hQ⟩ : ∃ Q, firstsS (S.take k) = Q := ⟨_, rfl⟩
        rw [hR] at HO2 hcv1 HNW HFR ⊢
        rw [hQ] at HM2 HNW HFR HPN
        obtain ⟨m, hm⟩ : ∃ m, R.length = m := ⟨_, rfl⟩
        have HMM := Lib.hid hm
        rw [hm] at HO2 hcv1 ⊢
        have hmk : m ≤ 1000000000 := by have := HFR.out.1; have := HFR.out.2; omega
        clear hb2 hp hno p0 p1 u0 u1 hR hQ hm
        go_wp2_with fail
        refine (HKY.out _).mono ?_
        rintro e w3 ⟨rfl, hb3⟩
        have hz3 : w2.heap.size ≤ w3.heap.size := hb3.size
        have HM3 := Lib.hid (HM2.out.below hb3 (by omega))
        have HO3 := Lib.hid (own_below HO2.out hb3)
        have HB3 := Lib.hid (HB2.out.trans (hb3.mono (by omega)))
        obtain ⟨o4, hup, hmk4⟩ := HM3.out.add shape_way (fun _ _ => trivial) (x := (xp, xn)) trivial (t := 83) Try.underlying83 (by rw [HPN.out]; decide)
        rw [show Q.length = m by rw [← HMM.out, HFR.out.2]] at hup
        have hg4 : w3.grownBy (w3.putObj r o4) (some r) := grownBy_putObj' w3 r o4
        obtain ⟨w4, hw4⟩ : ∃ w4, w3.putObj r o4 = w4 := ⟨_, rfl⟩
        rw [hw4] at hup hmk4 hg4
        obtain ⟨es3, cl3, he3, _⟩ := id HM3.out
        have hn3 := own_not_map HO3.out he3
        have HO4 := Lib.hid (HO3.out.kept hg4 (.inr (fun e => hn3 e.symm)))
        have HM4 := Lib.hid hmk4
        have hz4 := hg4.size
        have HB4 := Lib.hid (HB3.out.grown hg4 (by omega) (fun j e => by cases e; omega))
        obtain ⟨w5, hw5⟩ : ∃ w5, w4.alloc (.cells #[.int .i64 0] 3) = w5 := ⟨_, rfl⟩
        have b5 : Below w4.heap.size w4 w5 := by rw [← hw5]; exact (Below.refl _ _).alloc (Nat.le_refl _) _
        have h5 : Held w5 w4.heap.size 3 #[.int .i64 0] := by rw [← hw5]; exact heap_alloc_new w4 _
        have HO5 := Lib.hid (own_below HO4.out b5)
        have HM5 := Lib.hid (HM4.out.below b5 HM4.out.lt)
        have HE5 := Lib.hid (ERow.held (us := [.int .i64 0]) (n := 1) (B := w4.heap.size + 1) h5 (Nat.lt_succ_self _) (by unfold maxLen; omega))
        have HB5 := Lib.hid (HB4.out.trans (b5.mono (by omega)))
        have hz5 := b5.size
        clear hb3 hmk4 hg4 hlk p0' p1' he3 hn3 b5 h5 hw4
        go_wp2_with (at_builtin; refine wpList_append_erow _ rfl _ _ 62 3 rfl r i0 (.int .i64 0) 1 8 Try.underlying62 hi hz0 hz1 hz2 rfl (by decide) (.slice Av m cv) m (natVs R) (by rfl) HO5.out (w4.heap.size + 1) _ 1 [.int .i64 0] (by rfl) HE5.out rfl (by simp [Value.oneCell']) (by simp only [maxLen]; omega) (by omega) (by omega) (m + 1) rfl (natVs (R ++ [0])) (natVs_snoc R 0).symm ?_; intro A6 c6 w6 hown6 hg6 hat6; have hat0 := natVs_at (l := R ++ [0]) (i := m) (n := 0) (by rw [← HMM.out]; simp); obtain ⟨bb, rfl, hbb, hcell, hfr, hst⟩ := own_store hown6 (Nat.lt_succ_self m) hat0; obtain ⟨-, hcl6, hcl7⟩ := (ERow.of_own hown6).len; have HG6 := Lib.hid hg6; have HST := Lib.hid hst; have HO6 := Lib.hid hown6; have hgl := World.block_lt_of_cell? w6 ⟨bb, m, none⟩ hcell; clear hg6 hst hown6 hat6 hat0)
        have hz6 := HG6.out.size
        obtain ⟨es5, cl5, he5, _⟩ := id HM5.out
        have hn5 := own_not_map HO5.out he5
        have hm6 : MapK shV w6 r (Q ++ [(xp, xn)]) := HM5.out.keep (HG6.out.block r HM5.out.lt hn5)
        obtain ⟨es6, cl6, he6, _⟩ := id hm6
        have hn6 := own_not_map HO6.out he6
        have hb6 : Below r w w6 := HB5.out.grown HG6.out (by omega) (fun j ej => (HO5.out.lt j ej).1)
        go_roundg (evs.length - (k + 1))
        case measure => have := HGK.out; omega
        case rel =>
          refine ⟨k + 1, _, by omega, rfl, by go_num, Lib.hid rfl, Lib.hid ?_, Lib.hid ?_, Lib.hid (hb6.setCell (p := ⟨bb, m, none⟩) hbb _)⟩
          · have h7 := HST.out (.int .i64 ((1 : Nat) : Int))
            rw [natVs_set] at h7
            have e7 : (R ++ [0]).set m 1 = R ++ [1] := by
              rw [← HMM.out, List.set_append_right _ _ (Nat.le_refl _), Nat.sub_self]
              rfl
            rw [HNW.out.2, List.length_append, HMM.out, ← e7]
            exact h7
          · rw [HNW.out.1]
            refine hm6.keep (Below.heap_setCell w6 ⟨bb, m, none⟩ _ r (fun e => hn6 ?_))
            rw [show r = bb from e]
            rfl
      · rw [hp] at hlk
        simp only [show ¬ ((j : Int) < 0) from by omega, if_false, show decide ((0 : Int) ≤ (j : Int)) = true from decide_eq_true (by omega)] at hlk
        obtain ⟨hfs, cc, hcc, hck, hrn⟩ := runsD_old HSK.out hj
        have hjl : j < (runsD (S.take k) (S.take k)).length := (List.getElem?_eq_some_iff.1 hcc).1
        obtain ⟨Av, cv, hv, hcv1, hcv2⟩ := (ERow.of_own HO2.out).form
        subst hv
        obtain ⟨bb, rfl, hbb, hcell, hfr, hst⟩ := own_store HO2.out hjl (natVs_at hcc)
        obtain ⟨es2, cl2, he2, _⟩ := id HM2.out
        have hn2 := own_not_map HO2.out he2
        have hgl := World.block_lt_of_cell? w2 ⟨bb, j, none⟩ hcell
        have HRN := Lib.hid (And.intro hfs hrn)
        obtain ⟨R, hR⟩ : ∃ R, runsD (S.take k) (S.take k) = R := ⟨_, rfl⟩
        rw [hR] at HO2 hcv1 HRN hst hcc hjl hn2 ⊢
        have hst1 := hst (.int .i64 ((cc + 1 : Nat) : Int))
        rw [natVs_set] at hst1
        have HST := Lib.hid hst1
        have HN2 := Lib.hid hn2
        obtain ⟨m, hm⟩ : ∃ m, R.length = m := ⟨_, rfl⟩
        have HMM := Lib.hid hm
        rw [hm] at hcv1 hjl ⊢
        clear hb2 hp hj hcc hst hst1 hrn hfs he2 hn2 p0 p1 u0 u1 hR hm hj0
        go_wp2_with fail
        go_roundg (evs.length - (k + 1))
        case measure => have := HGK.out; omega
        case rel =>
          refine ⟨k + 1, _, by omega, rfl, by go_num, Lib.hid rfl, Lib.hid ?_, Lib.hid ?_, Lib.hid (HB2.out.setCell (p := ⟨bb, j, none⟩) hbb _)⟩
          · rw [HRN.out.2, List.length_set]
            rw [HMM.out] at HST ⊢
            exact HST.out
          · rw [HRN.out.1]
            refine HM2.out.keep (Below.heap_setCell w2 ⟨bb, j, none⟩ _ r (fun e => HN2.out ?_))
            rw [show r = bb from e]
            rfl
    · obtain rfl : k = evs.length := by omega
      have HJ := HO
      rw [List.take_of_length_le (by omega)] at HJ
      go_wp2_with fail
      go_ret
      exact ⟨_, rfl, HJ.out, HB.out⟩
#print axioms druns_any
end Go.Proofs.Ytlmedebhkkiagaa
