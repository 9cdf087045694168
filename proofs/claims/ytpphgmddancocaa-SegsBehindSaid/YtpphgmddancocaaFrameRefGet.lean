/-
  The document's own frame that a text begins with.
-/
import Derived.Test.YtpphgmddancocaaFrameRef
import Derived.Test.YtpphgmddancocaaRefGet
import Derived.Test.YtpphgmddancocaaFrameSmall
import Derived.Test.YtpphgmddancocaaFrameGet
import Derived.Deep.RegionHeldLaw
import Derived.Lib.Strings
import Derived.Laws.StructEq
namespace Go.Proofs.Ytpphgmddancocaa
open Go.RowKit

theorem bytes_eq {a b : ByteArray} (h : a.toList = b.toList) : a = b := by
  rw [Lib.toList_data, Lib.toList_data] at h
  rw [← Lib.mk_data a, ← Lib.mk_data b, h]

/-- What Get answers. -/
def RFGot (w : World) (t : (Int × List Int) × Nat × Int) (r : Ending) (w' : World) : Prop :=
  ∃ A c, r = .returned (.tuple #[.agg #[.int .i64 t.1.1, .slice A t.1.2.length c], .int .i64 t.2.1, .int .i64 t.2.2]) ∧ Row w' w'.heap.size (.slice A t.1.2.length c) t.1.2 ∧ Below w.heap.size w w'

theorem rf_none {w W : World} {er : Int} {xs : List Int} (hget : getFr xs = noFr er) (hb : Below w.heap.size w W) :
    RFGot w (getFr xs) (.returned (.tuple #[.agg #[.int .i64 0, .slice none 0 0], .int .i64 0, .int .i64 er])) ((W.setCell ⟨w.heap.size, 0, none⟩ (.int .i64 0)).setCell ⟨w.heap.size, 1, none⟩ (.slice none 0 0)) := by
  rw [hget]
  exact ⟨none, 0, rfl, Row.nil _ _, (hb.setCell (p := ⟨w.heap.size, 0, none⟩) (Nat.le_refl _) _).setCell (p := ⟨w.heap.size, 1, none⟩) (Nat.le_refl _) _⟩

set_option maxRecDepth 100000 in
set_option maxHeartbeats 4000000 in
theorem rfget_any (xs : List Int) (hl : xs.length ≤ 100000000000) (w : World) (hb : ∀ x ∈ xs, 0 ≤ x ∧ x < 256) :
    Calls Try.prog 22 #[.string (strOfNums xs)] w (RFGot w (getFr xs)) := by
  have HB := Lib.hid hb; clear hb
  have hsz := strOfNums_size xs
  have HMK := Lib.hid (fun W => rmark_any W)
  rw [str_mark] at HMK
  obtain ⟨M, hM1, hM2, hM3⟩ : ∃ M : Nat, M ≤ xs.length ∧ M ≤ 4 ∧ (M = xs.length ∨ M = 4) := by
    by_cases h : xs.length ≤ 4
    · exact ⟨xs.length, by omega, by omega, .inl rfl⟩
    · exact ⟨4, by omega, by omega, .inr rfl⟩
  have HM3 := Lib.hid hM3; clear hM3
  go_enter Try.func22, Try.ntmps22
  go_wp2_with fail
  refine (HMK.out _).mono ?_
  rintro e w3 ⟨rfl, hb3⟩
  have hr3 : Held w3 w.heap.size 33 #[.int .i64 0, .slice none 0 0] := (hb3.block w.heap.size (by simp <;> omega)).trans ((Below.heap_alloc (w.alloc _) _ w.heap.size (by simp)).trans (heap_alloc_new w _))
  have hn3 : Held w3 (w.heap.size + 1) 33 #[.int .i64 0, .slice none 0 0] := (hb3.block (w.heap.size + 1) (by simp <;> omega)).trans (by
    have := heap_alloc_new (w.alloc (.cells #[.int .i64 0, .slice none 0 0] 33)) (.cells #[.int .i64 0, .slice none 0 0] 33)
    rw [World.size_alloc] at this
    exact this)
  have b3 : Below w.heap.size w w3 := (((Below.refl _ _).alloc (Nat.le_refl _) _).alloc (by simp) _).trans (hb3.mono (by simp <;> omega))
  have c0 := hr3.cell 0
  have c1 := hr3.cell 1
  have d0 := hn3.cell 0
  have d1 := hn3.cell 1
  simp at c0 c1 d0 d1
  have f0 := hr3.frozen 0
  have f1 := hr3.frozen 1
  have HR3 := Lib.hid hr3
  have HB3 := Lib.hid b3
  have HN3 := Lib.hid hn3
  have hz3 : w.heap.size + 2 ≤ w3.heap.size := by have := hb3.size; simpa using this
  clear hb3 hr3 hn3 b3
  go_wp2_with fail
  go_loopw [7] (fun i wr => ∃ k n : Nat, k ≤ M ∧ i = .int .i64 k ∧ wr = w3.drewN n ∧ Hid (∀ j, j < k → xs.getD j 0 = markL.getD j 0)) (fun i _ => M - (intOf i).toNat)
  case atStart => exact ⟨0, 0, Nat.zero_le _, rfl, rfl, Lib.hid (fun j h => absurd h (Nat.not_lt_zero _))⟩
  case round =>
    obtain ⟨k, n, hk, rfl, rfl, HJ⟩ := hrel
    by_cases hlt : k < M
    · have hin : xs.getD k 0 ∈ xs := by rw [List.getD, List.getElem?_eq_getElem (by omega)]; simp
      obtain ⟨y0, y1⟩ := HB.out _ hin
      clear hin
      have hat := str_at xs HB.out k (by omega) (by omega)
      obtain ⟨y, hy⟩ : ∃ y, xs.getD k 0 = y := ⟨_, rfl⟩
      rw [hy] at hat y0 y1
      have HY := Lib.hid hy; clear hy
      have i2 : k < xs.length := by omega
      have i3 : (k : Int) < (xs.length : Int) := by omega
      obtain ⟨z, hz⟩ : ∃ z, markL.getD k 0 = z := ⟨_, rfl⟩
      by_cases he : y = z
      · have hj2 : ∀ j, j < k + 1 → xs.getD j 0 = markL.getD j 0 := fun j hj => by
          rcases Nat.lt_or_ge j k with h | h
          · exact HJ.out j h
          · obtain rfl : j = k := by omega
            rw [HY.out, hz, he]
        have HJ2 := Lib.hid hj2; clear hj2 HJ
        rcases (by omega : k = 0 ∨ k = 1 ∨ k = 2 ∨ k = 3) with rfl | rfl | rfl | rfl
        · have i1 : (0 : Int) < (xs.length : Int) := by omega
          have hzv : z = 199 := hz.symm
          subst hzv
          subst he
          clear hz
          go_wp2_with fail
          go_quiet (fail)
          go_wp2_with fail
          exact ⟨⟨1, n + nq, by omega, rfl, rfl, HJ2⟩, by simp [intOf]; omega⟩
        · have i1 : (1 : Int) < (xs.length : Int) := by omega
          have hzv : z = 84 := hz.symm
          subst hzv
          subst he
          clear hz
          go_wp2_with fail
          go_quiet (fail)
          go_wp2_with fail
          exact ⟨⟨2, n + nq, by omega, rfl, rfl, HJ2⟩, by simp [intOf]; omega⟩
        · have i1 : (2 : Int) < (xs.length : Int) := by omega
          have hzv : z = 71 := hz.symm
          subst hzv
          subst he
          clear hz
          go_wp2_with fail
          go_quiet (fail)
          go_wp2_with fail
          exact ⟨⟨3, n + nq, by omega, rfl, rfl, HJ2⟩, by simp [intOf]; omega⟩
        · have i1 : (3 : Int) < (xs.length : Int) := by omega
          have hzv : z = 1 := hz.symm
          subst hzv
          subst he
          clear hz
          go_wp2_with fail
          go_quiet (fail)
          go_wp2_with fail
          exact ⟨⟨4, n + nq, by omega, rfl, rfl, HJ2⟩, by simp [intOf]; omega⟩
      · have hfin : getFr xs = noFr 4 := by
          have hm := markI_other markL xs k (by simp [markL]; omega) i2 HJ.out (by rw [HY.out, hz]; exact he)
          unfold getFr
          rw [if_pos (by rw [hm]; simp), hm]
        have HF := Lib.hid hfin; clear hfin HJ
        rcases (by omega : k = 0 ∨ k = 1 ∨ k = 2 ∨ k = 3) with rfl | rfl | rfl | rfl
        · have i1 : (0 : Int) < (xs.length : Int) := by omega
          have hzv : z = 199 := hz.symm
          subst hzv
          have hne : (y != 199) = true := bne_iff_ne.2 he
          have hne2 : (y == 199) = false := beq_eq_false_iff_ne.2 he
          clear hz
          go_wp2_with fail
          go_quiet (fail)
          go_wp2_with fail
          · have hfin := ((show Held (w3.drewN (n + nq)) w.heap.size 33 #[.int .i64 0, .slice none 0 0] from HR3.out).put 0 (.int .i64 0)).put 1 (.slice none 0 0)
            have e0 := hfin.cell 0
            have e1 := hfin.cell 1
            simp at e0 e1
            exact bodyPost_ret (v := .tuple #[.agg #[.int .i64 0, .slice none 0 0], .int .i64 0, .int .i64 4]) (by simp [results, Try.results22, go_sem, e0, e1]) rfl (rf_none HF.out (below_drewN HB3.out _))
          · rename_i hx
            simp [bne] at hx
            exact absurd hx he
        · have i1 : (1 : Int) < (xs.length : Int) := by omega
          have hzv : z = 84 := hz.symm
          subst hzv
          have hne : (y != 84) = true := bne_iff_ne.2 he
          have hne2 : (y == 84) = false := beq_eq_false_iff_ne.2 he
          clear hz
          go_wp2_with fail
          go_quiet (fail)
          go_wp2_with fail
          · have hfin := ((show Held (w3.drewN (n + nq)) w.heap.size 33 #[.int .i64 0, .slice none 0 0] from HR3.out).put 0 (.int .i64 0)).put 1 (.slice none 0 0)
            have e0 := hfin.cell 0
            have e1 := hfin.cell 1
            simp at e0 e1
            exact bodyPost_ret (v := .tuple #[.agg #[.int .i64 0, .slice none 0 0], .int .i64 0, .int .i64 4]) (by simp [results, Try.results22, go_sem, e0, e1]) rfl (rf_none HF.out (below_drewN HB3.out _))
          · rename_i hx
            simp [bne] at hx
            exact absurd hx he
        · have i1 : (2 : Int) < (xs.length : Int) := by omega
          have hzv : z = 71 := hz.symm
          subst hzv
          have hne : (y != 71) = true := bne_iff_ne.2 he
          have hne2 : (y == 71) = false := beq_eq_false_iff_ne.2 he
          clear hz
          go_wp2_with fail
          go_quiet (fail)
          go_wp2_with fail
          · have hfin := ((show Held (w3.drewN (n + nq)) w.heap.size 33 #[.int .i64 0, .slice none 0 0] from HR3.out).put 0 (.int .i64 0)).put 1 (.slice none 0 0)
            have e0 := hfin.cell 0
            have e1 := hfin.cell 1
            simp at e0 e1
            exact bodyPost_ret (v := .tuple #[.agg #[.int .i64 0, .slice none 0 0], .int .i64 0, .int .i64 4]) (by simp [results, Try.results22, go_sem, e0, e1]) rfl (rf_none HF.out (below_drewN HB3.out _))
          · rename_i hx
            simp [bne] at hx
            exact absurd hx he
        · have i1 : (3 : Int) < (xs.length : Int) := by omega
          have hzv : z = 1 := hz.symm
          subst hzv
          have hne : (y != 1) = true := bne_iff_ne.2 he
          have hne2 : (y == 1) = false := beq_eq_false_iff_ne.2 he
          clear hz
          go_wp2_with fail
          go_quiet (fail)
          go_wp2_with fail
          · have hfin := ((show Held (w3.drewN (n + nq)) w.heap.size 33 #[.int .i64 0, .slice none 0 0] from HR3.out).put 0 (.int .i64 0)).put 1 (.slice none 0 0)
            have e0 := hfin.cell 0
            have e1 := hfin.cell 1
            simp at e0 e1
            exact bodyPost_ret (v := .tuple #[.agg #[.int .i64 0, .slice none 0 0], .int .i64 0, .int .i64 4]) (by simp [results, Try.results22, go_sem, e0, e1]) rfl (rf_none HF.out (below_drewN HB3.out _))
          · rename_i hx
            simp [bne] at hx
            exact absurd hx he
    · have hkM : k = M := by omega
      by_cases h4 : xs.length < 4
      · have hget : getFr xs = noFr 2 := by
          have hm : markI markL xs = 2 := markI_short markL xs (by simpa [markL] using h4) (fun j hj => HJ.out j (by rcases HM3.out with h | h <;> omega))
          unfold getFr
          rw [if_pos (by rw [hm]; simp), hm]
        have HF := Lib.hid hget
        clear hget
        obtain rfl : k = xs.length := by rcases HM3.out with h | h <;> omega
        have h5i : (xs.length : Int) < 5 := by omega
        have h4i : (xs.length : Int) < 4 := by omega
        clear HJ hkM
        go_wp2_with fail
        have hfin := ((show Held (w3.drewN n) w.heap.size 33 #[.int .i64 0, .slice none 0 0] from HR3.out).put 0 (.int .i64 0)).put 1 (.slice none 0 0)
        have e0 := hfin.cell 0
        have e1 := hfin.cell 1
        simp at e0 e1
        exact bodyPost_ret (v := .tuple #[.agg #[.int .i64 0, .slice none 0 0], .int .i64 0, .int .i64 2]) (by simp [results, Try.results22, go_sem, e0, e1]) rfl (rf_none HF.out (below_drewN HB3.out _))
      obtain rfl : k = 4 := by rcases HM3.out with h | h <;> omega
      clear hkM
      by_cases h5 : xs.length < 5
      · have hget : getFr xs = noFr 2 := by
          have hm : markI markL xs = 0 := markI_all markL xs (by simp [markL]; omega) (fun j hj => HJ.out j (by simpa [markL] using hj))
          unfold getFr
          rw [if_neg (by rw [hm]; simp), List.drop_of_length_le (by omega)]
        have HF := Lib.hid hget
        clear hget HJ
        have h5i : (xs.length : Int) < 5 := by omega
        go_wp2_with fail
        have hfin := ((show Held (w3.drewN n) w.heap.size 33 #[.int .i64 0, .slice none 0 0] from HR3.out).put 0 (.int .i64 0)).put 1 (.slice none 0 0)
        have e0 := hfin.cell 0
        have e1 := hfin.cell 1
        simp at e0 e1
        exact bodyPost_ret (v := .tuple #[.agg #[.int .i64 0, .slice none 0 0], .int .i64 0, .int .i64 2]) (by simp [results, Try.results22, go_sem, e0, e1]) rfl (rf_none HF.out (below_drewN HB3.out _))
      · have hm : markI markL xs = 0 := markI_all markL xs (by simp [markL]; omega) (fun j hj => HJ.out j (by simpa [markL] using hj))
        have hx := markI_back hm
        have hd : xs.drop 4 = xs.getD 4 0 :: xs.drop 5 := by
          rw [List.drop_eq_getElem_cons (by omega)]
          simp [List.getD, List.getElem?_eq_getElem (show 4 < xs.length by omega)]
        rw [hd] at hx
        have hgf : getFr xs = if xs.getD 4 0 = 1 ∨ xs.getD 4 0 = 2 then getBody (xs.getD 4 0) (xs.drop 5) else noFr 4 := by
          conv => lhs; rw [hx]
          rw [getFr_mark]
        have hat := str_at xs HB.out 4 (by omega) (by omega)
        have hin : xs.getD 4 0 ∈ xs := by rw [List.getD, List.getElem?_eq_getElem (by omega)]; simp
        obtain ⟨y0, y1⟩ := HB.out _ hin
        clear hin hm HJ
        have hd4 : (xs.drop 4) = xs.getD 4 0 :: xs.drop 5 := hd
        have HD4 := Lib.hid hd4
        clear hd hx hd4
        obtain ⟨k0, hk0⟩ : ∃ k0, xs.getD 4 0 = k0 := ⟨_, rfl⟩
        rw [hk0] at hat y0 y1 hgf HD4
        clear hk0
        have h5i : (5 : Int) ≤ (xs.length : Int) := by omega
        have h5n : 4 < xs.length := by omega
        by_cases hk : k0 = 1 ∨ k0 = 2
        · rw [if_pos hk] at hgf
          have HGF := Lib.hid hgf
          clear hgf
          have hcut5 : (strOfNums xs).extract 5 xs.length = strOfNums (xs.drop 5) := by rw [str_cut, List.take_length]
          have hbys : ∀ x ∈ xs.drop 5, 0 ≤ x ∧ x < 256 := drop_bytes HB.out 5
          have hyl : (xs.drop 5).length = xs.length - 5 := by simp
          have HG := Lib.hid (fun W => rget_any (xs.drop 5) hbys (by omega) W)
          have HBY := Lib.hid hbys
          have HYL := Lib.hid hyl
          clear hbys hyl
          generalize hys0 : xs.drop 5 = ys at HGF hcut5 HG HBY HYL HD4
          have HYS := Lib.hid hys0.symm
          clear hys0
          by_cases her : (getI ys).2.2 = 0
          · obtain ⟨m, sz, hgi, h1, h2, h3, h4, h5⟩ := getI_ok ys HBY.out her
            rw [hgi] at HG
            simp only at HG
            have hszl : ys.length = xs.length - 5 := HYL.out
            by_cases hlim : 4096 < m
            · have HF := Lib.hid (HGF.out.trans (getBody_limit hgi hlim))
              have hli : (4096 : Int) < (m : Int) := by omega
              clear HGF h4 her hgi HD4
              rcases hk with rfl | rfl
              all_goals
                go_wp2_with fail
                refine (HG.out _).mono ?_
                rintro e w4 ⟨rfl, rfl⟩
                go_wp2_with fail
                have hfin := ((show Held (w3.drewN n) w.heap.size 33 #[.int .i64 0, .slice none 0 0] from HR3.out).put 0 (.int .i64 0)).put 1 (.slice none 0 0)
                have e0 := hfin.cell 0
                have e1 := hfin.cell 1
                simp at e0 e1
                exact bodyPost_ret (v := .tuple #[.agg #[.int .i64 0, .slice none 0 0], .int .i64 0, .int .i64 6]) (by simp [results, Try.results22, go_sem, e0, e1]) rfl (rf_none HF.out (below_drewN HB3.out _))
            · have hli : (m : Int) ≤ 4096 := by omega
              by_cases hsh : ys.length < sz + m + 4
              · have HF := Lib.hid (HGF.out.trans (getBody_short hgi (by omega) hsh))
                have hshi : (xs.length : Int) < 5 + (sz : Int) + (m : Int) + 4 := by omega
                clear HGF h4 her hgi HD4
                rcases hk with rfl | rfl
                all_goals
                  go_wp2_with fail
                  refine (HG.out _).mono ?_
                  rintro e w4 ⟨rfl, rfl⟩
                  go_wp2_with fail
                  have hfin := ((show Held (w3.drewN n) w.heap.size 33 #[.int .i64 0, .slice none 0 0] from HR3.out).put 0 (.int .i64 0)).put 1 (.slice none 0 0)
                  have e0 := hfin.cell 0
                  have e1 := hfin.cell 1
                  simp at e0 e1
                  exact bodyPost_ret (v := .tuple #[.agg #[.int .i64 0, .slice none 0 0], .int .i64 0, .int .i64 2]) (by simp [results, Try.results22, go_sem, e0, e1]) rfl (rf_none HF.out (below_drewN HB3.out _))
              · obtain ⟨P, hP⟩ : ∃ P, P = 5 + sz := ⟨_, rfl⟩
                obtain ⟨E, hE⟩ : ∃ E, E = P + m := ⟨_, rfl⟩
                obtain ⟨E4, hE4⟩ : ∃ E4, E4 = E + 4 := ⟨_, rfl⟩
                have hys : ys = xs.drop 5 := HYS.out
                have hcutE : (strOfNums xs).extract E E4 = strOfNums ((ys.drop (sz + m)).take 4) := by
                  rw [str_cut, List.drop_take, hys, List.drop_drop, show E4 - E = 4 by omega, show 5 + (sz + m) = E by omega]
                have hcutB : (strOfNums xs).extract 4 E = strOfNums (k0 :: ys.take (sz + m)) := by
                  rw [str_cut, List.drop_take, HD4.out, show E - 4 = (sz + m) + 1 by omega, List.take_succ_cons]
                have hcutP : (strOfNums xs).extract P E = strOfNums ((ys.drop sz).take m) := by
                  rw [str_cut, List.drop_take, hys, List.drop_drop, show E - P = m by omega, show 5 + sz = P by omega]
                have hbb : ∀ x ∈ k0 :: ys.take (sz + m), 0 ≤ x ∧ x < 256 := by
                  intro x hx
                  rcases List.mem_cons.1 hx with rfl | hx
                  · omega
                  · exact HBY.out x (List.mem_of_mem_take hx)
                have hsl := sumX_lt hbb
                have HS := Lib.hid (fun W => rsum_any (k0 :: ys.take (sz + m)) hbb (by simp; omega) W)
                have HF4 := Lib.hid (fun W => rfour_any (sumX (k0 :: ys.take (sz + m))) hsl W)
                have hb4 : ∀ x ∈ (ys.drop (sz + m)).take 4, 0 ≤ x ∧ x < 256 := fun x hx => HBY.out x (List.mem_of_mem_drop (List.mem_of_mem_take hx))
                have hbpay : ∀ x ∈ (ys.drop sz).take m, 0 ≤ x ∧ x < 256 := fun x hx => HBY.out x (List.mem_of_mem_drop (List.mem_of_mem_take hx))
                have hpayl : ((ys.drop sz).take m).length ≤ 100000000000 := by simp; omega
                have HBPAY := Lib.hid hbpay
                have hsum9 : 9 + sz + m = E4 := by omega
                have HS9 := Lib.hid hsum9
                have p1 : (5 : Int) + (sz : Int) = (P : Int) := by omega
                have p2 : (P : Int) + (m : Int) = (E : Int) := by omega
                have p3 : (E : Int) + 4 = (E4 : Int) := by omega
                have q1 : (4 : Int) ≤ (E : Int) := by omega
                have q2 : (E : Int) ≤ (E4 : Int) := by omega
                have q3 : (E4 : Int) ≤ (xs.length : Int) := by omega
                have q4 : (P : Int) ≤ (E : Int) := by omega
                have q5 : (E : Int) ≤ (xs.length : Int) := by omega
                have q6 : 4 ≤ E := by omega
                have q7 : E ≤ E4 := by omega
                have q8 : E4 ≤ xs.length := by omega
                have q9 : P ≤ E := by omega
                have qa : E ≤ xs.length := by omega
                have r1 : IntKind.i64.wrap (E4 : Int) = (E4 : Int) := IntWalk.i64_in _ (by omega)
                clear hP hE hE4 hbpay hsum9
                by_cases hq : (ys.drop (sz + m)).take 4 = le4 (sumX (k0 :: ys.take (sz + m)))
                · have hget := HGF.out.trans (getBody_ok hgi (by omega) hsh hq)
                  rw [HS9.out] at hget
                  have HF := Lib.hid hget
                  rw [hq] at hcutE
                  generalize strOfNums (le4 (sumX (k0 :: ys.take (sz + m)))) = s2 at HF4 hcutE
                  generalize strOfNums (k0 :: ys.take (sz + m)) = s3 at hcutB HS
                  generalize hpay : (ys.drop sz).take m = pay at hcutP HBPAY hpayl HF
                  have HPAY := Lib.hid hpay
                  clear HGF h4 her hgi HD4 hb4 hbb hsl hq hys hsh hpay hget
                  rcases hk with rfl | rfl
                  · go_wp2_with fail
                    refine (HG.out _).mono ?_
                    rintro e w4 ⟨rfl, rfl⟩
                    go_wp2_with fail
                    go_region_held (fun _ => True) (trivial)
                      (first
                        | (go_at_call 13; refine (HS.out _).mono ?_; rintro e w5 ⟨rfl, rfl⟩)
                        | (go_at_call 14; refine (HF4.out _).mono ?_; rintro e w6 ⟨rfl, hb6⟩))
                    have b6 : Below w3.heap.size w3 w6 := ⟨hb6.os, hb6.tape, hb6.output, hb6.size, hb6.block⟩
                    have hr6 := HR3.out.below b6 (by omega)
                    have B6 := Lib.hid b6
                    clear hb6 b6
                    obtain ⟨A7, c7, w7, hcv7, hrow7, hb7⟩ := conv_bytes (P := Try.prog) w6.drew 9 22 5 Try.underlying9 Try.underlying22 Try.underlying5 pay HBPAY.out (by omega)
                    have hlt6 : w.heap.size < w6.heap.size := hr6.lt
                    have hr7 := (show Held w6.drew w.heap.size 33 #[.int .i64 0, .slice none 0 0] from hr6).below hb7 hlt6
                    have g0 := hr7.cell 0
                    have g1 := hr7.cell 1
                    simp at g0 g1
                    have g2 := hr7.frozen 0
                    have g3 := hr7.frozen 1
                    have HR7 := Lib.hid hr7
                    have HROW7 := Lib.hid hrow7
                    have b7 : Below w3.heap.size w3 w7 := B6.out.trans ((show Below w6.heap.size w6 w7 from ⟨hb7.os, hb7.tape, hb7.output, hb7.size, hb7.block⟩).mono B6.out.size)
                    have B7 := Lib.hid b7
                    clear hr6 hr7 hrow7 hb7 b7
                    go_wp2_with fail
                    go_region_held (fun _ => True) (trivial) (fail)
                    all_goals
                      go_wp2_with fail
                      have hfin := (HR7.out.put 0 (.int .i64 (IntKind.i64.wrap 1))).put 1 (.slice A7 pay.length c7)
                      have e0 := hfin.cell 0
                      have e1 := hfin.cell 1
                      simp at e0 e1
                      refine bodyPost_ret (v := .tuple #[.agg #[.int .i64 (IntKind.i64.wrap 1), .slice A7 pay.length c7], .int .i64 E4, .int .i64 0]) (by simp [results, Try.results22, go_sem, e0, e1]) rfl ?_
                      rw [HF.out]
                      refine ⟨A7, c7, rfl, ?_, ?_⟩
                      · refine (HROW7.out.keep_but (g := w.heap.size) (fun k _ hn => ?_) (fun i n => ?_)).more (by simp)
                        · exact (Below.heap_setCell _ ⟨w.heap.size, 1, none⟩ _ k (by simp only; exact hn)).trans (Below.heap_setCell _ ⟨w.heap.size, 0, none⟩ _ k (by simp only; exact hn))
                        · rw [HR7.out.cell i]
                          match i with
                          | 0 => simp
                          | 1 => simp
                          | i + 2 => simp
                      · exact ((HB3.out.trans (B7.out.mono (by omega))).setCell (p := ⟨w.heap.size, 0, none⟩) (Nat.le_refl _) _).setCell (p := ⟨w.heap.size, 1, none⟩) (Nat.le_refl _) _
                  · go_wp2_with fail
                    refine (HG.out _).mono ?_
                    rintro e w4 ⟨rfl, rfl⟩
                    go_wp2_with fail
                    go_region_held (fun _ => True) (trivial)
                      (first
                        | (go_at_call 13; refine (HS.out _).mono ?_; rintro e w5 ⟨rfl, rfl⟩)
                        | (go_at_call 14; refine (HF4.out _).mono ?_; rintro e w6 ⟨rfl, hb6⟩))
                    have b6 : Below w3.heap.size w3 w6 := ⟨hb6.os, hb6.tape, hb6.output, hb6.size, hb6.block⟩
                    have hr6 := HR3.out.below b6 (by omega)
                    have B6 := Lib.hid b6
                    clear hb6 b6
                    obtain ⟨A7, c7, w7, hcv7, hrow7, hb7⟩ := conv_bytes (P := Try.prog) w6.drew 9 22 5 Try.underlying9 Try.underlying22 Try.underlying5 pay HBPAY.out (by omega)
                    have hlt6 : w.heap.size < w6.heap.size := hr6.lt
                    have hr7 := (show Held w6.drew w.heap.size 33 #[.int .i64 0, .slice none 0 0] from hr6).below hb7 hlt6
                    have g0 := hr7.cell 0
                    have g1 := hr7.cell 1
                    simp at g0 g1
                    have g2 := hr7.frozen 0
                    have g3 := hr7.frozen 1
                    have HR7 := Lib.hid hr7
                    have HROW7 := Lib.hid hrow7
                    have b7 : Below w3.heap.size w3 w7 := B6.out.trans ((show Below w6.heap.size w6 w7 from ⟨hb7.os, hb7.tape, hb7.output, hb7.size, hb7.block⟩).mono B6.out.size)
                    have B7 := Lib.hid b7
                    clear hr6 hr7 hrow7 hb7 b7
                    go_wp2_with fail
                    go_region_held (fun _ => True) (trivial) (fail)
                    all_goals
                      go_wp2_with fail
                      have hfin := (HR7.out.put 0 (.int .i64 (IntKind.i64.wrap 2))).put 1 (.slice A7 pay.length c7)
                      have e0 := hfin.cell 0
                      have e1 := hfin.cell 1
                      simp at e0 e1
                      refine bodyPost_ret (v := .tuple #[.agg #[.int .i64 (IntKind.i64.wrap 2), .slice A7 pay.length c7], .int .i64 E4, .int .i64 0]) (by simp [results, Try.results22, go_sem, e0, e1]) rfl ?_
                      rw [HF.out]
                      refine ⟨A7, c7, rfl, ?_, ?_⟩
                      · refine (HROW7.out.keep_but (g := w.heap.size) (fun k _ hn => ?_) (fun i n => ?_)).more (by simp)
                        · exact (Below.heap_setCell _ ⟨w.heap.size, 1, none⟩ _ k (by simp only; exact hn)).trans (Below.heap_setCell _ ⟨w.heap.size, 0, none⟩ _ k (by simp only; exact hn))
                        · rw [HR7.out.cell i]
                          match i with
                          | 0 => simp
                          | 1 => simp
                          | i + 2 => simp
                      · exact ((HB3.out.trans (B7.out.mono (by omega))).setCell (p := ⟨w.heap.size, 0, none⟩) (Nat.le_refl _) _).setCell (p := ⟨w.heap.size, 1, none⟩) (Nat.le_refl _) _
                · have HF := Lib.hid (HGF.out.trans (getBody_sum hgi (by omega) hsh hq))
                  have hne : strOfNums ((ys.drop (sz + m)).take 4) ≠ strOfNums (le4 (sumX (k0 :: ys.take (sz + m)))) := fun h => hq (str_inj hb4 (le4_byte hsl) h)
                  generalize strOfNums ((ys.drop (sz + m)).take 4) = s1 at hcutE hne
                  generalize strOfNums (le4 (sumX (k0 :: ys.take (sz + m)))) = s2 at HF4 hne
                  generalize strOfNums (k0 :: ys.take (sz + m)) = s3 at hcutB HS
                  have hn3 : (s1.toList == s2.toList) = false := beq_eq_false_iff_ne.2 (fun h => hne (bytes_eq h))
                  have hn1 : (s1 == s2) = false := by rw [beq_toListBytes]; exact hn3
                  have hn2 : (s1 != s2) = true := by simp only [bne, hn1, Bool.not_false]
                  clear HGF h4 her hgi HD4 hb4 hbb hsl hq hcutP hys hsh HBPAY hpayl
                  rcases hk with rfl | rfl
                  all_goals
                    go_wp2_with fail
                    refine (HG.out _).mono ?_
                    rintro e w4 ⟨rfl, rfl⟩
                    go_wp2_with fail
                    go_region_held (fun _ => True) (trivial)
                      (first
                        | (go_at_call 13; refine (HS.out _).mono ?_; rintro e w5 ⟨rfl, rfl⟩)
                        | (go_at_call 14; refine (HF4.out _).mono ?_; rintro e w6 ⟨rfl, hb6⟩))
                    have b6 : Below w3.heap.size w3 w6 := ⟨hb6.os, hb6.tape, hb6.output, hb6.size, hb6.block⟩
                    have hr6 := HR3.out.below b6 (by omega)
                    have hn6 := HN3.out.below b6 (by omega)
                    have g0 := hr6.cell 0
                    have g1 := hr6.cell 1
                    have g2 := hn6.cell 0
                    have g3 := hn6.cell 1
                    simp at g0 g1 g2 g3
                    have g4 := hr6.frozen 0
                    have g5 := hr6.frozen 1
                    have HR6 := Lib.hid hr6
                    have B6 := Lib.hid b6
                    clear hb6 b6 hr6 hn6
                    go_wp2_with fail
                    have hfin := (HR6.out.put 0 (.int .i64 0)).put 1 (.slice none 0 0)
                    have e0 := hfin.cell 0
                    have e1 := hfin.cell 1
                    simp at e0 e1
                    exact bodyPost_ret (v := .tuple #[.agg #[.int .i64 0, .slice none 0 0], .int .i64 0, .int .i64 5]) (by simp [results, Try.results22, go_sem, e0, e1]) rfl (rf_none HF.out (HB3.out.trans (B6.out.mono (by omega))))
          · have HF := Lib.hid (HGF.out.trans (getBody_err rfl her))
            have hne1 : ((getI ys).2.2 != 0) = true := bne_iff_ne.2 her
            have hne2 : ((getI ys).2.2 == 0) = false := beq_eq_false_iff_ne.2 her
            generalize (getI ys).2.2 = er at HG HF hne1 hne2
            clear HGF her HD4
            rcases hk with rfl | rfl
            all_goals
              go_wp2_with fail
              refine (HG.out _).mono ?_
              rintro e w4 ⟨rfl, rfl⟩
              go_wp2_with fail
              have hfin := ((show Held (w3.drewN n) w.heap.size 33 #[.int .i64 0, .slice none 0 0] from HR3.out).put 0 (.int .i64 0)).put 1 (.slice none 0 0)
              have e0 := hfin.cell 0
              have e1 := hfin.cell 1
              simp at e0 e1
              exact bodyPost_ret (v := .tuple #[.agg #[.int .i64 0, .slice none 0 0], .int .i64 0, .int .i64 er]) (by simp [results, Try.results22, go_sem, e0, e1]) rfl (rf_none HF.out (below_drewN HB3.out _))
        · rw [if_neg hk] at hgf
          have HF := Lib.hid hgf
          have hne1 : (k0 != 1) = true := bne_iff_ne.2 (by omega)
          have hne2 : (k0 != 2) = true := bne_iff_ne.2 (by omega)
          have hne3 : (k0 == 1) = false := beq_eq_false_iff_ne.2 (by omega)
          have hne4 : (k0 == 2) = false := beq_eq_false_iff_ne.2 (by omega)
          clear hgf hk
          go_wp2_with fail
          have hfin := ((show Held (w3.drewN n) w.heap.size 33 #[.int .i64 0, .slice none 0 0] from HR3.out).put 0 (.int .i64 0)).put 1 (.slice none 0 0)
          have e0 := hfin.cell 0
          have e1 := hfin.cell 1
          simp at e0 e1
          exact bodyPost_ret (v := .tuple #[.agg #[.int .i64 0, .slice none 0 0], .int .i64 0, .int .i64 4]) (by simp [results, Try.results22, go_sem, e0, e1]) rfl (rf_none HF.out (below_drewN HB3.out _))

end Go.Proofs.Ytpphgmddancocaa
