/-
  The document's own way through a text: Parse.
-/
import Derived.Test.YtncjfnmkoiclbaaTextRefBad
import Derived.Test.YtncjfnmkoiclbaaTextParse
namespace Go.Proofs.Ytncjfnmkoiclbaa
open Go.RowKit

/-- What the document's Parse answers. -/
def RParseAns (n : Nat) (r : Rd) (e : Ending) (w' : World) : Prop := ∃ A c es, e = .returned (.agg #[.slice A es.length c, .int .i64 r.e, .int .i64 r.line, .int .i64 r.col]) ∧ OwnP w' n (.slice A es.length c) es ∧ es.map (·.p) = r.l
theorem rparse_bad {n : Nat} {r : Rd} {k : Int} {a b : Nat} {e : Ending} {w' : World} (hr : r = ⟨[], k, a, b⟩) (he : e = .returned (.agg #[.slice none 0 0, .int .i64 k, .int .i64 a, .int .i64 b])) : RParseAns n r e w' := by
  subst hr
  exact ⟨none, 0, [], he, OwnP.nil _ _, rfl⟩
theorem endL_no : ∀ (s : List Int) (j : Nat), j < endL s → s.getD j 0 ≠ 10
  | [], j, h => by simp [endL] at h
  | x :: s, j, h => by
    rw [endL] at h
    split at h
    · omega
    · rename_i hx
      cases j with
      | zero => simpa [List.getD] using hx
      | succ j =>
        have := endL_no s j (by omega)
        simpa [List.getD] using this
theorem endL_is : ∀ s : List Int, endL s < s.length → s.getD (endL s) 0 = 10
  | [], h => by simp at h
  | x :: s, h => by
    rw [endL] at h ⊢
    split
    · rename_i hx
      simp [List.getD, hx]
    · rename_i hx
      rw [if_neg hx, List.length_cons] at h
      have := endL_is s (by omega)
      simpa [List.getD] using this

set_option maxRecDepth 100000 in
set_option maxHeartbeats 8000000 in
theorem rparse_any (xs : List Int) (hb : ∀ x ∈ xs, 0 ≤ x ∧ x < 256) (hl : xs.length ≤ 1000000) (w : World) :
    Calls Try.prog 22 #[.string (strOfNums xs)] w fun e w' => RParseAns w.heap.size (parseP xs) e w' ∧ Below w.heap.size w w' := by
  obtain ⟨i1, hi1, hy0, hy1, hy2⟩ := info_parts Try.infoPred
  have HRA := Lib.hid (show ReadAt xs xs [] from ⟨⟨xs.length + 1, by omega, rfl⟩, hb, Nat.le_refl _, by simp⟩)
  obtain ⟨n, hn⟩ : ∃ n, w.heap.size = n := ⟨_, rfl⟩
  have ha : Held (w.alloc (.cells #[.slice none 0 0, .int .i64 0, .int .i64 0, .int .i64 0] 48)) n 48 #[.slice none 0 0, .int .i64 0, .int .i64 0, .int .i64 0] := by rw [← hn]; exact heap_alloc_new w _
  have sa : (w.alloc (.cells #[.slice none 0 0, .int .i64 0, .int .i64 0, .int .i64 0] 48)).heap.size = n + 1 := by rw [← hn]; simp
  have hp : Held ((w.alloc (.cells #[.slice none 0 0, .int .i64 0, .int .i64 0, .int .i64 0] 48)).alloc (.cells #[.slice none 0 0, .int .i64 0, .int .i64 0, .int .i64 0] 48)) (n + 1) 48 #[.slice none 0 0, .int .i64 0, .int .i64 0, .int .i64 0] := by rw [← sa]; exact heap_alloc_new _ _
  have hr : Held ((w.alloc (.cells #[.slice none 0 0, .int .i64 0, .int .i64 0, .int .i64 0] 48)).alloc (.cells #[.slice none 0 0, .int .i64 0, .int .i64 0, .int .i64 0] 48)) n 48 #[.slice none 0 0, .int .i64 0, .int .i64 0, .int .i64 0] := ha.below ((Below.refl _ _).alloc (Nat.le_refl _) _) (by omega)
  have hbb : Below n w ((w.alloc (.cells #[.slice none 0 0, .int .i64 0, .int .i64 0, .int .i64 0] 48)).alloc (.cells #[.slice none 0 0, .int .i64 0, .int .i64 0, .int .i64 0] 48)) := ((Below.refl n w).alloc (by omega) _).alloc (by omega) _
  have HP := Lib.hid hp
  have HR := Lib.hid hr
  have HB := Lib.hid hbb
  have HN := Lib.hid hn
  rw [hn]
  clear ha sa hp hr hbb hn hb
  go_enter Try.func22, Try.ntmps22
  go_wp2_with fail
  rw [HN.out]
  go_loopg [0, 4] xs.length (fun gk s num wr => ∃ (r : List Int) (es : List Pd) (A : Option Addr) (c : Nat), s = .string (strOfNums r) ∧ num = .int .i64 ((es.length + 1 : Nat) : Int) ∧ Hid (r.length = gk) ∧ Hid (ReadAt xs r (es.map (·.p))) ∧ Hid (OwnP wr (n + 2) (.slice A es.length c) es) ∧ Hid (Held wr (n + 1) 48 #[.slice A es.length c, .int .i64 0, .int .i64 0, .int .i64 0]) ∧ Hid (Held wr n 48 #[.slice none 0 0, .int .i64 0, .int .i64 0, .int .i64 0]) ∧ Hid (Below n w wr))
  case atStart => exact ⟨xs, [], none, 0, rfl, by simp, Lib.hid rfl, HRA, Lib.hid (OwnP.nil _ _), HP, HR, HB⟩
  case round =>
    obtain ⟨r, es, A, c, rfl, rfl, HGK, HRR, HOW, HHG, HHN, HBR⟩ := hrel
    have hszr := strOfNums_size r
    by_cases hr0 : r = []
    · subst hr0
      rw [show strOfNums [] = ⟨#[]⟩ from rfl]
      have g0 := HHG.out.cell 0
      have g1 := HHG.out.cell 1
      have g2 := HHG.out.cell 2
      have g3 := HHG.out.cell 3
      have gz0 := HHG.out.frozen 0
      have gz1 := HHG.out.frozen 1
      have gz2 := HHG.out.frozen 2
      have gz3 := HHG.out.frozen 3
      have gl := HHG.out.lt
      simp at g0 g1 g2 g3
      have c0 := HHN.out.cell 0
      have c1 := HHN.out.cell 1
      have c2 := HHN.out.cell 2
      have c3 := HHN.out.cell 3
      have cz0 := HHN.out.frozen 0
      have cz1 := HHN.out.frozen 1
      have cz2 := HHN.out.frozen 2
      have cz3 := HHN.out.frozen 3
      have cl := HHN.out.lt
      simp at c0 c1 c2 c3
      go_wp2_with fail
      have hfin := ((((HHN.out.put 0 (.slice A es.length c)).put 1 (.int .i64 0)).put 2 (.int .i64 0)).put 3 (.int .i64 0))
      have e0 := hfin.cell 0
      have e1 := hfin.cell 1
      have e2 := hfin.cell 2
      have e3 := hfin.cell 3
      simp at e0 e1 e2 e3
      exact bodyPost_ret (v := .agg #[.slice A es.length c, .int .i64 0, .int .i64 0, .int .i64 0]) (by simp [results, Try.results22, go_sem, e0, e1, e2, e3]) rfl ⟨⟨A, c, es, by rw [HRR.out.done]; rfl, (((((HOW.out.put (by omega)).put (by omega)).put (by omega)).put (by omega))).base (by omega), by rw [HRR.out.done]⟩, ((((HBR.out.setCell (p := ⟨n, 0, none⟩) (Nat.le_refl _) _).setCell (p := ⟨n, 1, none⟩) (Nat.le_refl _) _).setCell (p := ⟨n, 2, none⟩) (Nat.le_refl _) _).setCell (p := ⟨n, 3, none⟩) (Nat.le_refl _) _)⟩
    · obtain ⟨wx, hwx⟩ : ∃ wx, wx = wr := ⟨_, rfl⟩
      subst hwx
      have hpos : (0 : Int) < (r.length : Int) := by
        cases r with
        | nil => exact absurd rfl hr0
        | cons x r => rw [List.length_cons]; omega
      obtain ⟨p1, p2, p3⟩ := HRR.out.round hr0
      rw [List.length_map] at p1 p2
      obtain ⟨k1, k2, k3, k4⟩ := cutB_line r
      have hrb := HRR.out.bytes
      have hrl := HRR.out.len
      have hfew := HRR.out.few
      rw [List.length_map] at hfew
      rw [k1] at p1
      rw [k3, k1] at p2
      rw [k1, k2] at p3
      have hml := endL_le r
      have hno := endL_no r
      have hat10 := endL_is r
      have hcut : (strOfNums r).extract 0 (endL r) = strOfNums (r.take (endL r)) := by rw [str_cut]; rfl
      have hlb : ∀ x ∈ r.take (endL r), 0 ≤ x ∧ x < 256 := fun x hx => hrb x (List.mem_of_mem_take hx)
      have hll : (r.take (endL r)).length ≤ 1000000 := by rw [List.length_take]; omega
      have HPC := Lib.hid (rpred_any (r.take (endL r)) hlb hll wx)
      have p2' : nextE (es.map (·.p)) (r.take (endL r)) = 0 → endL r = r.length → parseP xs = ⟨[], 4, es.length + 1, endL r + 1⟩ := fun h1 h2 => p2 h1 (by rw [← Bool.not_eq_true, k4]; omega)
      have p3' : nextE (es.map (·.p)) (r.take (endL r)) = 0 → ¬ endL r = r.length → ReadAt xs (r.drop (endL r + 1)) (es.map (·.p) ++ [predR (r.take (endL r))]) ∧ (r.drop (endL r + 1)).length < r.length := fun h1 h2 => p3 h1 (k4.2 h2)
      have P1 := Lib.hid p1
      have P2 := Lib.hid p2'
      have P3 := Lib.hid p3'
      have HNO := Lib.hid hno
      have HAT := Lib.hid hat10
      have HLB := Lib.hid hlb
      have HRB := Lib.hid hrb
      clear p1 p2 p3 p2' p3' k1 k2 k3 k4 hno hat10 hlb hr0 hrb
      obtain ⟨m, hm⟩ : ∃ m, endL r = m := ⟨_, rfl⟩
      rw [hm] at hml hcut hll HPC P1 P2 P3 HNO HAT HLB
      clear hm
      obtain ⟨line, hline⟩ : ∃ line, r.take m = line := ⟨_, rfl⟩
      rw [hline] at hcut hll HPC P1 P2 P3 HLB
      clear hline
      go_wp2_with fail
      go_loopg [5] m (fun gk2 e wr2 => ∃ j : Nat, j ≤ m ∧ e = .int .i64 j ∧ Hid (m - j = gk2) ∧ wx = wr2)
      case atStart => exact ⟨0, Nat.zero_le _, rfl, Lib.hid rfl, rfl⟩
      case round =>
        obtain ⟨j, hj, rfl, HG2, rfl⟩ := hrel
        by_cases hjm : j < m
        · have hat := str_at r HRB.out j (by omega) (by omega)
          have hz10 := HNO.out j hjm
          obtain ⟨z, hz⟩ : ∃ z, r.getD j 0 = z := ⟨_, rfl⟩
          rw [hz] at hat hz10
          have hne : (z != 10) = true := bne_iff_ne.2 hz10
          clear hz hz10
          go_wp2_with fail
          go_roundg (m - (j + 1))
          case measure => have := HG2.out; omega
          case rel => exact ⟨j + 1, by omega, by go_num, Lib.hid rfl, rfl⟩
        · obtain rfl : j = m := by omega
          clear hjm hj
          by_cases hjl : j < r.length
          · have hat := str_at r HRB.out j hjl (by omega)
            rw [HAT.out hjl] at hat
            go_wp2_with fail
            refine HPC.out.mono ?_
            rintro e w2 ⟨⟨A1, c1', rfl, hown1⟩, hb2⟩
            have HX := Lib.hid (own_base (m := n + 2) hown1 HHG.out.lt)
            have hlc : (predR line).args.length ≤ c1' ∧ c1' ≤ 9223372036854775807 := by
              obtain ⟨_, _, hv, q1, q2, _⟩ := VRow.of_own hown1
              injection hv with _ _ e3
              rw [List.length_map] at q1
              unfold maxLen at q2
              dsimp only at e3 q1
              omega
            have HH2 := Lib.hid (HHN.out.below hb2 HHN.out.lt)
            have HG2 := Lib.hid (HHG.out.below hb2 HHG.out.lt)
            have HB2 := Lib.hid (HBR.out.trans (hb2.mono (by have := HHN.out.lt; omega)))
            have HO2 := Lib.hid (HOW.out.below hb2)
            have hn2 : n + 2 ≤ w2.heap.size := HG2.out.lt
            clear hown1 hb2 HPC
            obtain ⟨d, hd⟩ : ∃ d : Pd, (⟨predR line, A1, c1'⟩ : Pd) = d := ⟨_, rfl⟩
            have hd1 : (predR line).name = d.p.name := by rw [← hd]
            have hd2 : (predR line).args.length = d.p.args.length := by rw [← hd]
            have hd3 : A1 = d.A := by rw [← hd]
            have hd4 : c1' = d.c := by rw [← hd]
            have HDP := Lib.hid (show predR line = d.p by rw [← hd])
            have hxa : OwnA w2 (n + 2) d := by rw [← hd]; exact HX.out
            rw [hd1, hd2, hd3, hd4]
            rw [hd2, hd4] at hlc
            have HXA := Lib.hid hxa
            clear hd hd1 hd2 hd3 hd4 hxa HX
            obtain ⟨w3, hw3⟩ : ∃ w3, w2.alloc (.cells #[.string (strOfNums d.p.name), .slice d.A d.p.args.length d.c] 39) = w3 := ⟨_, rfl⟩
            have h3 : Held w3 w2.heap.size 39 #[.string (strOfNums d.p.name), .slice d.A d.p.args.length d.c] := by rw [← hw3]; exact heap_alloc_new w2 _
            have b3 : Below w2.heap.size w2 w3 := by rw [← hw3]; exact (Below.refl _ _).alloc (Nat.le_refl _) _
            have HH3 := Lib.hid (HH2.out.below b3 HH2.out.lt)
            have HG3 := Lib.hid (HG2.out.below b3 HG2.out.lt)
            have HB3 := Lib.hid (HB2.out.trans (b3.mono (by omega)))
            have HO3 := Lib.hid (HO2.out.below b3)
            have HA3 := Lib.hid (HXA.out.below b3)
            have HD3 := Lib.hid h3
            clear b3 h3 HH2 HG2 HB2 HO2 HXA
            have d0 := HD3.out.cell 0
            have d1 := HD3.out.cell 1
            have dz0 := HD3.out.frozen 0
            have dz1 := HD3.out.frozen 1
            have dl := HD3.out.lt
            simp at d0 d1
            have g0 := HG3.out.cell 0
            have gz0 := HG3.out.frozen 0
            have gl := HG3.out.lt
            simp at g0
            cases hok : okLine line with
            | false =>
              have P4 := Lib.hid (P1.out (by unfold nextE; rw [if_pos hok]; decide))
              have HE := Lib.hid (show nextE (es.map (·.p)) line = 4 by unfold nextE; rw [if_pos hok])
              clear hok P1 P2 P3
              go_wp2_with fail
              refine (rbad_any _ _ _ _).mono ?_
              rintro e w4 ⟨rfl, hb4⟩
              have HH4 := Lib.hid (HH3.out.below hb4 HH3.out.lt)
              have HB4 := Lib.hid (HB3.out.trans (hb4.mono (Nat.le_of_lt HH3.out.lt)))
              have r0 := HH4.out.cell 0
              have r1 := HH4.out.cell 1
              have r2 := HH4.out.cell 2
              have r3 := HH4.out.cell 3
              have rz0 := HH4.out.frozen 0
              have rz1 := HH4.out.frozen 1
              have rz2 := HH4.out.frozen 2
              have rz3 := HH4.out.frozen 3
              have rl := HH4.out.lt
              simp at r0 r1 r2 r3
              go_wp2_with fail
              have hfin := ((((HH4.out.put 0 (.slice none 0 0)).put 1 (.int .i64 4)).put 2 (.int .i64 ((es.length + 1 : Nat) : Int))).put 3 (.int .i64 ((1 : Nat) : Int)))
              have e0 := hfin.cell 0
              have e1 := hfin.cell 1
              have e2 := hfin.cell 2
              have e3 := hfin.cell 3
              simp at e0 e1 e2 e3
              exact bodyPost_ret (v := .agg #[.slice none 0 0, .int .i64 4, .int .i64 ((es.length + 1 : Nat) : Int), .int .i64 ((1 : Nat) : Int)]) (by simp [results, Try.results22, go_sem, e0, e1, e2, e3]) rfl ⟨rparse_bad (by rw [P4.out, HE.out]) rfl, ((((HB4.out.setCell (p := ⟨n, 0, none⟩) (Nat.le_refl _) _).setCell (p := ⟨n, 1, none⟩) (Nat.le_refl _) _).setCell (p := ⟨n, 2, none⟩) (Nat.le_refl _) _).setCell (p := ⟨n, 3, none⟩) (Nat.le_refl _) _)⟩
            | true =>
              have HNE := Lib.hid (show nextE (es.map (·.p)) line = if 0 ≤ findP (es.map (·.p)) d.p.name then 9 else if 8 < d.p.args.length ∨ 64 ≤ es.length then 6 else 0 by
                unfold nextE
                rw [if_neg (by rw [hok]; decide), List.length_map, HDP.out])
              have HFT := Lib.hid (fun h => next_fits (L := es.map (·.p)) (s := line) h HLB.out hll d.A d.c)
              have hdb : ∀ x ∈ d.p.name, 0 ≤ x ∧ x < 256 := fun x hx => HLB.out x ((line_small (okLine_is hok)).2 x (by rw [HDP.out]; exact hx))
              have HFC := Lib.hid (rfind_any A c es d.p.name hdb w3 HO3.out.fresh.1)
              clear hok hdb
              generalize hFP : findP (es.map (·.p)) d.p.name = FP at HFC HNE
              clear hFP
              go_wp2_with fail
              refine HFC.out.mono ?_
              rintro e w5 ⟨rfl, rfl⟩
              by_cases hf : 0 ≤ FP
              · have HE := Lib.hid (show nextE (es.map (·.p)) line = 9 by rw [HNE.out, if_pos hf])
                have P4 := Lib.hid (P1.out (by rw [HE.out]; decide))
                clear P1 P2 P3
                go_wp2_with fail
                refine (rbad_any _ _ _ _).mono ?_
                rintro e w4 ⟨rfl, hb4⟩
                have HH4 := Lib.hid (HH3.out.below hb4 HH3.out.lt)
                have HB4 := Lib.hid (HB3.out.trans (hb4.mono (Nat.le_of_lt HH3.out.lt)))
                have r0 := HH4.out.cell 0
                have r1 := HH4.out.cell 1
                have r2 := HH4.out.cell 2
                have r3 := HH4.out.cell 3
                have rz0 := HH4.out.frozen 0
                have rz1 := HH4.out.frozen 1
                have rz2 := HH4.out.frozen 2
                have rz3 := HH4.out.frozen 3
                have rl := HH4.out.lt
                simp at r0 r1 r2 r3
                go_wp2_with fail
                have hfin := ((((HH4.out.put 0 (.slice none 0 0)).put 1 (.int .i64 9)).put 2 (.int .i64 ((es.length + 1 : Nat) : Int))).put 3 (.int .i64 ((1 : Nat) : Int)))
                have e0 := hfin.cell 0
                have e1 := hfin.cell 1
                have e2 := hfin.cell 2
                have e3 := hfin.cell 3
                simp at e0 e1 e2 e3
                exact bodyPost_ret (v := .agg #[.slice none 0 0, .int .i64 9, .int .i64 ((es.length + 1 : Nat) : Int), .int .i64 ((1 : Nat) : Int)]) (by simp [results, Try.results22, go_sem, e0, e1, e2, e3]) rfl ⟨rparse_bad (by rw [P4.out, HE.out]) rfl, ((((HB4.out.setCell (p := ⟨n, 0, none⟩) (Nat.le_refl _) _).setCell (p := ⟨n, 1, none⟩) (Nat.le_refl _) _).setCell (p := ⟨n, 2, none⟩) (Nat.le_refl _) _).setCell (p := ⟨n, 3, none⟩) (Nat.le_refl _) _)⟩
              · have hn5 := HNE.out
                rw [if_neg hf] at hn5
                by_cases h8 : 8 < d.p.args.length ∨ 64 ≤ es.length
                · have HE := Lib.hid (show nextE (es.map (·.p)) line = 6 by rw [hn5, if_pos h8])
                  have P4 := Lib.hid (P1.out (by rw [HE.out]; decide))
                  clear P1 P2 P3 hn5
                  by_cases h8a : 8 < d.p.args.length
                  · have h8' : (8 : Int) < (d.p.args.length : Int) := by omega
                    clear h8 h8a
                    go_wp2_with fail
                    refine (rbad_any _ _ _ _).mono ?_
                    rintro e w4 ⟨rfl, hb4⟩
                    have HH4 := Lib.hid (HH3.out.below hb4 HH3.out.lt)
                    have HB4 := Lib.hid (HB3.out.trans (hb4.mono (Nat.le_of_lt HH3.out.lt)))
                    have r0 := HH4.out.cell 0
                    have r1 := HH4.out.cell 1
                    have r2 := HH4.out.cell 2
                    have r3 := HH4.out.cell 3
                    have rz0 := HH4.out.frozen 0
                    have rz1 := HH4.out.frozen 1
                    have rz2 := HH4.out.frozen 2
                    have rz3 := HH4.out.frozen 3
                    have rl := HH4.out.lt
                    simp at r0 r1 r2 r3
                    go_wp2_with fail
                    have hfin := ((((HH4.out.put 0 (.slice none 0 0)).put 1 (.int .i64 6)).put 2 (.int .i64 ((es.length + 1 : Nat) : Int))).put 3 (.int .i64 ((1 : Nat) : Int)))
                    have e0 := hfin.cell 0
                    have e1 := hfin.cell 1
                    have e2 := hfin.cell 2
                    have e3 := hfin.cell 3
                    simp at e0 e1 e2 e3
                    exact bodyPost_ret (v := .agg #[.slice none 0 0, .int .i64 6, .int .i64 ((es.length + 1 : Nat) : Int), .int .i64 ((1 : Nat) : Int)]) (by simp [results, Try.results22, go_sem, e0, e1, e2, e3]) rfl ⟨rparse_bad (by rw [P4.out, HE.out]) rfl, ((((HB4.out.setCell (p := ⟨n, 0, none⟩) (Nat.le_refl _) _).setCell (p := ⟨n, 1, none⟩) (Nat.le_refl _) _).setCell (p := ⟨n, 2, none⟩) (Nat.le_refl _) _).setCell (p := ⟨n, 3, none⟩) (Nat.le_refl _) _)⟩
                  · have h8' : ¬ (8 : Int) < (d.p.args.length : Int) := by omega
                    have h64' : (64 : Int) < (es.length : Int) + 1 := by omega
                    clear h8 h8a
                    go_wp2_with fail
                    refine (rbad_any _ _ _ _).mono ?_
                    rintro e w4 ⟨rfl, hb4⟩
                    have HH4 := Lib.hid (HH3.out.below hb4 HH3.out.lt)
                    have HB4 := Lib.hid (HB3.out.trans (hb4.mono (Nat.le_of_lt HH3.out.lt)))
                    have r0 := HH4.out.cell 0
                    have r1 := HH4.out.cell 1
                    have r2 := HH4.out.cell 2
                    have r3 := HH4.out.cell 3
                    have rz0 := HH4.out.frozen 0
                    have rz1 := HH4.out.frozen 1
                    have rz2 := HH4.out.frozen 2
                    have rz3 := HH4.out.frozen 3
                    have rl := HH4.out.lt
                    simp at r0 r1 r2 r3
                    go_wp2_with fail
                    have hfin := ((((HH4.out.put 0 (.slice none 0 0)).put 1 (.int .i64 6)).put 2 (.int .i64 ((es.length + 1 : Nat) : Int))).put 3 (.int .i64 ((1 : Nat) : Int)))
                    have e0 := hfin.cell 0
                    have e1 := hfin.cell 1
                    have e2 := hfin.cell 2
                    have e3 := hfin.cell 3
                    simp at e0 e1 e2 e3
                    exact bodyPost_ret (v := .agg #[.slice none 0 0, .int .i64 6, .int .i64 ((es.length + 1 : Nat) : Int), .int .i64 ((1 : Nat) : Int)]) (by simp [results, Try.results22, go_sem, e0, e1, e2, e3]) rfl ⟨rparse_bad (by rw [P4.out, HE.out]) rfl, ((((HB4.out.setCell (p := ⟨n, 0, none⟩) (Nat.le_refl _) _).setCell (p := ⟨n, 1, none⟩) (Nat.le_refl _) _).setCell (p := ⟨n, 2, none⟩) (Nat.le_refl _) _).setCell (p := ⟨n, 3, none⟩) (Nat.le_refl _) _)⟩
                · have HE := Lib.hid (show nextE (es.map (·.p)) line = 0 by rw [hn5, if_neg h8])
                  have h8' : ¬ (8 : Int) < (d.p.args.length : Int) := by omega
                  have h64' : ¬ (64 : Int) < (es.length : Int) + 1 := by omega
                  have P2' := Lib.hid (P2.out HE.out)
                  have P3' := Lib.hid (P3.out HE.out)
                  clear P1 P2 P3 hn5
                  obtain ⟨q3, q4⟩ := P3'.out (by omega)
                  have HQ3 := Lib.hid q3
                  have HQ4 := Lib.hid q4
                  have hend' : ¬ (j : Int) = (r.length : Int) := by omega
                  have hm1 : (j : Int) + 1 ≤ (r.length : Int) := by omega
                  have hcut2 : (strOfNums r).extract (j + 1) r.length = strOfNums (r.drop (j + 1)) := by rw [str_cut, List.take_length]
                  have hfits := (HFT.out HE.out).1
                  have hfits2 : d.Fits := by
                    unfold Pd.Fits at hfits ⊢
                    rw [HDP.out] at hfits
                    exact hfits
                  have HFF := Lib.hid hfits2
                  have HES := Lib.hid (show es.map (·.p) ++ [d.p] = (es ++ [d]).map (·.p) by simp)
                  rw [HDP.out, HES.out] at HQ3
                  clear P2' P3' q3 q4 h8 HFT hfits hfits2
                  have hlow : ∀ j, (Value.slice A es.length c).ownBlock = some j → n + 2 ≤ j := fun j e => (World.ownsRow.lt HO3.out.1 j e).1
                  have HLOW := Lib.hid hlow
                  have hn3 : n + 2 ≤ w3.heap.size := HG3.out.lt
                  clear hlow
                  go_wp2_with (at_builtin; refine wpList_append_pred (by rfl) (.tmp 64) (.tmp 66) 22 (by rfl) i1 _ Try.underlying22 hi1 hy0 hy1 hy2 rfl (n + 2) (.slice A es.length c) es (by rfl) (HO3.out.below ((Below.refl _ _).alloc (Nat.le_refl _) _)) ⟨w3.heap.size, 0, none⟩ 1 d (by rfl) (by go_simp) (by go_simp) (HA3.out.below ((Below.refl _ _).alloc (Nat.le_refl _) _)) HFF.out (by omega) (by simp; omega) ?_; intro v6 w6 hO6 hg6; have b6 := (HB3.out.alloc (by omega) (.cells #[.string (strOfNums d.p.name), .slice d.A d.p.args.length d.c] 39)).grown hg6 (by simp; omega) (fun j e => by have := HLOW.out j e; omega); have hal : Below w3.heap.size w3 (w3.alloc (.cells #[.string (strOfNums d.p.name), .slice d.A d.p.args.length d.c] 39)) := (Below.refl _ _).alloc (Nat.le_refl _) _; have hh6 := (HH3.out.below hal HH3.out.lt).grown hg6 (fun e => by have := HLOW.out _ e.symm; omega); have hg7 := (HG3.out.below hal HG3.out.lt).grown hg6 (fun e => by have := HLOW.out _ e.symm; omega); obtain ⟨A6, c6, ev, _, _⟩ := hO6.form; subst ev; have HO6 := Lib.hid hO6; have HB6 := Lib.hid b6; have HH6 := Lib.hid hh6; have HG6 := Lib.hid hg7; have y0 := hg7.cell 0; have yz0 := hg7.frozen 0; have yl := hg7.lt; simp at y0; have HEL := Lib.hid (show (es ++ [d]).length = es.length + 1 by simp); clear hO6 b6 hal hh6 hg7 hg6 g0 gz0 gl d0 d1 dz0 dz1 dl; generalize es ++ [d] = es5 at HO6 HEL HQ3 HG6 y0 ⊢)
                  go_roundg (r.drop (j + 1)).length
                  case measure => have := HGK.out; have := HQ4.out; omega
                  case rel => exact ⟨r.drop (j + 1), es5, A6, c6, rfl, by rw [HEL.out]; go_num, Lib.hid rfl, HQ3, Lib.hid (HO6.out.put (by omega)), Lib.hid (by simpa using HG6.out.put 0 (.slice A6 es5.length c6)), Lib.hid (HH6.out.below (below_put (B := n + 1) _ (Nat.le_refl _)) (Nat.lt_succ_self _)), Lib.hid (HB6.out.setCell (p := ⟨n + 1, 0, none⟩) (Nat.le_succ _) _)⟩

          · obtain rfl : j = r.length := by omega
            go_wp2_with fail
            refine HPC.out.mono ?_
            rintro e w2 ⟨⟨A1, c1', rfl, hown1⟩, hb2⟩
            have HX := Lib.hid (own_base (m := n + 2) hown1 HHG.out.lt)
            have hlc : (predR line).args.length ≤ c1' ∧ c1' ≤ 9223372036854775807 := by
              obtain ⟨_, _, hv, q1, q2, _⟩ := VRow.of_own hown1
              injection hv with _ _ e3
              rw [List.length_map] at q1
              unfold maxLen at q2
              dsimp only at e3 q1
              omega
            have HH2 := Lib.hid (HHN.out.below hb2 HHN.out.lt)
            have HG2 := Lib.hid (HHG.out.below hb2 HHG.out.lt)
            have HB2 := Lib.hid (HBR.out.trans (hb2.mono (by have := HHN.out.lt; omega)))
            have HO2 := Lib.hid (HOW.out.below hb2)
            have hn2 : n + 2 ≤ w2.heap.size := HG2.out.lt
            clear hown1 hb2 HPC
            obtain ⟨d, hd⟩ : ∃ d : Pd, (⟨predR line, A1, c1'⟩ : Pd) = d := ⟨_, rfl⟩
            have hd1 : (predR line).name = d.p.name := by rw [← hd]
            have hd2 : (predR line).args.length = d.p.args.length := by rw [← hd]
            have hd3 : A1 = d.A := by rw [← hd]
            have hd4 : c1' = d.c := by rw [← hd]
            have HDP := Lib.hid (show predR line = d.p by rw [← hd])
            have hxa : OwnA w2 (n + 2) d := by rw [← hd]; exact HX.out
            rw [hd1, hd2, hd3, hd4]
            rw [hd2, hd4] at hlc
            have HXA := Lib.hid hxa
            clear hd hd1 hd2 hd3 hd4 hxa HX
            obtain ⟨w3, hw3⟩ : ∃ w3, w2.alloc (.cells #[.string (strOfNums d.p.name), .slice d.A d.p.args.length d.c] 39) = w3 := ⟨_, rfl⟩
            have h3 : Held w3 w2.heap.size 39 #[.string (strOfNums d.p.name), .slice d.A d.p.args.length d.c] := by rw [← hw3]; exact heap_alloc_new w2 _
            have b3 : Below w2.heap.size w2 w3 := by rw [← hw3]; exact (Below.refl _ _).alloc (Nat.le_refl _) _
            have HH3 := Lib.hid (HH2.out.below b3 HH2.out.lt)
            have HG3 := Lib.hid (HG2.out.below b3 HG2.out.lt)
            have HB3 := Lib.hid (HB2.out.trans (b3.mono (by omega)))
            have HO3 := Lib.hid (HO2.out.below b3)
            have HA3 := Lib.hid (HXA.out.below b3)
            have HD3 := Lib.hid h3
            clear b3 h3 HH2 HG2 HB2 HO2 HXA
            have d0 := HD3.out.cell 0
            have d1 := HD3.out.cell 1
            have dz0 := HD3.out.frozen 0
            have dz1 := HD3.out.frozen 1
            have dl := HD3.out.lt
            simp at d0 d1
            have g0 := HG3.out.cell 0
            have gz0 := HG3.out.frozen 0
            have gl := HG3.out.lt
            simp at g0
            cases hok : okLine line with
            | false =>
              have P4 := Lib.hid (P1.out (by unfold nextE; rw [if_pos hok]; decide))
              have HE := Lib.hid (show nextE (es.map (·.p)) line = 4 by unfold nextE; rw [if_pos hok])
              clear hok P1 P2 P3
              go_wp2_with fail
              refine (rbad_any _ _ _ _).mono ?_
              rintro e w4 ⟨rfl, hb4⟩
              have HH4 := Lib.hid (HH3.out.below hb4 HH3.out.lt)
              have HB4 := Lib.hid (HB3.out.trans (hb4.mono (Nat.le_of_lt HH3.out.lt)))
              have r0 := HH4.out.cell 0
              have r1 := HH4.out.cell 1
              have r2 := HH4.out.cell 2
              have r3 := HH4.out.cell 3
              have rz0 := HH4.out.frozen 0
              have rz1 := HH4.out.frozen 1
              have rz2 := HH4.out.frozen 2
              have rz3 := HH4.out.frozen 3
              have rl := HH4.out.lt
              simp at r0 r1 r2 r3
              go_wp2_with fail
              have hfin := ((((HH4.out.put 0 (.slice none 0 0)).put 1 (.int .i64 4)).put 2 (.int .i64 ((es.length + 1 : Nat) : Int))).put 3 (.int .i64 ((1 : Nat) : Int)))
              have e0 := hfin.cell 0
              have e1 := hfin.cell 1
              have e2 := hfin.cell 2
              have e3 := hfin.cell 3
              simp at e0 e1 e2 e3
              exact bodyPost_ret (v := .agg #[.slice none 0 0, .int .i64 4, .int .i64 ((es.length + 1 : Nat) : Int), .int .i64 ((1 : Nat) : Int)]) (by simp [results, Try.results22, go_sem, e0, e1, e2, e3]) rfl ⟨rparse_bad (by rw [P4.out, HE.out]) rfl, ((((HB4.out.setCell (p := ⟨n, 0, none⟩) (Nat.le_refl _) _).setCell (p := ⟨n, 1, none⟩) (Nat.le_refl _) _).setCell (p := ⟨n, 2, none⟩) (Nat.le_refl _) _).setCell (p := ⟨n, 3, none⟩) (Nat.le_refl _) _)⟩
            | true =>
              have HNE := Lib.hid (show nextE (es.map (·.p)) line = if 0 ≤ findP (es.map (·.p)) d.p.name then 9 else if 8 < d.p.args.length ∨ 64 ≤ es.length then 6 else 0 by
                unfold nextE
                rw [if_neg (by rw [hok]; decide), List.length_map, HDP.out])
              have HFT := Lib.hid (fun h => next_fits (L := es.map (·.p)) (s := line) h HLB.out hll d.A d.c)
              have hdb : ∀ x ∈ d.p.name, 0 ≤ x ∧ x < 256 := fun x hx => HLB.out x ((line_small (okLine_is hok)).2 x (by rw [HDP.out]; exact hx))
              have HFC := Lib.hid (rfind_any A c es d.p.name hdb w3 HO3.out.fresh.1)
              clear hok hdb
              generalize hFP : findP (es.map (·.p)) d.p.name = FP at HFC HNE
              clear hFP
              go_wp2_with fail
              refine HFC.out.mono ?_
              rintro e w5 ⟨rfl, rfl⟩
              by_cases hf : 0 ≤ FP
              · have HE := Lib.hid (show nextE (es.map (·.p)) line = 9 by rw [HNE.out, if_pos hf])
                have P4 := Lib.hid (P1.out (by rw [HE.out]; decide))
                clear P1 P2 P3
                go_wp2_with fail
                refine (rbad_any _ _ _ _).mono ?_
                rintro e w4 ⟨rfl, hb4⟩
                have HH4 := Lib.hid (HH3.out.below hb4 HH3.out.lt)
                have HB4 := Lib.hid (HB3.out.trans (hb4.mono (Nat.le_of_lt HH3.out.lt)))
                have r0 := HH4.out.cell 0
                have r1 := HH4.out.cell 1
                have r2 := HH4.out.cell 2
                have r3 := HH4.out.cell 3
                have rz0 := HH4.out.frozen 0
                have rz1 := HH4.out.frozen 1
                have rz2 := HH4.out.frozen 2
                have rz3 := HH4.out.frozen 3
                have rl := HH4.out.lt
                simp at r0 r1 r2 r3
                go_wp2_with fail
                have hfin := ((((HH4.out.put 0 (.slice none 0 0)).put 1 (.int .i64 9)).put 2 (.int .i64 ((es.length + 1 : Nat) : Int))).put 3 (.int .i64 ((1 : Nat) : Int)))
                have e0 := hfin.cell 0
                have e1 := hfin.cell 1
                have e2 := hfin.cell 2
                have e3 := hfin.cell 3
                simp at e0 e1 e2 e3
                exact bodyPost_ret (v := .agg #[.slice none 0 0, .int .i64 9, .int .i64 ((es.length + 1 : Nat) : Int), .int .i64 ((1 : Nat) : Int)]) (by simp [results, Try.results22, go_sem, e0, e1, e2, e3]) rfl ⟨rparse_bad (by rw [P4.out, HE.out]) rfl, ((((HB4.out.setCell (p := ⟨n, 0, none⟩) (Nat.le_refl _) _).setCell (p := ⟨n, 1, none⟩) (Nat.le_refl _) _).setCell (p := ⟨n, 2, none⟩) (Nat.le_refl _) _).setCell (p := ⟨n, 3, none⟩) (Nat.le_refl _) _)⟩
              · have hn5 := HNE.out
                rw [if_neg hf] at hn5
                by_cases h8 : 8 < d.p.args.length ∨ 64 ≤ es.length
                · have HE := Lib.hid (show nextE (es.map (·.p)) line = 6 by rw [hn5, if_pos h8])
                  have P4 := Lib.hid (P1.out (by rw [HE.out]; decide))
                  clear P1 P2 P3 hn5
                  by_cases h8a : 8 < d.p.args.length
                  · have h8' : (8 : Int) < (d.p.args.length : Int) := by omega
                    clear h8 h8a
                    go_wp2_with fail
                    refine (rbad_any _ _ _ _).mono ?_
                    rintro e w4 ⟨rfl, hb4⟩
                    have HH4 := Lib.hid (HH3.out.below hb4 HH3.out.lt)
                    have HB4 := Lib.hid (HB3.out.trans (hb4.mono (Nat.le_of_lt HH3.out.lt)))
                    have r0 := HH4.out.cell 0
                    have r1 := HH4.out.cell 1
                    have r2 := HH4.out.cell 2
                    have r3 := HH4.out.cell 3
                    have rz0 := HH4.out.frozen 0
                    have rz1 := HH4.out.frozen 1
                    have rz2 := HH4.out.frozen 2
                    have rz3 := HH4.out.frozen 3
                    have rl := HH4.out.lt
                    simp at r0 r1 r2 r3
                    go_wp2_with fail
                    have hfin := ((((HH4.out.put 0 (.slice none 0 0)).put 1 (.int .i64 6)).put 2 (.int .i64 ((es.length + 1 : Nat) : Int))).put 3 (.int .i64 ((1 : Nat) : Int)))
                    have e0 := hfin.cell 0
                    have e1 := hfin.cell 1
                    have e2 := hfin.cell 2
                    have e3 := hfin.cell 3
                    simp at e0 e1 e2 e3
                    exact bodyPost_ret (v := .agg #[.slice none 0 0, .int .i64 6, .int .i64 ((es.length + 1 : Nat) : Int), .int .i64 ((1 : Nat) : Int)]) (by simp [results, Try.results22, go_sem, e0, e1, e2, e3]) rfl ⟨rparse_bad (by rw [P4.out, HE.out]) rfl, ((((HB4.out.setCell (p := ⟨n, 0, none⟩) (Nat.le_refl _) _).setCell (p := ⟨n, 1, none⟩) (Nat.le_refl _) _).setCell (p := ⟨n, 2, none⟩) (Nat.le_refl _) _).setCell (p := ⟨n, 3, none⟩) (Nat.le_refl _) _)⟩
                  · have h8' : ¬ (8 : Int) < (d.p.args.length : Int) := by omega
                    have h64' : (64 : Int) < (es.length : Int) + 1 := by omega
                    clear h8 h8a
                    go_wp2_with fail
                    refine (rbad_any _ _ _ _).mono ?_
                    rintro e w4 ⟨rfl, hb4⟩
                    have HH4 := Lib.hid (HH3.out.below hb4 HH3.out.lt)
                    have HB4 := Lib.hid (HB3.out.trans (hb4.mono (Nat.le_of_lt HH3.out.lt)))
                    have r0 := HH4.out.cell 0
                    have r1 := HH4.out.cell 1
                    have r2 := HH4.out.cell 2
                    have r3 := HH4.out.cell 3
                    have rz0 := HH4.out.frozen 0
                    have rz1 := HH4.out.frozen 1
                    have rz2 := HH4.out.frozen 2
                    have rz3 := HH4.out.frozen 3
                    have rl := HH4.out.lt
                    simp at r0 r1 r2 r3
                    go_wp2_with fail
                    have hfin := ((((HH4.out.put 0 (.slice none 0 0)).put 1 (.int .i64 6)).put 2 (.int .i64 ((es.length + 1 : Nat) : Int))).put 3 (.int .i64 ((1 : Nat) : Int)))
                    have e0 := hfin.cell 0
                    have e1 := hfin.cell 1
                    have e2 := hfin.cell 2
                    have e3 := hfin.cell 3
                    simp at e0 e1 e2 e3
                    exact bodyPost_ret (v := .agg #[.slice none 0 0, .int .i64 6, .int .i64 ((es.length + 1 : Nat) : Int), .int .i64 ((1 : Nat) : Int)]) (by simp [results, Try.results22, go_sem, e0, e1, e2, e3]) rfl ⟨rparse_bad (by rw [P4.out, HE.out]) rfl, ((((HB4.out.setCell (p := ⟨n, 0, none⟩) (Nat.le_refl _) _).setCell (p := ⟨n, 1, none⟩) (Nat.le_refl _) _).setCell (p := ⟨n, 2, none⟩) (Nat.le_refl _) _).setCell (p := ⟨n, 3, none⟩) (Nat.le_refl _) _)⟩
                · have HE := Lib.hid (show nextE (es.map (·.p)) line = 0 by rw [hn5, if_neg h8])
                  have h8' : ¬ (8 : Int) < (d.p.args.length : Int) := by omega
                  have h64' : ¬ (64 : Int) < (es.length : Int) + 1 := by omega
                  have P2' := Lib.hid (P2.out HE.out)
                  have P3' := Lib.hid (P3.out HE.out)
                  clear P1 P2 P3 hn5
                  have P4 := Lib.hid (P2'.out (by trivial))
                  have hend' : (r.length : Int) = (r.length : Int) := by omega
                  clear P2' P3' h8
                  go_wp2_with fail
                  refine (rbad_any _ _ _ _).mono ?_
                  rintro e w4 ⟨rfl, hb4⟩
                  have HH4 := Lib.hid (HH3.out.below hb4 HH3.out.lt)
                  have HB4 := Lib.hid (HB3.out.trans (hb4.mono (Nat.le_of_lt HH3.out.lt)))
                  have r0 := HH4.out.cell 0
                  have r1 := HH4.out.cell 1
                  have r2 := HH4.out.cell 2
                  have r3 := HH4.out.cell 3
                  have rz0 := HH4.out.frozen 0
                  have rz1 := HH4.out.frozen 1
                  have rz2 := HH4.out.frozen 2
                  have rz3 := HH4.out.frozen 3
                  have rl := HH4.out.lt
                  simp at r0 r1 r2 r3
                  go_wp2_with fail
                  have hfin := ((((HH4.out.put 0 (.slice none 0 0)).put 1 (.int .i64 4)).put 2 (.int .i64 ((es.length + 1 : Nat) : Int))).put 3 (.int .i64 ((r.length + 1 : Nat) : Int)))
                  have e0 := hfin.cell 0
                  have e1 := hfin.cell 1
                  have e2 := hfin.cell 2
                  have e3 := hfin.cell 3
                  simp at e0 e1 e2 e3
                  exact bodyPost_ret (v := .agg #[.slice none 0 0, .int .i64 4, .int .i64 ((es.length + 1 : Nat) : Int), .int .i64 ((r.length + 1 : Nat) : Int)]) (by simp [results, Try.results22, go_sem, e0, e1, e2, e3]) rfl ⟨rparse_bad (P4.out) rfl, ((((HB4.out.setCell (p := ⟨n, 0, none⟩) (Nat.le_refl _) _).setCell (p := ⟨n, 1, none⟩) (Nat.le_refl _) _).setCell (p := ⟨n, 2, none⟩) (Nat.le_refl _) _).setCell (p := ⟨n, 3, none⟩) (Nat.le_refl _) _)⟩

#print axioms rparse_any
end Go.Proofs.Ytncjfnmkoiclbaa
