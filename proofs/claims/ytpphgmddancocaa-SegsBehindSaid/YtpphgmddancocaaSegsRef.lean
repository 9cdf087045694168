/-
  The document's parts of a text, byte by byte; those of them that are frames.
-/
import Derived.Test.YtpphgmddancocaaSegsSame
import Derived.Test.YtpphgmddancocaaSegsCalls
import Derived.Test.YtpphgmddancocaaFrameRefGet
import Derived.Test.YtpphgmddancocaaText
namespace Go.Proofs.Ytpphgmddancocaa
open Go.RowKit

theorem segs_made (w : World) (n0 : Nat) (hn : n0 ≤ w.heap.size) : Segs (w.alloc (.cells #[] 57)) n0 (.slice (some ⟨w.heap.size, 0, none⟩) 0 0) [] := by
  refine ⟨World.ownsRow_made w #[] 0 hn (Nat.zero_le _) rfl, fun g hg i n => ?_, by simp⟩
  obtain rfl : w.heap.size = g := by simpa [Value.ownBlock] using hg
  rw [cell_of_row _ w.heap.size i #[] _ (0, 0) (heap_alloc_new w _)]
  simp
theorem snoc_cases {α : Type} (l : List α) : l = [] ∨ ∃ a b, l = a ++ [b] := by
  rcases List.eq_nil_or_concat l with h | ⟨a, b, h⟩
  · exact .inl h
  · exact .inr ⟨a, b, by simpa using h⟩
theorem Walked.last_n {xs : List Int} {out : List Sg} {g : Sg} {a : Nat} (h : Walked xs (out ++ [g]) a) (hl : g.isf = false) : g.n ≤ a := by
  rcases h with ⟨h, _⟩ | ⟨o, f, e, hf, hn, h⟩
  · have := h _ _ rfl
    rw [hl] at this
    cases this
  · obtain ⟨rfl, e2⟩ := List.append_inj' e rfl
    simp only [List.cons.injEq, and_true] at e2
    subst e2
    simp only [skipS]
    omega
theorem skip_one (a : Nat) : skipS a (a + 1) = ⟨a, 1, false, 0, []⟩ := by
  simp only [skipS, Sg.mk.injEq, and_true, true_and]
  omega

set_option maxRecDepth 100000 in
set_option maxHeartbeats 2000000 in
theorem rof_any (xs : List Int) (hl : xs.length ≤ 100000000000) (w : World) (hb : ∀ x ∈ xs, 0 ≤ x ∧ x < 256) :
    Calls Try.prog 31 #[.string (strOfNums xs)] w (Collected xs w) := by
  obtain ⟨i0, hi, hz0, hz1, hz2⟩ := info_parts Try.infoSeg
  have hsz := strOfNums_size xs
  have HG := Lib.hid (fun W k => rfget_any (xs.drop k) (by rw [List.length_drop]; omega) W (drop_bytes hb k))
  have HC := Lib.hid (fun k => (show (strOfNums xs).extract k xs.length = strOfNums (xs.drop k) by rw [str_cut, List.take_length]))
  have HX := Lib.hid hb
  clear hb
  obtain ⟨L, hL⟩ : ∃ L, xs.length = L := ⟨_, rfl⟩
  obtain ⟨S, hS⟩ : ∃ S, strOfNums xs = S := ⟨_, rfl⟩
  have HL := Lib.hid hL
  rw [hL] at hsz HC hl
  rw [hS] at hsz HC ⊢
  clear hL hS
  go_enter Try.func31, Try.ntmps31
  go_wp2_with fail
  have HS0 := Lib.hid (segs_made w w.heap.size (Nat.le_refl _))
  have HB0 := Lib.hid ((Below.refl w.heap.size w).alloc (Nat.le_refl _) (.cells #[] 57))
  go_loopw [3, 4] (fun v t wr => ∃ (ps : List Pt) (a : Nat), t = .int .i64 a ∧ a ≤ L ∧ ps.length ≤ a ∧ Hid (Walked xs (ps.map (·.s)) a) ∧ Hid (Segs wr w.heap.size v ps) ∧ Below w.heap.size w wr) (fun _ t _ => L - (intOf t).toNat)
  case atStart => exact ⟨[], 0, rfl, Nat.zero_le _, Nat.zero_le _, Walked.start xs, HS0.out, HB0.out⟩
  case round =>
    obtain ⟨ps, a, rfl, ha, hpl, HW, HSG, hbw⟩ := hrel
    clear HS0 HB0
    by_cases hal : a < L
    · obtain ⟨A0, c0, rfl, hlc, hcm⟩ := HSG.out.form
      obtain ⟨n, hn⟩ : ∃ n, ps.length = n := ⟨_, rfl⟩
      have HN := Lib.hid hn
      have HPL := Lib.hid hpl
      rw [hn] at hlc HSG hpl ⊢
      clear hn
      go_wp2_with fail
      rw [HC.out]
      refine (HG.out _ a).mono ?_
      obtain ⟨⟨⟨kd, pl⟩, nn, er⟩, ht⟩ : ∃ t, getFr (xs.drop a) = t := ⟨_, rfl⟩
      rw [ht]
      have HT := Lib.hid ht
      clear ht
      rintro e w1 ⟨A1, c1, rfl, hr1, hb1⟩
      simp only at hr1 ⊢
      have hb2 := hb1.alloc hb1.size (.cells #[.int .i64 kd, .slice A1 pl.length c1] 33)
      by_cases he : er = 0
      · subst he
        have hbg : Begins xs a := by unfold Begins; rw [HT.out]
        obtain ⟨h9, hin, _⟩ := begins_in HX.out hbg
        rw [HT.out, HL.out] at hin
        rw [HT.out] at h9
        simp only at hin h9
        have hcells : ∀ (j : Nat) (u : Value), (Pt.cells ⟨⟨a, nn, true, kd, pl⟩, A1, c1⟩)[j]? = some u → ((w1.alloc (.cells #[.int .i64 kd, .slice A1 pl.length c1] 33)).alloc (.cells #[.int .i64 a, .int .i64 nn, .bool true, .int .i64 kd, .slice A1 pl.length c1] 57)).cell? ((⟨w1.heap.size + 1, 0, none⟩ : Addr).add j) = some u := by
          intro j u hj
          have hz : (w1.alloc (.cells #[.int .i64 kd, .slice A1 pl.length c1] 33)).heap.size = w1.heap.size + 1 := World.size_alloc _ _
          rw [Go.WideShapes.add_plain, Nat.zero_add, cell_of_row _ (w1.heap.size + 1) j #[.int .i64 a, .int .i64 nn, .bool true, .int .i64 kd, .slice A1 pl.length c1] _ (0, 0) (by rw [← hz]; exact heap_alloc_new _ _)]
          simpa [Pt.cells] using hj
        have HCELLS := Lib.hid hcells
        have HB3 := Lib.hid (hb2.alloc hb2.size (.cells #[.int .i64 a, .int .i64 nn, .bool true, .int .i64 kd, .slice A1 pl.length c1] 57))
        have HS3 := Lib.hid (HSG.out.below HB3.out)
        have HRD := Lib.hid (show Pt.Reads ((w1.alloc (.cells #[.int .i64 kd, .slice A1 pl.length c1] 33)).alloc (.cells #[.int .i64 a, .int .i64 nn, .bool true, .int .i64 kd, .slice A1 pl.length c1] 57)) ((w1.alloc (.cells #[.int .i64 kd, .slice A1 pl.length c1] 33)).alloc (.cells #[.int .i64 a, .int .i64 nn, .bool true, .int .i64 kd, .slice A1 pl.length c1] 57)).heap.size ⟨⟨a, nn, true, kd, pl⟩, A1, c1⟩ from (hr1.below ((((Below.refl w1.heap.size w1).alloc (Nat.le_refl _) _).alloc (by simp) _))).more (by simp; omega))
        have HBA := Lib.hid (hbw.trans (HB3.out.mono hbw.size))
        have hle : w.heap.size ≤ w1.heap.size := Nat.le_trans hbw.size hb1.size
        have HWK := Lib.hid (show Walked xs (ps.map (·.s) ++ [⟨a, nn, true, kd, pl⟩]) (a + nn) from by have := HW.out.fr (by rw [HL.out]; exact hal) hbg; unfold frS at this; rw [HT.out] at this; exact this)
        clear hb1 hb2 hr1 hcells hbw HSG HW
        go_wp2_with (at_builtin; refine wpList_append_seg rfl _ _ 54 rfl i0 _ Try.underlying54 hi hz0 hz1 (by omega) rfl w.heap.size _ ps rfl HS3.out _ _ ⟨⟨a, nn, true, kd, pl⟩, A1, c1⟩ rfl HCELLS.out HRD.out (by have := HPL.out; omega) HBA.out.size ?_; intro v' w4 hs4 hgr; have HS4 := Lib.hid hs4; have HGR := Lib.hid hgr; clear hs4 hgr)
        go_roundw
        case rel => exact ⟨ps ++ [⟨⟨a, nn, true, kd, pl⟩, A1, c1⟩], a + nn, by go_num, by omega, by have := HPL.out; (try simp) <;> omega, by rw [map_snoc]; exact HWK.out, HS4, HBA.out.grown HGR.out (by simp; omega) (fun k e => (HS3.out.1.lt k e).1)⟩
        case measure => simp [intOf]; omega
      · have heq : (er == 0) = false := by simpa using he
        have hbg : ¬ Begins xs a := by unfold Begins; rw [HT.out]; exact he
        rcases snoc_cases ps with rfl | ⟨pre, g, rfl⟩
        · obtain rfl : n = 0 := by have := HN.out; simpa using this.symm
          have hwk := HW.out.one (by simp) hbg
          rw [skip_one] at hwk
          have hc00 : (0 : Int) - 1 = -1 := rfl
          have hcells : ∀ (j : Nat) (u : Value), (Pt.cells ⟨⟨a, 1, false, 0, []⟩, none, 0⟩)[j]? = some u → ((w1.alloc (.cells #[.int .i64 kd, .slice A1 pl.length c1] 33)).alloc (.cells #[.int .i64 a, .int .i64 1, .bool false, .int .i64 0, .slice none 0 0] 57)).cell? ((⟨w1.heap.size + 1, 0, none⟩ : Addr).add j) = some u := by
            intro j u hj
            have hz : (w1.alloc (.cells #[.int .i64 kd, .slice A1 pl.length c1] 33)).heap.size = w1.heap.size + 1 := World.size_alloc _ _
            rw [Go.WideShapes.add_plain, Nat.zero_add, cell_of_row _ (w1.heap.size + 1) j #[.int .i64 a, .int .i64 1, .bool false, .int .i64 0, .slice none 0 0] _ (0, 0) (by rw [← hz]; exact heap_alloc_new _ _)]
            simpa [Pt.cells] using hj
          have HCELLS := Lib.hid hcells
          have HB3 := Lib.hid (hb2.alloc hb2.size (.cells #[.int .i64 a, .int .i64 1, .bool false, .int .i64 0, .slice none 0 0] 57))
          have HS3 := Lib.hid (HSG.out.below HB3.out)
          have HRD := Lib.hid (show Pt.Reads ((w1.alloc (.cells #[.int .i64 kd, .slice A1 pl.length c1] 33)).alloc (.cells #[.int .i64 a, .int .i64 1, .bool false, .int .i64 0, .slice none 0 0] 57)) ((w1.alloc (.cells #[.int .i64 kd, .slice A1 pl.length c1] 33)).alloc (.cells #[.int .i64 a, .int .i64 1, .bool false, .int .i64 0, .slice none 0 0] 57)).heap.size ⟨⟨a, 1, false, 0, []⟩, none, 0⟩ from Row.nil _ _)
          have HBA := Lib.hid (hbw.trans (HB3.out.mono hbw.size))
          have hle : w.heap.size ≤ w1.heap.size := Nat.le_trans hbw.size hb1.size
          have HWK := Lib.hid (hwk)
          clear hb1 hb2 hr1 hcells hbw HSG HW
          go_wp2_with (at_builtin; refine wpList_append_seg rfl _ _ 54 rfl i0 _ Try.underlying54 hi hz0 hz1 (by omega) rfl w.heap.size _ [] rfl HS3.out _ _ ⟨⟨a, 1, false, 0, []⟩, none, 0⟩ rfl HCELLS.out HRD.out (by have := HPL.out; omega) HBA.out.size ?_; intro v' w4 hs4 hgr; have HS4 := Lib.hid hs4; have HGR := Lib.hid hgr; clear hs4 hgr)
          go_roundw
          case rel => exact ⟨[] ++ [⟨⟨a, 1, false, 0, []⟩, none, 0⟩], a + 1, by go_num, by omega, by have := HPL.out; (try simp) <;> omega, by rw [map_snoc]; exact HWK.out, HS4, HBA.out.grown HGR.out (by simp; omega) (fun k e => (HS3.out.1.lt k e).1)⟩
          case measure => simp [intOf]; omega
        · obtain rfl : n = pre.length + 1 := by have := HN.out; simp at this; omega
          obtain ⟨g0, rfl⟩ : ∃ g0, A0 = some ⟨g0, 0, none⟩ := by
            rcases HSG.out.1.2 with ⟨h1, h2⟩ | ⟨g0, cap, cur, h1, _⟩
            · simp at h2
            · injection h1 with h1
              exact ⟨g0, h1⟩
          have hgi : (pre ++ [g])[pre.length]? = some g := by simp
          have hg0 : g0 < wr.heap.size := (HSG.out.1.lt g0 rfl).2
          have hgb : w.heap.size ≤ g0 := (HSG.out.1.lt g0 rfl).1
          have HS2 := Lib.hid (HSG.out.below hb2)
          have hsl : (pre ++ [g]).length = pre.length + 1 := by simp
          have cat : ∀ (j : Nat) (u : Value), g.cells[j]? = some u → j < 5 → (w1.alloc (.cells #[.int .i64 kd, .slice A1 pl.length c1] 33)).cell? ⟨g0, pre.length * 5 + j, none⟩ = some u := fun j u hj hj5 => by
            have h := HS2.out.1
            rw [hsl] at h
            rw [h.cellAt _ (by omega)]
            exact flatS_at _ _ g hgi j u hj
          have k1 := cat 1 _ rfl (by omega)
          have k2 := cat 2 _ rfl (by omega)
          have kf : (w1.alloc (.cells #[.int .i64 kd, .slice A1 pl.length c1] 33)).frozen? ⟨g0, pre.length * 5 + 1, none⟩ = false := by
            have h := HS2.out.1
            rw [hsl] at h
            exact h.frozenAt _
          clear cat
          have hpl0 : (0 : Int) ≤ pre.length := by omega
          rcases Bool.eq_false_or_eq_true g.s.isf with hf | hf
          · rw [hf] at k2
            have hwk := HW.out.one (fun o g' e => by
              rw [List.map_append] at e
              have e2 := (List.append_inj' e rfl).2
              simp only [List.map_cons, List.map_nil, List.cons.injEq, and_true] at e2
              rw [← e2]
              exact hf) hbg
            rw [skip_one] at hwk
            have hcells : ∀ (j : Nat) (u : Value), (Pt.cells ⟨⟨a, 1, false, 0, []⟩, none, 0⟩)[j]? = some u → ((w1.alloc (.cells #[.int .i64 kd, .slice A1 pl.length c1] 33)).alloc (.cells #[.int .i64 a, .int .i64 1, .bool false, .int .i64 0, .slice none 0 0] 57)).cell? ((⟨w1.heap.size + 1, 0, none⟩ : Addr).add j) = some u := by
              intro j u hj
              have hz : (w1.alloc (.cells #[.int .i64 kd, .slice A1 pl.length c1] 33)).heap.size = w1.heap.size + 1 := World.size_alloc _ _
              rw [Go.WideShapes.add_plain, Nat.zero_add, cell_of_row _ (w1.heap.size + 1) j #[.int .i64 a, .int .i64 1, .bool false, .int .i64 0, .slice none 0 0] _ (0, 0) (by rw [← hz]; exact heap_alloc_new _ _)]
              simpa [Pt.cells] using hj
            have HCELLS := Lib.hid hcells
            have HB3 := Lib.hid (hb2.alloc hb2.size (.cells #[.int .i64 a, .int .i64 1, .bool false, .int .i64 0, .slice none 0 0] 57))
            have HS3 := Lib.hid (HSG.out.below HB3.out)
            have HRD := Lib.hid (show Pt.Reads ((w1.alloc (.cells #[.int .i64 kd, .slice A1 pl.length c1] 33)).alloc (.cells #[.int .i64 a, .int .i64 1, .bool false, .int .i64 0, .slice none 0 0] 57)) ((w1.alloc (.cells #[.int .i64 kd, .slice A1 pl.length c1] 33)).alloc (.cells #[.int .i64 a, .int .i64 1, .bool false, .int .i64 0, .slice none 0 0] 57)).heap.size ⟨⟨a, 1, false, 0, []⟩, none, 0⟩ from Row.nil _ _)
            have HBA := Lib.hid (hbw.trans (HB3.out.mono hbw.size))
            have hle : w.heap.size ≤ w1.heap.size := Nat.le_trans hbw.size hb1.size
            have HWK := Lib.hid (hwk)
            clear HS2 hb1 hb2 hr1 hcells hbw HSG HW
            go_wp2_with (at_builtin; refine wpList_append_seg rfl _ _ 54 rfl i0 _ Try.underlying54 hi hz0 hz1 (by omega) rfl w.heap.size _ (pre ++ [g]) rfl HS3.out _ _ ⟨⟨a, 1, false, 0, []⟩, none, 0⟩ rfl HCELLS.out HRD.out (by have := HPL.out; omega) HBA.out.size ?_; intro v' w4 hs4 hgr; have HS4 := Lib.hid hs4; have HGR := Lib.hid hgr; clear hs4 hgr)
            go_roundw
            case rel => exact ⟨(pre ++ [g]) ++ [⟨⟨a, 1, false, 0, []⟩, none, 0⟩], a + 1, by go_num, by omega, by have := HPL.out; (try simp) <;> omega, by rw [map_snoc]; exact HWK.out, HS4, HBA.out.grown HGR.out (by simp; omega) (fun k e => (HS3.out.1.lt k e).1)⟩
            case measure => simp [intOf]; omega
          · rw [hf] at k2
            have hwk := Walked.more (xs := xs) (out := pre.map (·.s)) (g := g.s) (by have := HW.out; rwa [map_snoc] at this) hf hbg
            have hst := Segs.store (i := pre.length) (p := g) (q := ⟨{ g.s with n := g.s.n + 1 }, g.A, g.c⟩) (by have := HS2.out; rw [← hsl] at this; exact this) hgi 1 (by omega) (.int .i64 ((g.s.n : Int) + 1)) rfl rfl rfl rfl (by simp)
            have hset : (pre ++ [g]).set pre.length ⟨{ g.s with n := g.s.n + 1 }, g.A, g.c⟩ = pre ++ [⟨{ g.s with n := g.s.n + 1 }, g.A, g.c⟩] := by simp
            rw [hset, hsl] at hst
            have HWK := Lib.hid hwk
            have HST := Lib.hid hst
            have HBA := Lib.hid ((hbw.trans (hb2.mono hbw.size)).setCell (p := ⟨g0, pre.length * 5 + 1, none⟩) hgb (.int .i64 ((g.s.n : Int) + 1)))
            have hgn0 : (0 : Int) ≤ g.s.n := by omega
            have hgn1 : (g.s.n : Int) ≤ 100000000000 := by
              have := Walked.last_n (xs := xs) (out := pre.map (·.s)) (g := g.s) (by have := HW.out; rwa [map_snoc] at this) hf
              omega
            clear hwk hst hset hb1 hb2 hr1 hbw HSG HW HS2
            go_wp2_with fail
            go_roundw
            case rel => exact ⟨pre ++ [⟨{ g.s with n := g.s.n + 1 }, g.A, g.c⟩], a + 1, by go_num, by omega, by have := HPL.out; (try simp) <;> simp at this <;> omega, by rw [map_snoc]; exact HWK.out, HST, HBA.out⟩
            case measure => simp [intOf]; omega
    · obtain rfl : a = L := by omega
      go_wp2_with fail
      go_ret
      exact ⟨_, ps, rfl, by have := HW.out; rw [← HL.out] at this; exact this.done, HSG.out, hbw⟩

set_option maxRecDepth 100000 in
set_option maxHeartbeats 1000000 in
/-- The document's Frames: those that are. -/
theorem rframes_any (ps : List Pt) (hl : ps.length ≤ 100000000000) (v : Value) (w : World) (h : SegRow w w.heap.size v ps) :
    Calls Try.prog 35 #[v] w fun e w' => ∃ v', e = .returned v' ∧ Segs w' w.heap.size v' (onlyF ps) ∧ Below w.heap.size w w' := by
  obtain ⟨i0, hi, hz0, hz1, hz2⟩ := info_parts Try.infoSeg
  obtain ⟨A, c, rfl, hc, hm⟩ := h.form
  have H := Lib.hid (fun W (hb : Below w.heap.size w W) => h.below hb)
  clear h
  obtain ⟨N, hN⟩ : ∃ N, ps.length = N := ⟨_, rfl⟩
  have HN := Lib.hid hN
  rw [hN] at hc H hl ⊢
  clear hN
  go_enter Try.func35, Try.ntmps35
  go_wp2_with fail
  have HS0 := Lib.hid (segs_made w w.heap.size (Nat.le_refl _))
  have HB0 := Lib.hid ((Below.refl w.heap.size w).alloc (Nat.le_refl _) (.cells #[] 57))
  go_loopw [3, 4] (fun v t wr => ∃ k : Nat, t = .int .i64 k ∧ k ≤ N ∧ Hid (Segs wr w.heap.size v (onlyF (ps.take k))) ∧ Below w.heap.size w wr) (fun _ t _ => N - (intOf t).toNat)
  case atStart => exact ⟨0, rfl, Nat.zero_le _, HS0.out, HB0.out⟩
  case round =>
    obtain ⟨k, rfl, hk, HSG, hbw⟩ := hrel
    clear HS0 HB0
    by_cases hlt : k < N
    · obtain ⟨p, hp⟩ : ∃ p, ps[k]? = some p := ⟨_, List.getElem?_eq_getElem (by rw [HN.out]; exact hlt)⟩
      have htk : ps.take (k + 1) = ps.take k ++ [p] := by rw [List.take_add_one, hp]; rfl
      have htl : (onlyF (ps.take k)).length ≤ k := Nat.le_trans (onlyF_le _) (by rw [List.length_take]; omega)
      obtain ⟨b, o, rfl, hb, x0, x1, x2, x3, x4, hr⟩ := (H.out wr hbw).at hp
      obtain ⟨A0, c0, rfl, hlc, hcm⟩ := HSG.out.form
      have HTK := Lib.hid htk
      clear htk hp
      rcases Bool.eq_false_or_eq_true p.s.isf with hf | hf
      · rw [hf] at x2
        have hcells : ∀ (j : Nat) (u : Value), p.cells[j]? = some u → (wr.alloc (.cells #[.int .i64 p.s.frm, .int .i64 p.s.n, .bool true, .int .i64 p.s.kind, .slice p.A p.s.pay.length p.c] 57)).cell? ((⟨wr.heap.size, 0, none⟩ : Addr).add j) = some u := by
          intro j u hj
          rw [Go.WideShapes.add_plain, Nat.zero_add, cell_of_row _ wr.heap.size j _ _ (0, 0) (heap_alloc_new wr _)]
          simpa [Pt.cells, hf] using hj
        have HCELLS := Lib.hid hcells
        have hbl : Below wr.heap.size wr (wr.alloc (.cells #[.int .i64 p.s.frm, .int .i64 p.s.n, .bool true, .int .i64 p.s.kind, .slice p.A p.s.pay.length p.c] 57)) := (Below.refl _ _).alloc (Nat.le_refl _) _
        have HS3 := Lib.hid (HSG.out.below hbl)
        have HRD := Lib.hid (hr.below hbl)
        have HBA := Lib.hid (hbw.trans (hbl.mono hbw.size))
        have HF := Lib.hid hf
        clear hcells hbl hr hbw HSG hf
        go_wp2_with (at_builtin; refine wpList_append_seg rfl _ _ 54 rfl i0 _ Try.underlying54 hi hz0 hz1 (by omega) rfl w.heap.size _ (onlyF (ps.take k)) rfl HS3.out _ _ p rfl HCELLS.out HRD.out (by omega) HBA.out.size ?_; intro v' w4 hs4 hgr; have HS4 := Lib.hid hs4; have HGR := Lib.hid hgr; clear hs4 hgr)
        go_roundw
        case rel => exact ⟨k + 1, by go_num, by omega, by rw [HTK.out, onlyF_yes HF.out]; exact HS4, HBA.out.grown HGR.out HBA.out.size (fun j e => (HS3.out.1.lt j e).1)⟩
        case measure => simp [intOf]; omega
      · rw [hf] at x2
        have HF := Lib.hid hf
        clear hf hr
        go_wp2_with fail
        go_roundw
        case rel => exact ⟨k + 1, by go_num, by omega, by rw [HTK.out, onlyF_no HF.out]; exact HSG, hbw⟩
        case measure => simp [intOf]; omega
    · obtain rfl : k = N := by omega
      go_wp2_with fail
      go_ret
      exact ⟨_, rfl, by have := HSG.out; rwa [List.take_of_length_le (by rw [HN.out]; exact Nat.le_refl _)] at this, hbw⟩
#print axioms rof_any
#print axioms rframes_any
end Go.Proofs.Ytpphgmddancocaa
