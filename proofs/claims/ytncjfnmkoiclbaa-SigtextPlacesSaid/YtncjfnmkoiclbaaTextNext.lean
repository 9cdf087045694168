/-
  The next predicate of a text, as the program reads it.
-/
import Derived.Test.YtncjfnmkoiclbaaTextPred
namespace Go.Proofs.Ytncjfnmkoiclbaa
open Go.RowKit

/-- What nextPred answers. -/
def NextAns (n : Nat) (L : List Pr) (xs : List Int) (e : Ending) (w' : World) : Prop :=
  (nextE L xs ≠ 0 → e = .returned (.tuple #[.agg #[.string ⟨#[]⟩, .slice none 0 0], .int .i64 (nextE L xs)])) ∧
  (nextE L xs = 0 → ∃ A c, e = .returned (.tuple #[.agg #[.string (strOfNums (predR xs).name), .slice A (predR xs).args.length c], .int .i64 0]) ∧ OwnA w' n ⟨predR xs, A, c⟩)
theorem next_bad {n : Nat} {L : List Pr} {xs : List Int} {e : Ending} {w' : World} {k : Int} (hk : nextE L xs = k) (h0 : k ≠ 0) (he : e = .returned (.tuple #[.agg #[.string ⟨#[]⟩, .slice none 0 0], .int .i64 k])) : NextAns n L xs e w' := by
  unfold NextAns
  rw [hk]
  exact ⟨fun _ => he, fun h => absurd h h0⟩
theorem argsF_more : ∀ (b : Bool) (l : List Int), l.length ≤ (argsF b l).length
  | _, [] => Nat.zero_le _
  | b, t :: l => by
    have h1 := argsF_more false l
    have h2 : 3 ≤ (wordT t).length := by unfold wordT; split <;> simp
    rw [argsF, List.length_append, List.length_append, List.length_cons]
    omega
theorem line_small {xs : List Int} {p : Pr} (h : IsLine xs p) : p.name.length + p.args.length ≤ xs.length ∧ ∀ x ∈ p.name, x ∈ xs := by
  obtain ⟨_, _, rfl⟩ := h
  have := argsF_more true p.args
  unfold lineP
  refine ⟨by simp; omega, fun x hx => by simp [hx]⟩

set_option maxRecDepth 100000 in
set_option maxHeartbeats 2000000 in
theorem next_any (A0 : Option Addr) (cap0 : Nat) (ds : List Pd) (xs : List Int) (hb : ∀ x ∈ xs, 0 ≤ x ∧ x < 256) (hl : xs.length ≤ 1000000) (w : World) (hrow : PredRow w w.heap.size (.slice A0 ds.length cap0) ds) :
    Calls Try.prog 33 #[.slice A0 ds.length cap0, .string (strOfNums xs)] w fun e w' => NextAns w.heap.size (ds.map (·.p)) xs e w' ∧ Below w.heap.size w w' := by
  obtain ⟨_, hc1, hc2⟩ : ∃ _ : True, ds.length ≤ cap0 ∧ cap0 ≤ 9223372036854775807 := by
    obtain ⟨A', c', hv, q1, q2⟩ := hrow.form
    injection hv with _ _ e3
    exact ⟨trivial, by omega, by omega⟩
  have HPR := Lib.hid (fun W => pred_any xs hb hl W)
  have hrd : okLine xs = true → (predR xs).name.length ≤ 1000000 ∧ (predR xs).args.length ≤ 1000000 ∧ ∀ x ∈ (predR xs).name, 0 ≤ x ∧ x < 256 := fun h => by
    obtain ⟨h1, h2⟩ := line_small (okLine_is h)
    exact ⟨by omega, by omega, fun x hx => hb x (h2 x hx)⟩
  have HRD := Lib.hid hrd
  rw [predC_eq] at HPR
  obtain ⟨n, hn⟩ : ∃ n, w.heap.size = n := ⟨_, rfl⟩
  obtain ⟨wa, hwa⟩ : ∃ wa, w.alloc (.cells #[.string ⟨#[]⟩, .slice none 0 0] 39) = wa := ⟨_, rfl⟩
  have ha : Held wa n 39 #[.string ⟨#[]⟩, .slice none 0 0] := by rw [← hwa, ← hn]; exact heap_alloc_new w _
  have ba : Below n w wa := by rw [← hwa, ← hn]; exact (Below.refl _ _).alloc (Nat.le_refl _) _
  have sa : wa.heap.size = n + 1 := by rw [← hwa, ← hn]; simp
  have HH := Lib.hid ha
  have HB := Lib.hid ba
  have HN := Lib.hid hn
  have HSA := Lib.hid sa
  rw [hn] at hrow
  rw [hn]
  have HROW := Lib.hid hrow
  clear ha ba hn sa hrd hrow
  go_enter Try.func33, Try.ntmps33
  go_wp2_with fail
  rw [HN.out]
  refine (HPR.out _).mono ?_
  rintro e w1 ⟨hans, hb1⟩
  have HH1 := Lib.hid (HH.out.below hb1 (by rw [HSA.out]; omega))
  have HB1 := Lib.hid (HB.out.trans (hb1.mono (by rw [HSA.out]; omega)))
  have hn1 : n < w1.heap.size := HH1.out.lt
  rw [HSA.out] at hans
  clear hb1 HPR
  rcases (by cases okLine xs <;> simp : okLine xs = false ∨ okLine xs = true) with hok | hok
  · rw [hok, if_neg (by decide)] at hans
    obtain rfl : e = _ := hans
    have HNE := Lib.hid (show nextE (ds.map (·.p)) xs = 4 by unfold nextE; rw [if_pos hok])
    have c0 := HH1.out.cell 0
    have c1 := HH1.out.cell 1
    have z0 := HH1.out.frozen 0
    have z1 := HH1.out.frozen 1
    have zl := HH1.out.lt
    simp at c0 c1
    have hsz : ∀ (u : Value) i, n < (w1.setCell ⟨n, i, none⟩ u).heap.size := fun u i => by simpa [World.setCell] using hn1
    have hs : ∀ u v o, Held (((w1.setCell ⟨n, 0, none⟩ u).setCell ⟨n, 1, none⟩ v).alloc o) n 39 #[u, v] := fun u v o => Held.below (by simpa using (HH1.out.put 0 u).put 1 v) ((Below.refl _ _).alloc (Nat.le_refl _) _) (by simpa [World.setCell] using hn1)
    have HS := Lib.hid hs
    clear hok hsz hs
    go_wp2_with fail
    have hfin := HS.out (.string ⟨#[]⟩) (.slice none 0 0) (.cells #[.string ⟨#[]⟩, .slice none 0 0] 39)
    have e0 := hfin.cell 0
    have e1 := hfin.cell 1
    simp at e0 e1
    exact bodyPost_ret (v := .tuple #[.agg #[.string ⟨#[]⟩, .slice none 0 0], .int .i64 4]) (by simp [results, Try.results33, go_sem, e0, e1]) rfl ⟨next_bad HNE.out (by decide) rfl, ((HB1.out.setCell (p := ⟨n, 0, none⟩) (Nat.le_refl _) _).setCell (p := ⟨n, 1, none⟩) (Nat.le_refl _) _).alloc (by simpa [World.setCell] using Nat.le_of_lt hn1) _⟩
  · rw [hok, if_pos rfl] at hans
    obtain ⟨A, c, rfl, hown⟩ := hans
    obtain ⟨g1, g2, g3⟩ := HRD.out hok
    have hn4 : nextE (ds.map (·.p)) xs = if 0 ≤ findP (ds.map (·.p)) (predR xs).name then 9 else if 8 < (predR xs).args.length ∨ 64 ≤ ds.length then 6 else 0 := by
      unfold nextE
      rw [if_neg (by rw [hok]; decide), List.length_map]
    have HFD := Lib.hid (fun W (h : PredRow W W.heap.size (.slice A0 ds.length cap0) ds) => sfind_any A0 cap0 ds (predR xs).name W h g3 (by unfold maxLen; omega))
    have HOWN := Lib.hid hown
    have hlc : (predR xs).args.length ≤ c ∧ c ≤ 9223372036854775807 := by
      obtain ⟨_, _, hv, q1, q2, _⟩ := VRow.of_own hown
      injection hv with _ _ e3
      rw [List.length_map] at q1
      unfold maxLen at q2
      dsimp only at e3 q1
      omega
    have HAN : Hid (∀ e' w', (nextE (ds.map (·.p)) xs = 0 → ∃ A c, e' = .returned (.tuple #[.agg #[.string (strOfNums (predR xs).name), .slice A (predR xs).args.length c], .int .i64 0]) ∧ OwnA w' n ⟨predR xs, A, c⟩) → nextE (ds.map (·.p)) xs = 0 → NextAns n (ds.map (·.p)) xs e' w') := Lib.hid (fun e' w' h h0 => ⟨fun h1 => absurd h0 h1, h⟩)
    have HBAD : Hid (∀ (k : Int) w', nextE (ds.map (·.p)) xs = k → k ≠ 0 → NextAns n (ds.map (·.p)) xs (.returned (.tuple #[.agg #[.string ⟨#[]⟩, .slice none 0 0], .int .i64 k])) w') := Lib.hid (fun k w' h h0 => next_bad h h0 rfl)
    clear hown g3 hok HRD
    generalize nextE (ds.map (·.p)) xs = NE at HAN HBAD hn4
    have hfr : findP (ds.map (·.p)) (predR xs).name < 9223372036854775807 ∧ -1 ≤ findP (ds.map (·.p)) (predR xs).name := by
      rcases findP_ways (ds.map (·.p)) (predR xs).name with ⟨e, _⟩ | ⟨r, p, e, h1, _⟩
      · rw [e]; omega
      · have := (List.getElem?_eq_some_iff.1 h1).1
        rw [List.length_map] at this
        rw [e]; omega
    have HGOAL : Hid (∀ e' w', NextAns n (ds.map (·.p)) xs e' w' ∧ Below n w w' → (NextAns n (ds.map (·.p)) xs e' w' ∧ Below n w w')) := Lib.hid (fun _ _ h => h)
    generalize findP (ds.map (·.p)) (predR xs).name = FP at HFD hn4 hfr
    obtain ⟨nm, hnm⟩ : ∃ nm, (predR xs).name = nm := ⟨_, rfl⟩
    obtain ⟨ar, har⟩ : ∃ ar, (predR xs).args = ar := ⟨_, rfl⟩
    obtain ⟨m, hm⟩ : ∃ m, ar.length = m := ⟨_, rfl⟩
    rw [hnm] at HFD HAN
    rw [har, hm] at hn4 HAN hlc g2
    rw [hnm, har, hm]
    have HAR := Lib.hid har
    have HNM := Lib.hid hnm
    have HM := Lib.hid hm
    have HN4 := Lib.hid hn4
    clear hnm har hm hn4 g1
    obtain ⟨w2, hw2⟩ : ∃ w2, w1.alloc (.cells #[.string (strOfNums nm), .slice A m c] 39) = w2 := ⟨_, rfl⟩
    have h2 : Held w2 w1.heap.size 39 #[.string (strOfNums nm), .slice A m c] := by rw [← hw2]; exact heap_alloc_new w1 _
    have b2 : Below w1.heap.size w1 w2 := by rw [← hw2]; exact (Below.refl _ _).alloc (Nat.le_refl _) _
    have HH2 := Lib.hid (HH1.out.below b2 hn1)
    have HB2 := Lib.hid (HB1.out.trans (b2.mono (Nat.le_of_lt hn1)))
    have HG2 := Lib.hid h2
    have HO2 := Lib.hid (own_below HOWN.out b2)
    have d0 := h2.cell 0
    have d1 := h2.cell 1
    have dl := h2.lt
    simp at d0 d1
    have HFC := Lib.hid (HFD.out w2 ((HROW.out.below HB2.out).more (by have := HH2.out.lt; omega)))
    clear h2 b2 HFD HB HB1 HH HH1 HOWN
    go_wp2_with fail
    refine HFC.out.mono ?_
    rintro e w3 ⟨rfl, hb3⟩
    have HH3 := Lib.hid (HH2.out.below hb3 HH2.out.lt)
    have HB3 := Lib.hid (HB2.out.trans (hb3.mono (Nat.le_of_lt HH2.out.lt)))
    have HG3 := Lib.hid (HG2.out.below hb3 HG2.out.lt)
    have HO3 := Lib.hid (own_below HO2.out hb3)
    clear hb3 d0 d1 dl
    have d0 := HG3.out.cell 0
    have d1 := HG3.out.cell 1
    have dl := HG3.out.lt
    simp at d0 d1
    have c0 := HH3.out.cell 0
    have c1 := HH3.out.cell 1
    have z0 := HH3.out.frozen 0
    have z1 := HH3.out.frozen 1
    have zl := HH3.out.lt
    simp at c0 c1
    by_cases hf : 0 ≤ FP
    · rw [decide_eq_true hf]
      have H9 := Lib.hid (show NE = 9 by rw [HN4.out, if_pos hf])
      clear hf
      go_wp2_with fail
      have hfin := (HH3.out.put 0 (.string ⟨#[]⟩)).put 1 (.slice none 0 0)
      have e0 := hfin.cell 0
      have e1 := hfin.cell 1
      simp at e0 e1
      exact bodyPost_ret (v := .tuple #[.agg #[.string ⟨#[]⟩, .slice none 0 0], .int .i64 9]) (by simp [results, Try.results33, go_sem, e0, e1]) rfl ⟨HBAD.out 9 _ H9.out (by decide), (HB3.out.setCell (p := ⟨n, 0, none⟩) (Nat.le_refl _) _).setCell (p := ⟨n, 1, none⟩) (Nat.le_refl _) _⟩
    · rw [decide_eq_false hf]
      have hn5 := HN4.out
      rw [if_neg hf] at hn5
      clear hf
      by_cases h8 : 8 < m
      · have H6 := Lib.hid (show NE = 6 by rw [hn5, if_pos (.inl h8)])
        have h8' : (8 : Int) < (m : Int) := by omega
        clear hn5 h8
        go_wp2_with fail
        have hfin := (HH3.out.put 0 (.string ⟨#[]⟩)).put 1 (.slice none 0 0)
        have e0 := hfin.cell 0
        have e1 := hfin.cell 1
        simp at e0 e1
        exact bodyPost_ret (v := .tuple #[.agg #[.string ⟨#[]⟩, .slice none 0 0], .int .i64 6]) (by simp [results, Try.results33, go_sem, e0, e1]) rfl ⟨HBAD.out 6 _ H6.out (by decide), (HB3.out.setCell (p := ⟨n, 0, none⟩) (Nat.le_refl _) _).setCell (p := ⟨n, 1, none⟩) (Nat.le_refl _) _⟩
      · have h8' : ¬ (8 : Int) < (m : Int) := by omega
        by_cases h64 : 64 ≤ ds.length
        · have H6 := Lib.hid (show NE = 6 by rw [hn5, if_pos (.inr h64)])
          have h64' : (64 : Int) ≤ (ds.length : Int) := by omega
          clear hn5 h8 h64
          go_wp2_with fail
          have hfin := (HH3.out.put 0 (.string ⟨#[]⟩)).put 1 (.slice none 0 0)
          have e0 := hfin.cell 0
          have e1 := hfin.cell 1
          simp at e0 e1
          exact bodyPost_ret (v := .tuple #[.agg #[.string ⟨#[]⟩, .slice none 0 0], .int .i64 6]) (by simp [results, Try.results33, go_sem, e0, e1]) rfl ⟨HBAD.out 6 _ H6.out (by decide), (HB3.out.setCell (p := ⟨n, 0, none⟩) (Nat.le_refl _) _).setCell (p := ⟨n, 1, none⟩) (Nat.le_refl _) _⟩
        · have H0 := Lib.hid (show NE = 0 by rw [hn5, if_neg (by omega)])
          have h64' : ¬ (64 : Int) ≤ (ds.length : Int) := by omega
          clear hn5 h8 h64
          go_wp2_with fail
          have hfin := (HH3.out.put 0 (.string (strOfNums nm))).put 1 (.slice A m c)
          have e0 := hfin.cell 0
          have e1 := hfin.cell 1
          simp at e0 e1
          exact bodyPost_ret (v := .tuple #[.agg #[.string (strOfNums nm), .slice A m c], .int .i64 0]) (by simp [results, Try.results33, go_sem, e0, e1]) rfl ⟨HAN.out _ _ (fun _ => ⟨A, c, rfl, by
            have := HO3.out
            simp only [HAR.out, HM.out] at this
            unfold OwnA
            simp only [HAR.out, HM.out]
            exact own_put2 (own_base this (by omega)) (own_low this (by omega))⟩) H0.out, (HB3.out.setCell (p := ⟨n, 0, none⟩) (Nat.le_refl _) _).setCell (p := ⟨n, 1, none⟩) (Nat.le_refl _) _⟩
#print axioms next_any
end Go.Proofs.Ytncjfnmkoiclbaa
