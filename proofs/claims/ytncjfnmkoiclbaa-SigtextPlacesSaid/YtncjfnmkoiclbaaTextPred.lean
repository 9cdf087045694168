/-
  The predicate of a line, as the program reads it; the next predicate of a text.
-/
import Derived.Test.YtncjfnmkoiclbaaTextArgs
import Derived.Test.YtncjfnmkoiclbaaSigCode
namespace Go.Proofs.Ytncjfnmkoiclbaa
open Go.RowKit

/-- What predOf answers. -/
def PredAns (n : Nat) (o : Option Pr) (e : Ending) (w' : World) : Prop := match o with
  | none => e = .returned (.tuple #[.agg #[.string ⟨#[]⟩, .slice none 0 0], .bool false])
  | some p => ∃ A c, e = .returned (.tuple #[.agg #[.string (strOfNums p.name), .slice A p.args.length c], .bool true]) ∧ OwnA w' n ⟨p, A, c⟩
theorem predC_bad {s nm list behind : List Int} {o1 o2 : Bool} (h1 : (cutB 40 s).1 = nm) (h2 : (cutB 40 s).2.2 = o1) (h3 : (cutB 41 (cutB 40 s).2.1).1 = list) (h4 : (cutB 41 (cutB 40 s).2.1).2.1 = behind) (h5 : (cutB 41 (cutB 40 s).2.1).2.2 = o2) :
    ((o1 = false ∨ o2 = false ∨ behind ≠ [] ∨ okName nm = false) → predC s = none) ∧ (o1 = true → o2 = true → behind = [] → okName nm = true → predC s = (argsC list).map (fun a => ⟨nm, a⟩)) := by
  subst h1 h2 h3 h4 h5
  unfold predC
  refine ⟨fun h => if_pos h, fun q1 q2 q3 q4 => if_neg ?_⟩
  rw [q1, q2, q3, q4]
  simp

/-- A row of the call's own, told from less; beside a block ahead of its base. -/
theorem own_base {w : World} {n m k : Nat} {e : TypeId} {size : Nat} {v : Value} {us : List Value} (h : w.ownsRow n e size v k us) (hm : m ≤ n) : w.ownsRow m e size v k us := by
  refine ⟨h.1, ?_⟩
  rcases h.2 with h2 | ⟨g, cap, cur, q1, q2, q3⟩
  · exact .inl h2
  · exact .inr ⟨g, cap, cur, q1, Nat.le_trans hm q2, q3⟩
theorem own_low {w : World} {n m k : Nat} {e : TypeId} {size : Nat} {v : Value} {us : List Value} (h : w.ownsRow n e size v k us) (hm : m < n) : v.ownBlock ≠ some m := fun e => by
  have := (World.ownsRow.lt h m e).1
  omega
theorem own_put2 {w : World} {n m k i j : Nat} {e : TypeId} {size : Nat} {v u u' : Value} {us : List Value} (h : w.ownsRow n e size v k us) (hm : v.ownBlock ≠ some m) : ((w.setCell ⟨m, i, none⟩ u).setCell ⟨m, j, none⟩ u').ownsRow n e size v k us :=
  World.ownsRow.kept h (grown_trans (grown_put w m i u) (grown_put _ m j u')) (.inr hm)

set_option maxRecDepth 100000 in
set_option maxHeartbeats 2000000 in
theorem pred_any (xs : List Int) (hb : ∀ x ∈ xs, 0 ≤ x ∧ x < 256) (hl : xs.length ≤ 1000000) (w : World) :
    Calls Try.prog 40 #[.string (strOfNums xs)] w fun e w' => PredAns w.heap.size (predC xs) e w' ∧ Below w.heap.size w w' := by
  have HC1 := Lib.hid (fun W => cut_any 40 40 rfl xs hb (by omega) W)
  obtain ⟨l1, _, _⟩ := cutB_len 40 xs
  obtain ⟨k1, k2⟩ := cutB_bytes (c := 40) hb
  obtain ⟨l2, _, _⟩ := cutB_len 41 (cutB 40 xs).2.1
  obtain ⟨k3, k4⟩ := cutB_bytes (c := 41) k2
  have HC2 := Lib.hid (fun W => cut_any 41 41 rfl (cutB 40 xs).2.1 k2 (by omega) W)
  have HNM := Lib.hid (fun W => sname_any (cutB 40 xs).1 W k1 (by unfold maxLen; omega))
  have HAR := Lib.hid (fun W => args_any (cutB 41 (cutB 40 xs).2.1).1 k3 (by omega) W)
  obtain ⟨p1, p2⟩ := predC_bad (s := xs) rfl rfl rfl rfl rfl
  have HP1 := Lib.hid p1
  have HP2 := Lib.hid p2
  have hbe : (strOfNums (cutB 41 (cutB 40 xs).2.1).2.1).toList.isEmpty = (cutB 41 (cutB 40 xs).2.1).2.1.isEmpty := str_empty _
  clear p1 p2 k1 k2 k3 k4 l1 l2 hb hl
  generalize predC xs = PC at HP1 HP2 ⊢
  generalize (cutB 41 (cutB 40 xs).2.1).1 = list at HC2 HAR HP1 HP2
  generalize (cutB 41 (cutB 40 xs).2.1).2.1 = behind at HC2 HP1 HP2 hbe
  generalize (cutB 41 (cutB 40 xs).2.1).2.2 = o2 at HC2 HP1 HP2
  generalize (cutB 40 xs).2.1 = rest at HC1 HC2
  generalize (cutB 40 xs).2.2 = o1 at HC1 HP1 HP2
  generalize (cutB 40 xs).1 = nm at HC1 HNM HP1 HP2
  obtain ⟨n, hn⟩ : ∃ n, w.heap.size = n := ⟨_, rfl⟩
  obtain ⟨wa, hwa⟩ : ∃ wa, w.alloc (.cells #[.string ⟨#[]⟩, .slice none 0 0] 39) = wa := ⟨_, rfl⟩
  have ha : Held wa n 39 #[.string ⟨#[]⟩, .slice none 0 0] := by rw [← hwa, ← hn]; exact heap_alloc_new w _
  have ba : Below n w wa := by rw [← hwa, ← hn]; exact (Below.refl _ _).alloc (Nat.le_refl _) _
  have sa : wa.heap.size = n + 1 := by rw [← hwa, ← hn]; simp
  have HH := Lib.hid ha
  have HB := Lib.hid ba
  have HN := Lib.hid hn
  have HSA := Lib.hid sa
  rw [hn]
  clear ha ba hn sa
  go_enter Try.func40, Try.ntmps40
  go_wp2_with fail
  rw [HN.out]
  refine (HC1.out _).mono ?_
  rintro e w1 ⟨rfl, hb1⟩
  have HH1 := Lib.hid (HH.out.below hb1 (by rw [HSA.out]; omega))
  have HB1 := Lib.hid (HB.out.trans (hb1.mono (by rw [HSA.out]; omega)))
  clear hb1
  go_wp2_with fail
  refine (HC2.out _).mono ?_
  rintro e w2 ⟨rfl, hb2⟩
  have HH2 := Lib.hid (HH1.out.below hb2 HH1.out.lt)
  have HB2 := Lib.hid (HB1.out.trans (hb2.mono (Nat.le_of_lt HH1.out.lt)))
  clear hb2
  have c0 := HH2.out.cell 0
  have c1 := HH2.out.cell 1
  have z0 := HH2.out.frozen 0
  have z1 := HH2.out.frozen 1
  have zl := HH2.out.lt
  simp at c0 c1
  cases o1 with
  | false =>
    go_wp2_with fail
    have hfin := (HH2.out.put 0 (.string ⟨#[]⟩)).put 1 (.slice none 0 0)
    have e0 := hfin.cell 0
    have e1 := hfin.cell 1
    simp at e0 e1
    exact bodyPost_ret (v := .tuple #[.agg #[.string ⟨#[]⟩, .slice none 0 0], .bool false]) (by simp [results, Try.results40, go_sem, e0, e1]) rfl ⟨by rw [HP1.out (.inl (by trivial))]; rfl, (HB2.out.setCell (p := ⟨n, 0, none⟩) (Nat.le_refl _) _).setCell (p := ⟨n, 1, none⟩) (Nat.le_refl _) _⟩
  | true =>
  cases o2 with
  | false =>
    go_wp2_with fail
    have hfin := (HH2.out.put 0 (.string ⟨#[]⟩)).put 1 (.slice none 0 0)
    have e0 := hfin.cell 0
    have e1 := hfin.cell 1
    simp at e0 e1
    exact bodyPost_ret (v := .tuple #[.agg #[.string ⟨#[]⟩, .slice none 0 0], .bool false]) (by simp [results, Try.results40, go_sem, e0, e1]) rfl ⟨by rw [HP1.out (.inr (.inl (by trivial)))]; rfl, (HB2.out.setCell (p := ⟨n, 0, none⟩) (Nat.le_refl _) _).setCell (p := ⟨n, 1, none⟩) (Nat.le_refl _) _⟩
  | true =>
  by_cases hbn : behind = []
  · subst hbn
    rw [show strOfNums [] = ⟨#[]⟩ from rfl] at *
    clear hbe
    go_wp2_with fail
    refine (HNM.out _).mono ?_
    rintro e w3 ⟨rfl, hb3⟩
    have HH3 := Lib.hid (HH2.out.below hb3 zl)
    have HB3 := Lib.hid (HB2.out.trans (hb3.mono (Nat.le_of_lt zl)))
    clear hb3 c0 c1 z0 z1 zl
    have c0 := HH3.out.cell 0
    have c1 := HH3.out.cell 1
    have z0 := HH3.out.frozen 0
    have z1 := HH3.out.frozen 1
    have zl := HH3.out.lt
    simp at c0 c1
    rcases (by cases okName nm <;> simp : okName nm = false ∨ okName nm = true) with hok | hok
    · rw [hok]
      go_wp2_with fail
      have hfin := (HH3.out.put 0 (.string ⟨#[]⟩)).put 1 (.slice none 0 0)
      have e0 := hfin.cell 0
      have e1 := hfin.cell 1
      simp at e0 e1
      exact bodyPost_ret (v := .tuple #[.agg #[.string ⟨#[]⟩, .slice none 0 0], .bool false]) (by simp [results, Try.results40, go_sem, e0, e1]) rfl ⟨by rw [HP1.out (.inr (.inr (.inr hok)))]; rfl, (HB3.out.setCell (p := ⟨n, 0, none⟩) (Nat.le_refl _) _).setCell (p := ⟨n, 1, none⟩) (Nat.le_refl _) _⟩
    · rw [hok]
      have hpc := HP2.out (by trivial) (by trivial) (by trivial) hok
      go_wp2_with fail
      refine (HAR.out _).mono ?_
      rintro e w4 ⟨hans, hb4⟩
      have HH4 := Lib.hid (HH3.out.below hb4 zl)
      have HB4 := Lib.hid (HB3.out.trans (hb4.mono (Nat.le_of_lt zl)))
      clear c0 c1 z0 z1
      have c0 := HH4.out.cell 0
      have c1 := HH4.out.cell 1
      have z0 := HH4.out.frozen 0
      have z1 := HH4.out.frozen 1
      have zl4 := HH4.out.lt
      simp at c0 c1
      clear hb4
      cases hA : argsC list with
      | none =>
        rw [hA] at hans hpc
        obtain rfl : e = _ := hans
        have HPC := Lib.hid hpc
        clear hpc
        go_wp2_with fail
        have hfin := (HH4.out.put 0 (.string ⟨#[]⟩)).put 1 (.slice none 0 0)
        have e0 := hfin.cell 0
        have e1 := hfin.cell 1
        simp at e0 e1
        exact bodyPost_ret (v := .tuple #[.agg #[.string ⟨#[]⟩, .slice none 0 0], .bool false]) (by simp [results, Try.results40, go_sem, e0, e1]) rfl ⟨by rw [HPC.out]; rfl, (HB4.out.setCell (p := ⟨n, 0, none⟩) (Nat.le_refl _) _).setCell (p := ⟨n, 1, none⟩) (Nat.le_refl _) _⟩
      | some l =>
        rw [hA] at hans hpc
        obtain ⟨A, c, rfl, hown⟩ := hans
        have HPC := Lib.hid hpc
        have HOW := Lib.hid hown
        clear hpc hown
        go_wp2_with fail
        have hfin := (HH4.out.put 0 (.string (strOfNums nm))).put 1 (.slice A l.length c)
        have e0 := hfin.cell 0
        have e1 := hfin.cell 1
        simp at e0 e1
        exact bodyPost_ret (v := .tuple #[.agg #[.string (strOfNums nm), .slice A l.length c], .bool true]) (by simp [results, Try.results40, go_sem, e0, e1]) rfl ⟨by
          rw [HPC.out]
          exact ⟨A, c, rfl, own_put2 (own_base HOW.out (by omega)) (own_low HOW.out zl)⟩, (HB4.out.setCell (p := ⟨n, 0, none⟩) (Nat.le_refl _) _).setCell (p := ⟨n, 1, none⟩) (Nat.le_refl _) _⟩
  · have hbe2 : (strOfNums behind).toList.isEmpty = false := by
      rw [hbe]
      cases behind with
      | nil => exact absurd rfl hbn
      | cons x xs => rfl
    have HBN := Lib.hid hbn
    clear hbe hbn
    go_wp2_with fail
    have hfin := (HH2.out.put 0 (.string ⟨#[]⟩)).put 1 (.slice none 0 0)
    have e0 := hfin.cell 0
    have e1 := hfin.cell 1
    simp at e0 e1
    exact bodyPost_ret (v := .tuple #[.agg #[.string ⟨#[]⟩, .slice none 0 0], .bool false]) (by simp [results, Try.results40, go_sem, e0, e1]) rfl ⟨by rw [HP1.out (.inr (.inr (.inl HBN.out)))]; rfl, (HB2.out.setCell (p := ⟨n, 0, none⟩) (Nat.le_refl _) _).setCell (p := ⟨n, 1, none⟩) (Nat.le_refl _) _⟩
#print axioms pred_any
end Go.Proofs.Ytncjfnmkoiclbaa
