/-
  What sigbin.Get answers.
-/
import Derived.Test.YtnjhkjlekepjoaaSigbinPreds
import Derived.Test.YtnjhkjlekepjoaaSigCode
import Derived.Deep.RegionHeld3
namespace Go.Proofs.Ytnjhkjlekepjoaa
open Go.RowKit

/-- A signature that was read, or why none was. -/
def SigGot (n : Nat) (r : List Pr × Int) (e : Ending) (w' : World) : Prop := ∃ A c es, e = .returned (.tuple #[.slice A es.length c, .int .i64 r.2]) ∧ OwnP w' n (.slice A es.length c) es ∧ es.map (·.p) = r.1
theorem sig_bad {n : Nat} {r : List Pr × Int} {k : Int} {e : Ending} {w' : World} (hr : r = ([], k)) (he : e = .returned (.tuple #[.slice none 0 0, .int .i64 k])) : SigGot n r e w' := by
  subst hr
  exact ⟨none, 0, [], he, OwnP.nil _ _, rfl⟩

set_option maxRecDepth 100000 in
set_option maxHeartbeats 2000000 in
theorem bsget_any (A : Option Addr) (c : Nat) (xs : List Int) (hl : xs.length ≤ 1000000000) (hb : ∀ x ∈ xs, 0 ≤ x ∧ x < 256) (w : World) (hrow : Row w w.heap.size (.slice A xs.length c) xs) :
    Calls Try.prog 12 #[.slice A xs.length c] w fun e w' => SigGot w.heap.size (getSig xs) e w' ∧ Below w.heap.size w w' := by
  rw [← getC_eq hb]
  have HNEW := Lib.hid (new_any A c xs (by omega) w hrow)
  have HPR := Lib.hid (fun (g n : Nat) (W : World) (h : Cur 92 W w.heap.size g xs 0 0) (hK : w.heap.size ≤ g) (hn : n ≤ W.heap.size) => bpreds_any (n := n) h hK hb (by omega) hn)
  have hple := predsC_le hb
  unfold getC
  generalize predsC xs = t at HPR hple ⊢
  obtain ⟨l, p, er⟩ := t
  simp only at hple HPR ⊢
  have hbad : er ≠ 0 ∨ p < xs.length → (doneI xs.length p er).1 = false ∧ (doneI xs.length p er).2 ≠ 0 ∧ (if endC xs.length p er (checkP l) = 0 then (l, 0) else ([], endC xs.length p er (checkP l))) = (([] : List Pr), (doneI xs.length p er).2) := by
    intro h
    unfold doneI endC
    by_cases h0 : er = 0
    · have h1 : p < xs.length := h.resolve_left (fun q => q h0)
      simp [h0, h1]
    · simp [h0]
  have hok : ¬ (er ≠ 0 ∨ p < xs.length) → doneI xs.length p er = (true, 0) ∧ er = 0 ∧ endC xs.length p er (checkP l) = checkP l := by
    intro h
    have h0 : er = 0 := Classical.byContradiction fun q => h (.inl q)
    have h1 : ¬ p < xs.length := fun q => h (.inr q)
    unfold doneI endC
    simp [h0, h1]
  generalize hn : w.heap.size = n at HPR ⊢
  have HN := Lib.hid hn
  have HB0 := Lib.hid hb
  clear hn hrow hb
  by_cases hway : er ≠ 0 ∨ p < xs.length
  · obtain ⟨q1, q2, q3⟩ := hbad hway
    rw [q3]
    clear hok hbad hway q3
    have HDN := Lib.hid (fun (g : Nat) (W : World) (h : Cur 92 W n g xs p er) (hK : n ≤ g) => done_any h hple hK)
    generalize doneI xs.length p er = dn at HDN q1 q2 ⊢
    obtain ⟨d1, d2⟩ := dn
    simp only at q1 q2 ⊢
    subst q1
    have hne : (d2 != 0) = true := bne_iff_ne.2 q2
    clear q2
    go_enter Try.func12, Try.ntmps12
    go_wp2_with fail
    refine HNEW.out.mono ?_
    rintro e w1 ⟨g, rfl, hwg, hc1, hb1⟩
    rw [HN.out] at hwg hc1 hb1
    have hn1 := hb1.size
    rw [HN.out] at hn1
    have hgl := hc1.lt
    obtain ⟨w2, hw2⟩ : ∃ w2, w1.alloc (.cells #[.pointer (some ⟨g, 0, none⟩)] 58) = w2 := ⟨_, rfl⟩
    have b2 : Below w1.heap.size w1 w2 := by rw [← hw2]; exact (Below.refl _ _).alloc (Nat.le_refl _) _
    have s2 : w2.heap.size = w1.heap.size + 1 := by rw [← hw2]; simp
    have h2 : Held w2 w1.heap.size 58 #[.pointer (some ⟨g, 0, none⟩)] := by rw [← hw2]; exact heap_alloc_new w1 _
    have HBX2 := Lib.hid h2
    have HC2 := Lib.hid (HPR.out g (w1.heap.size + 1) w2 (hc1.below b2 hwg) hwg (by omega))
    have HB2 := Lib.hid (hb1.trans (b2.mono hn1))
    have hbox2 := h2.cell 0
    simp at hbox2
    clear h2 b2 hc1 hb1
    go_wp2_with fail
    refine HC2.out.mono ?_
    rintro e w3 ⟨⟨A3, c3, es, rfl, ho3, he3⟩, hc3, hg3⟩
    have hbx3 := HBX2.out.grown hg3 (fun e => by injection e with e; omega)
    have hbox3 := hbx3.cell 0
    simp at hbox3
    have HBX3 := Lib.hid hbx3
    have HB3 := Lib.hid (HB2.out.grown hg3 (by omega) (fun j e => by injection e with e; omega))
    have HD := Lib.hid (HDN.out g w3 hc3 hwg)
    clear hbox2 hbx3 hc3 hg3 ho3 he3
    go_wp2_with fail
    refine HD.out.mono ?_
    rintro e w4 ⟨rfl, hc4, hg4⟩
    have hbx4 := HBX3.out.grown hg4 (fun e => by injection e with e; omega)
    have hbox4 := hbx4.cell 0
    simp at hbox4
    have HB4 := Lib.hid (HB3.out.grown hg4 (by have := HB3.out.size; rw [HN.out] at this; exact this) (fun j e => by injection e with e; omega))
    have HE := Lib.hid (err_any hc4)
    clear hbox3 hbx4 hc4 hg4
    go_wp2_with fail
    refine HE.out.mono ?_
    rintro e w5 ⟨rfl, rfl⟩
    go_wp2_with fail
    go_ret2
    exact ⟨sig_bad rfl rfl, HB4.out⟩
  · obtain ⟨q1, rfl, q3⟩ := hok hway
    rw [q3]
    clear hok hbad hway q3
    have HDN := Lib.hid (fun (g : Nat) (W : World) (h : Cur 92 W n g xs p 0) (hK : n ≤ g) => done_any h hple hK)
    rw [q1] at HDN
    clear q1
    obtain ⟨ck, hck⟩ : ∃ ck, checkP l = ck := ⟨_, rfl⟩
    have HCK := Lib.hid (fun (A : Option Addr) (c : Nat) (ds : List Pd) (W : World) (h : PredRow W W.heap.size (.slice A ds.length c) ds) (e : ds.map (·.p) = l) => (show Calls Try.prog 16 #[.slice A ds.length c] W fun e w' => e = .returned (.int .i64 ck) ∧ Below W.heap.size W w' by rw [← hck, ← e]; exact scheck_any A c ds W h))
    rw [hck]
    clear hck
    go_enter Try.func12, Try.ntmps12
    go_wp2_with fail
    refine HNEW.out.mono ?_
    rintro e w1 ⟨g, rfl, hwg, hc1, hb1⟩
    rw [HN.out] at hwg hc1 hb1
    have hn1 := hb1.size
    rw [HN.out] at hn1
    have hgl := hc1.lt
    obtain ⟨w2, hw2⟩ : ∃ w2, w1.alloc (.cells #[.pointer (some ⟨g, 0, none⟩)] 58) = w2 := ⟨_, rfl⟩
    have b2 : Below w1.heap.size w1 w2 := by rw [← hw2]; exact (Below.refl _ _).alloc (Nat.le_refl _) _
    have s2 : w2.heap.size = w1.heap.size + 1 := by rw [← hw2]; simp
    have h2 : Held w2 w1.heap.size 58 #[.pointer (some ⟨g, 0, none⟩)] := by rw [← hw2]; exact heap_alloc_new w1 _
    have HBX2 := Lib.hid h2
    have HC2 := Lib.hid (HPR.out g (w1.heap.size + 1) w2 (hc1.below b2 hwg) hwg (by omega))
    have HB2 := Lib.hid (hb1.trans (b2.mono hn1))
    have hbox2 := h2.cell 0
    simp at hbox2
    clear h2 b2 hc1 hb1
    go_wp2_with fail
    refine HC2.out.mono ?_
    rintro e w3 ⟨⟨A3, c3, es, rfl, ho3, he3⟩, hc3, hg3⟩
    have hbx3 := HBX2.out.grown hg3 (fun e => by injection e with e; omega)
    have hbox3 := hbx3.cell 0
    simp at hbox3
    have HBX3 := Lib.hid hbx3
    have HB3 := Lib.hid (HB2.out.grown hg3 (by omega) (fun j e => by injection e with e; omega))
    have HD := Lib.hid (HDN.out g w3 hc3 hwg)
    have HO3 := Lib.hid ho3
    have HES := Lib.hid he3
    clear hbox2 hbx3 hc3 hg3 ho3 he3
    go_wp2_with fail
    refine HD.out.mono ?_
    rintro e w4 ⟨rfl, hc4, hg4⟩
    have hbx4 := HBX3.out.grown hg4 (fun e => by injection e with e; omega)
    have hbox4 := hbx4.cell 0
    simp at hbox4
    have hb4 := HB3.out.grown hg4 (by have := HB3.out.size; rw [HN.out] at this; exact this) (fun j e => by injection e with e; omega)
    have ho4 := HO3.out.kept hg4 (by omega)
    have hs4 := hbx4.lt
    have HB4 := Lib.hid hb4
    have HC4 := Lib.hid hc4
    have HO4 := Lib.hid ho4
    have HBX4 := Lib.hid hbx4
    have HKEEP := Lib.hid (fun (W : World) (h : Below w4.heap.size w4 W) => (show W.cell? ⟨w1.heap.size, 0, none⟩ = some (.pointer (some ⟨g, 0, none⟩)) from by have e := (hbx4.below h (by omega)).cell 0; simpa using e))
    have HCK4 := Lib.hid (fun (W : World) (h : Below w4.heap.size w4 W) => HCK.out A3 c3 es W ((ho4.below h).fresh).1 HES.out)
    clear hbox3 hc4 hg4 hb4 ho4 hbx4
    go_wp2_with fail
    go_region_held3 (fun W => W.cell? ⟨w1.heap.size, 0, none⟩ = some (.pointer (some ⟨g, 0, none⟩)))
      (first | exact HKEEP.out _ (Below.refl _ _) | exact HKEEP.out _ (Below.refl _ _).drew | exact HKEEP.out _ b5 | exact hbox6)
      (first
        | (go_at_call 16; (with_reducible refine (HCK4.out _ (by first | exact Below.refl _ _ | exact (Below.refl _ _).drew)).mono ?_); rintro r w5 ⟨rfl, hb5⟩; have b5 : Below w4.heap.size w4 w5 := (Below.refl _ _).drew.trans hb5)
        | (go_at_call 27; (with_reducible refine (stop_any ck (HC4.out.below b5 hwg)).mono ?_); rintro r w6 ⟨rfl, hc6, hg6⟩; have hbx6 := (HBX4.out.below b5 hs4).grown hg6 (fun e => by injection e with e; omega); have hbox6 : w6.cell? ⟨w1.heap.size, 0, none⟩ = some (.pointer (some ⟨g, 0, none⟩)) := by { have e := hbx6.cell 0; simpa using e }))
    rw [stopI_zero] at hc6
    have HE := Lib.hid (err_any hc6)
    have HO6 := Lib.hid ((HO4.out.below b5).kept hg6 (by omega))
    have HB6 := Lib.hid ((HB4.out.trans (b5.mono (by have := HB4.out.size; rw [HN.out] at this; exact this))).grown hg6 (by have := (HB4.out.trans (b5.mono (by have := HB4.out.size; rw [HN.out] at this; exact this))).size; rw [HN.out] at this; exact this) (fun j e => by injection e with e; omega))
    by_cases hz : ck = 0
    · subst hz
      go_wp2_with fail
      refine HE.out.mono ?_
      rintro e w7 ⟨rfl, rfl⟩
      go_wp2_with fail
      go_ret2
      exact ⟨⟨A3, c3, es, rfl, HO6.out.base (by omega), HES.out⟩, HB6.out⟩
    · have hne : (ck != 0) = true := bne_iff_ne.2 hz
      have HZ := Lib.hid hz
      clear hz
      go_wp2_with fail
      refine HE.out.mono ?_
      rintro e w7 ⟨rfl, rfl⟩
      go_wp2_with fail
      go_ret2
      exact ⟨sig_bad rfl rfl, HB6.out⟩
#print axioms bsget_any
end Go.Proofs.Ytnjhkjlekepjoaa
