/-
  unblock.Get: the points of a payload, or why there are none.
-/
import Derived.Test.YtfknibjejnmghaaUnblockPoints
import Derived.Test.YtfknibjejnmghaaBlockCode
import Derived.Test.YtfknibjejnmghaaCurDone
import Derived.Test.YtfknibjejnmghaaPlainUnblock
import Derived.Deep.RegionHeld3
namespace Go.Proofs.Ytfknibjejnmghaa
open Go.RowKit
set_option linter.unusedVariables false

set_option maxRecDepth 100000 in
theorem uequal_any (A B : Option Addr) (c d : Nat) (xs ys : List Int) (hx : ∀ x ∈ xs, 0 ≤ x ∧ x < 256) (hy : ∀ y ∈ ys, 0 ≤ y ∧ y < 256) (w : World) (h1 : Row w w.heap.size (.slice A xs.length c) xs) (h2 : Row w w.heap.size (.slice B ys.length d) ys) :
    Calls Try.prog 86 #[.slice A xs.length c, .slice B ys.length d] w fun e w' => e = .returned (.bool (decide (xs = ys))) ∧ w = w' := by
  have hc1 := h1.convert (P := Try.prog) 46 5 9 Try.underlying46 Try.underlying5 Try.underlying9
  have hc2 := h2.convert (P := Try.prog) 46 5 9 Try.underlying46 Try.underlying5 Try.underlying9
  have he : ((strOfNums xs).toList == (strOfNums ys).toList) = decide (xs = ys) := by
    by_cases h : xs = ys
    · subst h
      simp
    · rw [decide_eq_false h]
      refine beq_eq_false_iff_ne.2 fun e => h (str_inj hx hy ?_)
      rw [Lib.toList_data, Lib.toList_data] at e
      exact ByteArray.ext (Array.toList_inj.1 e)
  generalize decide (xs = ys) = b at he ⊢
  generalize strOfNums xs = s at hc1 he
  generalize strOfNums ys = t at hc2 he
  generalize xs.length = m at hc1 ⊢
  generalize ys.length = k at hc2 ⊢
  clear h1 h2
  go_enter Try.func86, Try.ntmps86
  go_wp2_with fail
  go_ret
  exact ⟨rfl, rfl⟩

set_option maxRecDepth 100000 in
set_option maxHeartbeats 2000000 in
theorem uway_any (A : Option Addr) (c : Nat) (ds : List Pd) (T : Option Addr) (ct : Nat) (ps : List Pm) (B : Option Addr) (cb : Nat) (xs : List Int) (hb : ∀ x ∈ xs, 0 ≤ x ∧ x < 256) (w : World) (hrow : PredRow w w.heap.size (.slice A ds.length c) ds) (ht : TrRow w w.heap.size (.slice T ps.length ct) ps) (hx : Row w w.heap.size (.slice B xs.length cb) xs) :
    Calls Try.prog 48 #[.slice A ds.length c, .slice T ps.length ct, .slice B xs.length cb] w fun e w' => e = .returned (.int .i64 (wayU (ds.map (·.p)) xs (ps.map (·.p)))) ∧ Below w.heap.size w w' := by
  have HPU := blput_any A c ds T ct ps w hrow ht
  have hpb : ∀ y ∈ (putB (ds.map (·.p)) ps).1, 0 ≤ y ∧ y < 256 := fun y hy => by
    unfold putB at hy
    split at hy
    · rename_i h0
      split at hy
      · simp at hy
      · exact payB_bytes (ht.bok h0) y hy
    · simp at hy
  unfold wayU
  rw [putB_plain]
  obtain ⟨hsc1, hsc2⟩ : xs.length ≤ cb ∧ cb ≤ 9223372036854775807 := by
    obtain ⟨A', c', hv, q1, q2, _⟩ := id hx
    injection hv with _ _ e3
    unfold maxLen at q2
    exact ⟨by omega, by omega⟩
  by_cases h4 : 4096 < xs.length
  · rw [if_pos h4]
    have h4i : (4096 : Int) < (xs.length : Int) := by omega
    generalize xs.length = m at *
    clear HPU hpb hrow ht hx hb h4
    go_enter Try.func48, Try.ntmps48
    go_wp2_with fail
    go_ret
    exact ⟨rfl, Below.refl _ _⟩
  · rw [if_neg h4]
    have h4i : ¬ (4096 : Int) < (xs.length : Int) := by omega
    unfold BGot at HPU
    generalize putB (ds.map (·.p)) ps = R at HPU hpb ⊢
    obtain ⟨Y, k⟩ := R
    dsimp only at HPU hpb
    have HP := Lib.hid HPU
    have HX := Lib.hid hx
    have HB := Lib.hid hb
    have HY := Lib.hid hpb
    obtain ⟨m, hm⟩ : ∃ m, xs.length = m := ⟨_, rfl⟩
    have HM := Lib.hid hm
    rw [hm] at h4i hsc1 ⊢
    clear HPU hpb hrow ht hx hb h4 hm
    by_cases hk : k = 0
    · subst hk
      have heq := fun (W : World) (A1 : Option Addr) (c1 : Nat) (h1 : Row W W.heap.size (.slice A1 Y.length c1) Y) (h2 : Row W W.heap.size (.slice B xs.length cb) xs) => uequal_any A1 B c1 cb Y xs HY.out HB.out W h1 h2
      rw [HM.out] at heq
      rw [HM.out] at HX
      by_cases he : Y = xs
      · rw [decide_eq_true he] at heq
        rw [if_pos (by rw [he])]
        have HEQ := Lib.hid heq
        clear heq he
        go_enter Try.func48, Try.ntmps48
        go_wp2_with fail
        refine HP.out.mono ?_
        rintro e w1 ⟨A1, c1, rfl, hown, hb1⟩
        have HE1 := Lib.hid (HEQ.out w1 A1 c1 (Row.of_own hown) ((HX.out.below hb1).more hb1.size))
        have HB1 := Lib.hid hb1
        clear hown hb1
        go_wp2_with fail
        refine HE1.out.mono ?_
        rintro e w2 ⟨rfl, rfl⟩
        go_wp2_with fail
        go_ret
        exact ⟨rfl, HB1.out⟩
      · rw [decide_eq_false he] at heq
        rw [if_neg (fun q => he (by injection q))]
        have HEQ := Lib.hid heq
        clear heq he
        go_enter Try.func48, Try.ntmps48
        go_wp2_with fail
        refine HP.out.mono ?_
        rintro e w1 ⟨A1, c1, rfl, hown, hb1⟩
        have HE1 := Lib.hid (HEQ.out w1 A1 c1 (Row.of_own hown) ((HX.out.below hb1).more hb1.size))
        have HB1 := Lib.hid hb1
        clear hown hb1
        go_wp2_with fail
        refine HE1.out.mono ?_
        rintro e w2 ⟨rfl, rfl⟩
        go_wp2_with fail
        go_ret
        exact ⟨rfl, HB1.out⟩
    · have hne : (k != 0) = true := bne_iff_ne.2 hk
      rw [if_neg (fun q => hk (by injection q))]
      clear hk
      go_enter Try.func48, Try.ntmps48
      go_wp2_with fail
      refine HP.out.mono ?_
      rintro e w1 ⟨A1, c1, rfl, hown, hb1⟩
      have HB1 := Lib.hid hb1
      clear hown hb1
      go_wp2_with fail
      go_ret
      exact ⟨rfl, HB1.out⟩
#print axioms uway_any

/-- Points that were read, or why none were. -/
def UGot (w : World) (R : List Pn × Int) (r : Ending) (w' : World) : Prop :=
  ∃ A c ps, r = .returned (.tuple #[.slice A ps.length c, .int .i64 R.2]) ∧ OwnT w' w.heap.size (.slice A ps.length c) ps ∧ ps.map (·.p) = R.1 ∧ Below w.heap.size w w'
theorem ugot_none {w w' : World} {R : List Pn × Int} {k : Int} {r : Ending} (hR : R = ([], k)) (h : r = .returned (.tuple #[.slice none 0 0, .int .i64 k])) (hb : Below w.heap.size w w') : UGot w R r w' := by
  subst hR
  exact ⟨none, 0, [], h, OwnT.nil _ _, rfl, hb⟩

set_option maxRecDepth 100000 in
set_option maxHeartbeats 4000000 in
theorem uget_any (A : Option Addr) (c : Nat) (ds : List Pd) (B : Option Addr) (cb : Nat) (xs : List Int) (hb : ∀ x ∈ xs, 0 ≤ x ∧ x < 256) (hl : xs.length ≤ 1000000000) (w : World) (hrow : PredRow w w.heap.size (.slice A ds.length c) ds) (hx : Row w w.heap.size (.slice B xs.length cb) xs) :
    Calls Try.prog 24 #[.slice A ds.length c, .slice B xs.length cb] w (UGot w (getU (ds.map (·.p)) xs)) := by
  have hck := scheck_any A c ds w hrow
  unfold getU
  by_cases h0 : checkP (ds.map (·.p)) ≠ 0
  · rw [if_pos h0]
    have hne : (checkP (ds.map (·.p)) != 0) = true := bne_iff_ne.2 h0
    generalize checkP (ds.map (·.p)) = k at hck hne ⊢
    have HCK := Lib.hid hck
    clear hck h0 hrow hx hb hl
    go_enter Try.func24, Try.ntmps24
    go_wp2_with fail
    refine HCK.out.mono ?_
    rintro e w1 ⟨rfl, hb1⟩
    go_wp2_with fail
    go_ret2
    exact ugot_none rfl rfl hb1
  · rw [if_neg h0]
    have h0 : checkP (ds.map (·.p)) = 0 := by simpa using h0
    rw [h0] at hck
    have hss : ∀ q ∈ ds.map (·.p), ∀ t ∈ q.args, -9223372036854775808 ≤ t ∧ t ≤ 9223372036854775807 := fun q hq => by
      obtain ⟨d, hd, rfl⟩ := List.mem_map.1 hq
      obtain ⟨A', c', hv, h1, h2, h3, h4, h5⟩ := hrow
      exact (h5 d hd).2.2.2
    have hle := readU_le hb hss
    have HCK := Lib.hid hck
    have HROW := Lib.hid hrow
    have HX := Lib.hid hx
    have HNEW := Lib.hid (fun (W : World) (hb : Below w.heap.size w W) => new_any B cb xs (by omega) W ((hx.below hb).more hb.size))
    have HPT := Lib.hid (fun (W : World) (K g G : Nat) (h : Cur 137 W K g xs 0 0) (hK : K ≤ g) (hh : Held W G 92 #[.pointer (some ⟨g, 0, none⟩), .slice A ds.length c, .slice none 0 0]) (hgG : g < G) (hs : PredRow W K (.slice A ds.length c) ds) => upoints_any A c h hK hb hh hgG hs h0)
    have HWY := Lib.hid (fun (W : World) (T : Option Addr) (ct : Nat) (ps : List Pm) (h1 : Below w.heap.size w W) (ht : TrRow W W.heap.size (.slice T ps.length ct) ps) => uway_any A c ds T ct ps B cb xs hb W ((hrow.below h1).more h1.size) ht ((hx.below h1).more h1.size))
    obtain ⟨N, hN⟩ : ∃ N, w.heap.size = N := ⟨_, rfl⟩
    unfold UGot
    rw [hN] at HNEW HWY HCK ⊢
    unfold endU
    generalize readU (ds.map (·.p)) xs = R at HPT hle ⊢
    obtain ⟨L, tm, pe, ee⟩ := R
    simp only at hle ⊢
    have HSIG := Lib.hid (fun (W : World) (K : Nat) (hb : Below N w W) (hK : N ≤ K) => show PredRow W K (.slice A ds.length c) ds from by rw [← hN] at hb hK; exact (HROW.out.below hb).more hK)
    have HN := Lib.hid hN
    have HLE := Lib.hid hle
    clear hck hrow hx hb hss h0 hle hN
    by_cases hway : ee ≠ 0 ∨ pe < xs.length
    · obtain ⟨d2, hd2, hdn, hres⟩ : ∃ d2 : Int, d2 ≠ 0 ∧ (∀ (p : Nat) (e : Int) (ps : List Pm), e = ee → (e = 0 → p = pe ∧ ps.map (·.p) = L) → doneI xs.length p e = (false, d2)) ∧
          (if (if ee ≠ 0 then ee else if pe < xs.length then 4 else wayU (ds.map (·.p)) xs L) ≠ 0 then (([] : List Pn), (if ee ≠ 0 then ee else if pe < xs.length then 4 else wayU (ds.map (·.p)) xs L)) else (L, 0)) = ([], d2) := by
        by_cases h0 : ee = 0
        · have h1 : pe < xs.length := hway.resolve_left (fun q => q h0)
          refine ⟨4, by decide, fun p e ps he hok => ?_, ?_⟩
          · subst he h0
            obtain ⟨rfl, _⟩ := hok rfl
            simp [doneI, h1]
          · simp [h0, h1]
        · refine ⟨ee, h0, fun p e ps he _ => ?_, ?_⟩
          · subst he
            simp [doneI, h0]
          · simp [h0]
      rw [hres]
      have hne : (d2 != 0) = true := bne_iff_ne.2 hd2
      have HDN := Lib.hid hdn
      clear hres hdn hd2 hway
      go_enter Try.func24, Try.ntmps24
      go_wp2_with fail
      refine HCK.out.mono ?_
      rintro e w1 ⟨rfl, hb1⟩
      have HB1 := Lib.hid hb1
      have hs1 := hb1.size
      rw [HN.out] at hs1
      have HNW := Lib.hid (HNEW.out w1 (by rw [← HN.out] at hb1 ⊢; exact hb1))
      clear hb1
      go_wp2_with fail
      refine HNW.out.mono ?_
      rintro e w2 ⟨g, rfl, hwg, hc2, hb2⟩
      have hs2 := hb2.size
      have hgl := hc2.lt
      obtain ⟨G, hG⟩ : ∃ G, w2.heap.size = G := ⟨_, rfl⟩
      have al := (Below.refl w2.heap.size w2).alloc (Nat.le_refl _) (.cells #[.pointer (some ⟨g, 0, none⟩), .slice A ds.length c, .slice none 0 0] 92)
      have HBA := Lib.hid ((HB1.out.trans (hb2.mono hs1)).trans (al.mono (Nat.le_trans hs1 hs2)))
      have HPT2 := Lib.hid (HPT.out (w2.alloc (.cells #[.pointer (some ⟨g, 0, none⟩), .slice A ds.length c, .slice none 0 0] 92)) w1.heap.size g G (hc2.below al hwg) hwg (by rw [← hG]; exact heap_alloc_new w2 _) (by omega) (HSIG.out _ _ HBA.out hs1))
      have hsa : (w2.alloc (.cells #[.pointer (some ⟨g, 0, none⟩), .slice A ds.length c, .slice none 0 0] 92)).heap.size = G + 1 := by rw [World.size_alloc, hG]
      have HSA := Lib.hid hsa
      have hgG : g < G := by omega
      have HG := Lib.hid hG
      clear hc2 hb2 al hsa
      go_wp2_with fail
      generalize w2.alloc (.cells #[.pointer (some ⟨g, 0, none⟩), .slice A ds.length c, .slice none 0 0] 92) = wa at HPT2 HBA HSA ⊢
      refine HPT2.out.mono ?_
      rintro e w3 ⟨A3, c3, ps, p, e, vt, rfl, ho3, hc3, hp3, he, hok, hh3, hb3⟩
      have hbox3 := hh3.cell 0
      simp at hbox3
      have HH3 := Lib.hid hh3
      rw [HSA.out] at ho3
      have HO3 := Lib.hid ho3
      have HB3 := Lib.hid (HBA.out.trans (hb3.mono hs1))
      have HD := Lib.hid (done_any hc3 hp3 hwg)
      have HGB := Lib.hid hh3.lt
      clear hh3 ho3 hc3 hb3 hgl hG hs2
      rw [HDN.out p e ps he hok] at HD
      go_wp2_with fail
      refine HD.out.mono ?_
      rintro e w4 ⟨rfl, hc4, hg4⟩
      have hbox4 := (HH3.out.grown hg4 (fun e => by injection e with e; omega)).cell 0
      simp at hbox4
      have HB4 := Lib.hid (HB3.out.grown hg4 (by have := HB3.out.size; rw [HN.out] at this; exact this) (fun j e => by injection e with e; omega))
      have HE := Lib.hid (err_any hc4)
      clear hbox3 hc4 hg4
      go_wp2_with fail
      refine HE.out.mono ?_
      rintro e w5 ⟨rfl, rfl⟩
      go_wp2_with fail
      go_ret2
      exact ⟨none, 0, [], rfl, OwnT.nil _ _, rfl, HB4.out⟩
    · have he0 : ee = 0 := Classical.byContradiction fun q => hway (.inl q)
      have hpl : ¬ pe < xs.length := fun q => hway (.inr q)
      subst he0
      rw [show (if (0 : Int) ≠ 0 then (0 : Int) else if pe < xs.length then 4 else wayU (ds.map (·.p)) xs L) = wayU (ds.map (·.p)) xs L by rw [if_neg (by simp), if_neg hpl]]
      obtain ⟨wk, hwk⟩ : ∃ wk, wayU (ds.map (·.p)) xs L = wk := ⟨_, rfl⟩
      rw [hwk]
      have HWK := Lib.hid hwk
      have hdn : ∀ (p : Nat) (e : Int) (ps : List Pm), e = 0 → (e = 0 → p = pe ∧ ps.map (·.p) = L) → doneI xs.length p e = (true, 0) := fun p e ps he hok => by
        subst he
        obtain ⟨rfl, _⟩ := hok rfl
        simp [doneI, hpl]
      have HDN := Lib.hid hdn
      clear hdn hway hwk
      have hbr : (if wk ≠ 0 then (([] : List Pn), wk) else (L, 0)) = (if wk = 0 then L else [], wk) := by
        by_cases q : wk = 0
        · subst q; simp
        · simp [q]
      rw [hbr]
      clear hbr
      go_enter Try.func24, Try.ntmps24
      go_wp2_with fail
      refine HCK.out.mono ?_
      rintro e w1 ⟨rfl, hb1⟩
      have HB1 := Lib.hid hb1
      have hs1 := hb1.size
      rw [HN.out] at hs1
      have HNW := Lib.hid (HNEW.out w1 (by rw [← HN.out] at hb1 ⊢; exact hb1))
      clear hb1
      go_wp2_with fail
      refine HNW.out.mono ?_
      rintro e w2 ⟨g, rfl, hwg, hc2, hb2⟩
      have hs2 := hb2.size
      have hgl := hc2.lt
      obtain ⟨G, hG⟩ : ∃ G, w2.heap.size = G := ⟨_, rfl⟩
      have al := (Below.refl w2.heap.size w2).alloc (Nat.le_refl _) (.cells #[.pointer (some ⟨g, 0, none⟩), .slice A ds.length c, .slice none 0 0] 92)
      have HBA := Lib.hid ((HB1.out.trans (hb2.mono hs1)).trans (al.mono (Nat.le_trans hs1 hs2)))
      have HPT2 := Lib.hid (HPT.out (w2.alloc (.cells #[.pointer (some ⟨g, 0, none⟩), .slice A ds.length c, .slice none 0 0] 92)) w1.heap.size g G (hc2.below al hwg) hwg (by rw [← hG]; exact heap_alloc_new w2 _) (by omega) (HSIG.out _ _ HBA.out hs1))
      have hsa : (w2.alloc (.cells #[.pointer (some ⟨g, 0, none⟩), .slice A ds.length c, .slice none 0 0] 92)).heap.size = G + 1 := by rw [World.size_alloc, hG]
      have HSA := Lib.hid hsa
      have hgG : g < G := by omega
      have HG := Lib.hid hG
      clear hc2 hb2 al hsa
      go_wp2_with fail
      generalize w2.alloc (.cells #[.pointer (some ⟨g, 0, none⟩), .slice A ds.length c, .slice none 0 0] 92) = wa at HPT2 HBA HSA ⊢
      refine HPT2.out.mono ?_
      rintro e w3 ⟨A3, c3, ps, p, e, vt, rfl, ho3, hc3, hp3, he, hok, hh3, hb3⟩
      have hbox3 := hh3.cell 0
      simp at hbox3
      have HH3 := Lib.hid hh3
      rw [HSA.out] at ho3
      have HO3 := Lib.hid ho3
      have HB3 := Lib.hid (HBA.out.trans (hb3.mono hs1))
      have HD := Lib.hid (done_any hc3 hp3 hwg)
      have HGB := Lib.hid hh3.lt
      clear hh3 ho3 hc3 hb3 hgl hG hs2
      rw [HDN.out p e ps he hok] at HD
      have hpl2 := (hok he).2
      subst he
      have HLL := Lib.hid hpl2
      go_wp2_with fail
      refine HD.out.mono ?_
      rintro e w4 ⟨rfl, hc4, hg4⟩
      have hbx4 := HH3.out.grown hg4 (fun e => by injection e with e; omega)
      have hbox4 := hbx4.cell 0
      simp at hbox4
      have hn3 := HB3.out.size
      rw [HN.out] at hn3
      have hb4 := HB3.out.grown hg4 hn3 (fun j e => by injection e with e; omega)
      have hn4 := hb4.size
      rw [HN.out] at hn4
      have ho4 := HO3.out.kept hg4 (by omega)
      have HB4 := Lib.hid hb4
      have HC4 := Lib.hid hc4
      have HO4 := Lib.hid ho4
      have HBX4 := Lib.hid hbx4
      have hs4 := hbx4.lt
      have HKEEP := Lib.hid (fun (W : World) (h : Below w4.heap.size w4 W) => (show W.cell? ⟨G, 0, none⟩ = some (.pointer (some ⟨g, 0, none⟩)) from by have e := (hbx4.below h hs4).cell 0; simpa using e))
      have HWY4 := Lib.hid (fun (W : World) (h : Below w4.heap.size w4 W) => (show Calls Try.prog 48 #[.slice A ds.length c, .slice A3 ps.length c3, .slice B xs.length cb] W fun e w' => e = .returned (.int .i64 wk) ∧ Below W.heap.size W w' by
        have := HWY.out W A3 c3 ps (hb4.trans (h.mono hn4)) ((ho4.below h).row)
        rw [hpl2, HWK.out] at this
        exact this))
      clear hbox3 hc4 hg4 hb4 ho4 hbx4 hpl2
      go_wp2_with fail
      go_region_held3 (fun W => W.cell? ⟨G, 0, none⟩ = some (.pointer (some ⟨g, 0, none⟩)))
        (first | exact HKEEP.out _ (Below.refl _ _) | exact HKEEP.out _ (Below.refl _ _).drew | exact HKEEP.out _ b5 | exact hbox6)
        (first
          | (go_at_call 48; (with_reducible refine (HWY4.out _ (by first | exact Below.refl _ _ | exact (Below.refl _ _).drew)).mono ?_); rintro r w5 ⟨rfl, hb5⟩; have b5 : Below w4.heap.size w4 w5 := (Below.refl _ _).drew.trans hb5)
          | (go_at_call 47; (with_reducible refine (stop_any wk (HC4.out.below b5 hwg)).mono ?_); rintro r w6 ⟨rfl, hc6, hg6⟩; have hbx6 := (HBX4.out.below b5 hs4).grown hg6 (fun e => by injection e with e; omega); have hbox6 : w6.cell? ⟨G, 0, none⟩ = some (.pointer (some ⟨g, 0, none⟩)) := by { have e := hbx6.cell 0; simpa using e }))
      rw [stopI_zero] at hc6
      have HE := Lib.hid (err_any hc6)
      have HO6 := Lib.hid ((HO4.out.below b5).kept hg6 (by omega))
      have HB6 := Lib.hid ((HB4.out.trans (b5.mono hn4)).grown hg6 (by have := b5.size; omega) (fun j e => by injection e with e; omega))
      by_cases hz : wk = 0
      · subst hz
        go_wp2_with fail
        refine HE.out.mono ?_
        rintro e w7 ⟨rfl, rfl⟩
        go_wp2_with fail
        go_ret2
        exact ⟨A3, c3, ps, rfl, HO6.out.base (by omega), HLL.out, HB6.out⟩
      · have hne : (wk != 0) = true := bne_iff_ne.2 hz
        have HZ := Lib.hid hz
        clear hz
        go_wp2_with fail
        refine HE.out.mono ?_
        rintro e w7 ⟨rfl, rfl⟩
        go_wp2_with fail
        go_ret2
        exact ⟨none, 0, [], rfl, OwnT.nil _ _, rfl, HB6.out⟩
#print axioms uget_any
end Go.Proofs.Ytfknibjejnmghaa
