/-
  What sig.Clone answers.
-/
import Derived.Test.YtfbpgkohekfkjaaSigRows
import Derived.Test.YtfbpgkohekfkjaaSigSameCode
namespace Go.Proofs.Ytfbpgkohekfkjaa
open Go.RowKit

theorem Try.infoIntB : (Try.prog.info? 3).map (fun i => (i.zero, i.size, i.bytes)) = some (some (.int .i64 0), 1, 8) := by kernel_rfl
theorem Try.infoPred : (Try.prog.info? 37).map (fun i => (i.zero, i.size, i.bytes)) = some (some (.agg #[.string ⟨#[]⟩, .slice none 0 0]), 2, 40) := by kernel_rfl

set_option maxRecDepth 100000 in
set_option maxHeartbeats 2000000 in
theorem sclone_any : CloneC := by
  intro A c ds w hrow hlen hargs
  obtain ⟨i0, hi, hz0, hz1, hz2⟩ := info_parts Try.infoIntB
  obtain ⟨i1, hi1, hy0, hy1, hy2⟩ := info_parts Try.infoPred
  obtain ⟨_, hc1, hc2⟩ : ∃ _ : True, ds.length ≤ c ∧ c ≤ 9223372036854775807 := by
    obtain ⟨A', c', hv, q1, q2⟩ := hrow.form
    injection hv with _ _ e3
    exact ⟨trivial, by omega, by omega⟩
  have HROW := Lib.hid hrow
  have HAR := Lib.hid hargs
  clear hrow hargs
  obtain ⟨n, hn⟩ : ∃ n, w.heap.size = n := ⟨_, rfl⟩
  rw [hn] at HROW ⊢
  have HN := Lib.hid hn
  clear hn
  go_enter Try.func14, Try.ntmps14
  go_wp2_with fail
  go_loopg [8, 3] ds.length (fun gk i v wr => ∃ (k : Nat) (A1 : Option Addr) (cc : Nat) (es : List Pd), k ≤ ds.length ∧ i = .int .i64 k ∧ v = .slice A1 es.length cc ∧ Hid (ds.length - k = gk) ∧ Hid (OwnP wr n (.slice A1 es.length cc) es) ∧ Hid (es.map (·.p) = (ds.take k).map (·.p)) ∧ Hid (Below n w wr))
  case atStart => exact ⟨0, none, 0, [], Nat.zero_le _, rfl, rfl, Lib.hid rfl, Lib.hid (OwnP.nil _ _), Lib.hid rfl, Lib.hid (Below.refl _ _)⟩
  case round =>
    obtain ⟨k, A1, cc, es, hk, rfl, rfl, HGK, HOW, HES, HBR⟩ := hrel
    by_cases hlt : k < ds.length
    · obtain ⟨d, hd⟩ : ∃ d, ds[k]? = some d := ⟨_, List.getElem?_eq_getElem hlt⟩
      have HTK := Lib.hid (show (ds.take (k + 1)).map (·.p) = (ds.take k).map (·.p) ++ [d.p] by rw [List.take_add_one, hd, List.map_append]; rfl)
      have HEL := Lib.hid (show es.length = k by have := congrArg List.length HES.out; simp at this; omega)
      obtain ⟨b, o, rfl, hb, x0, x1, hir, hfit, ha1, ha2⟩ := (HROW.out.below HBR.out).at hd
      have hda := HAR.out d (List.mem_of_getElem? hd)
      have hnw : n ≤ wr.heap.size := by rw [← HN.out]; exact HBR.out.size
      obtain ⟨⟨nm, ts⟩, dA, dc⟩ := d
      simp only at x0 x1 hir hfit ha1 ha2 hda
      obtain ⟨w1, hw1⟩ : ∃ w1, wr.alloc (.cells #[.string (strOfNums nm), .slice dA ts.length dc] 37) = w1 := ⟨_, rfl⟩
      have s1 : w1.heap.size = wr.heap.size + 1 := by rw [← hw1]; simp
      have b1 : Below wr.heap.size wr w1 := by rw [← hw1]; exact (Below.refl _ _).alloc (Nat.le_refl _) _
      have h1 : Held w1 wr.heap.size 37 #[.string (strOfNums nm), .slice dA ts.length dc] := by rw [← hw1]; exact heap_alloc_new wr _
      have HP1 := Lib.hid h1
      have HO1 := Lib.hid (HOW.out.below b1)
      have HB1 := Lib.hid (HBR.out.trans (b1.mono hnw))
      have HIB := Lib.hid (fun W (h : Below w1.heap.size w1 W) => hir.below ((b1.trans (h.mono (by omega))).mono hnw))
      have HFT := Lib.hid hfit
      have hall : ∀ W, Below w1.heap.size w1 W → W.cell? ⟨wr.heap.size, 0, none⟩ = some (.string (strOfNums nm)) ∧ W.cell? ⟨wr.heap.size, 1, none⟩ = some (.slice dA ts.length dc) := fun W h => by
        have g1 := h1.below h (by omega)
        have e0 := g1.cell 0
        have e1 := g1.cell 1
        exact ⟨by simpa using e0, by simpa using e1⟩
      have HALL := Lib.hid hall
      have HNE := Lib.hid (show some wr.heap.size ≠ (Value.slice A1 es.length cc).ownBlock from fun e => by have := (World.ownsRow.lt HOW.out.1 _ e.symm).2; omega)
      clear h1 b1 hir hfit hd hall
      go_wp2_with fail
      go_region_held3 (fun W => W.cell? ⟨wr.heap.size, 0, none⟩ = some (.string (strOfNums nm)) ∧ W.cell? ⟨wr.heap.size, 1, none⟩ = some (.slice dA ts.length dc))
        (first | exact HALL.out _ (Below.refl _ _) | exact HALL.out _ (Below.refl _ _).drew | exact HALL.out _ b2 | exact HALL.out _ (b2.alloc b2.size _) | exact ⟨(hg4.cell_far ⟨wr.heap.size, 0, none⟩ (by have := b2.size; simp; omega) HNE.out).trans (HALL.out _ (b2.alloc b2.size _)).1, (hg4.cell_far ⟨wr.heap.size, 1, none⟩ (by have := b2.size; simp; omega) HNE.out).trans (HALL.out _ (b2.alloc b2.size _)).2⟩)
        (first
          | (refine step_append_ints (by rfl) (.const (.slice none 0 0)) (.tmp 16) 35 (by rfl) n i0 _ Try.underlying35 hi hz0 hz1 hz2 rfl rfl n _ ts (by rfl) (HIB.out _ (by first | exact Below.refl _ _ | exact (Below.refl _ _).drew)) hda (by (try simp) <;> omega) ts.length rfl ?_; intro dA2 dc2 w2 hOA hb2; have b2 : Below w1.heap.size w1 w2 := (Below.refl _ _).drew.trans hb2)
          | (refine step_append_pred (by rfl) (.tmp 12) (.tmp 19) 22 (by rfl) i1 _ Try.underlying22 hi1 hy0 hy1 hy2 rfl n (.slice A1 es.length cc) es (by rfl) ((HO1.out.below b2).below ((Below.refl _ _).alloc (Nat.le_refl _) _)) ⟨w2.heap.size, 0, none⟩ 1 ⟨⟨nm, ts⟩, dA2, dc2⟩ (by rfl) (by go_simp) (by go_simp) (World.ownsRow.alloc hOA _) HFT.out (by have := HEL.out; omega) (by have := b2.size; simp; omega) ?_; intro v4 w4 hO4 hg4))
      have hlow : ∀ j, (Value.slice A1 es.length cc).ownBlock = some j → n ≤ j := fun j e => (World.ownsRow.lt HOW.out.1 j e).1
      have b3 := (HB1.out.trans (b2.mono (by omega))).alloc (Nat.le_trans hnw (by have := b2.size; omega)) (.cells #[.string (strOfNums nm), .slice dA2 ts.length dc2] 37)
      have b4 : Below n w w4 := b3.grown hg4 (by have := b2.size; simp; omega) hlow
      obtain ⟨A4, c4, ev, _, _⟩ := hO4.form
      have HO4 := Lib.hid hO4
      have HB4 := Lib.hid b4
      have HES4 := Lib.hid (show (es ++ [(⟨⟨nm, ts⟩, dA2, dc2⟩ : Pd)]).map (·.p) = (ds.take (k + 1)).map (·.p) by rw [HTK.out, List.map_append, HES.out]; rfl)
      subst ev
      clear hOA hb2 b2 hO4 hg4 hlow b3 b4 hw1 s1 x0 x1
      generalize es ++ [(⟨⟨nm, ts⟩, dA2, dc2⟩ : Pd)] = es4 at HO4 HES4 ⊢
      go_wp2_with fail
      go_roundg (ds.length - (k + 1))
      case measure => have := HGK.out; omega
      case rel => exact ⟨k + 1, A4, c4, es4, by omega, by go_num, rfl, Lib.hid rfl, HO4, HES4, HB4⟩
    · obtain rfl : k = ds.length := by omega
      go_wp2_with fail
      go_ret
      exact ⟨A1, cc, es, rfl, HOW.out.fresh, by rw [HES.out, List.take_length], HBR.out⟩
#print axioms sclone_any
end Go.Proofs.Ytfbpgkohekfkjaa
