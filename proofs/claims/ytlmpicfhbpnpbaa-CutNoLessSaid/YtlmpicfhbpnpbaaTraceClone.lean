/-
  What trace.Clone answers: the same trace, in memory of its own.
-/
import Derived.Test.YtlmpicfhbpnpbaaTraceCloneEv
import Derived.Test.YtlmpicfhbpnpbaaTraceIn
import Derived.Deep.RegionHeld3
namespace Go.Proofs.Ytlmpicfhbpnpbaa
open Go.RowKit

set_option maxRecDepth 100000 in
set_option maxHeartbeats 2000000 in
theorem tclone_any (A : Option Addr) (c : Nat) (ps : List Pm) (w : World) (hrow : TrRow w w.heap.size (.slice A ps.length c) ps) (hfit : TrFit ps) :
    Calls Try.prog 44 #[.slice A ps.length c] w fun e w' => ∃ A' c' es, e = .returned (.slice A' es.length c') ∧ OwnT w' w.heap.size (.slice A' es.length c') es ∧ es.map (·.p) = ps.map (·.p) ∧ Below w.heap.size w w' := by
  obtain ⟨i1, hi1, hy0, hy1, hy2⟩ := info_parts Try.infoPoint
  obtain ⟨-, hc1, hc2⟩ := hrow.1.len
  obtain ⟨hl1, hl2⟩ := hfit
  have HROW := Lib.hid hrow
  have HFT := Lib.hid hl2
  clear hrow hl2
  obtain ⟨n, hn⟩ : ∃ n, w.heap.size = n := ⟨_, rfl⟩
  rw [hn] at HROW ⊢
  have HN := Lib.hid hn
  clear hn
  go_enter Try.func44, Try.ntmps44
  go_wp2_with fail
  go_loopg [8, 3] ps.length (fun gk i v wr => ∃ (k : Nat) (A1 : Option Addr) (cc : Nat) (es : List Pm), k ≤ ps.length ∧ i = .int .i64 k ∧ v = .slice A1 es.length cc ∧ Hid (ps.length - k = gk) ∧ Hid (OwnT wr n (.slice A1 es.length cc) es) ∧ Hid (es.map (·.p) = (ps.take k).map (·.p)) ∧ Hid (Below n w wr))
  case atStart => exact ⟨0, none, 0, [], Nat.zero_le _, rfl, rfl, Lib.hid rfl, Lib.hid (OwnT.nil _ _), Lib.hid rfl, Lib.hid (Below.refl _ _)⟩
  case round =>
    obtain ⟨k, A1, cc, es, hk, rfl, rfl, HGK, HOW, HES, HBR⟩ := hrel
    by_cases hlt : k < ps.length
    · obtain ⟨d, hd⟩ : ∃ d, ps[k]? = some d := ⟨_, List.getElem?_eq_getElem hlt⟩
      have HTK := Lib.hid (show (ps.take (k + 1)).map (·.p) = (ps.take k).map (·.p) ++ [d.p] by rw [List.take_add_one, hd, List.map_append]; rfl)
      have HEL := Lib.hid (show es.length = k by have := congrArg List.length HES.out; simp at this; omega)
      obtain ⟨b, o, rfl, hb, x0, x1, hok, ha1, ha2⟩ := (HROW.out.below HBR.out).at hd
      have hda := HFT.out d (List.mem_of_getElem? hd)
      have hnw : n ≤ wr.heap.size := by rw [← HN.out]; exact HBR.out.size
      obtain ⟨w1, hw1⟩ : ∃ w1, wr.alloc (.cells #[.int .u64 d.tm, .slice d.A d.evs.length d.c] 39) = w1 := ⟨_, rfl⟩
      have s1 : w1.heap.size = wr.heap.size + 1 := by rw [← hw1]; simp
      have b1 : Below wr.heap.size wr w1 := by rw [← hw1]; exact (Below.refl _ _).alloc (Nat.le_refl _) _
      have h1 : Held w1 wr.heap.size 39 #[.int .u64 d.tm, .slice d.A d.evs.length d.c] := by rw [← hw1]; exact heap_alloc_new wr _
      have HO1 := Lib.hid (HOW.out.below b1)
      have HB1 := Lib.hid (HBR.out.trans (b1.mono hnw))
      have HCE := Lib.hid (fun W (h : Below w1.heap.size w1 W) => cloneEvents_any d W ((hok.below ((b1.trans (h.mono (by omega))).mono hnw)).more (by have := h.size; omega)) hda)
      have HFD := Lib.hid hok.2
      have hall : ∀ W, Below w1.heap.size w1 W → W.cell? ⟨wr.heap.size, 0, none⟩ = some (.int .u64 d.tm) ∧ W.cell? ⟨wr.heap.size, 1, none⟩ = some (.slice d.A d.evs.length d.c) := fun W h => held_two (h1.below h (by omega))
      have HALL := Lib.hid hall
      have HNE := Lib.hid (show some wr.heap.size ≠ (Value.slice A1 es.length cc).ownBlock from fun e => by have := (World.ownsRow.lt HOW.out.1 _ e.symm).2; omega)
      have hfd := hok.2
      unfold Pm.Fits at hfd
      clear h1 b1 hok hd hall hda
      go_wp2_with fail
      go_region_held3 (fun W => W.cell? ⟨wr.heap.size, 0, none⟩ = some (.int .u64 d.tm) ∧ W.cell? ⟨wr.heap.size, 1, none⟩ = some (.slice d.A d.evs.length d.c))
        (first | exact HALL.out _ (Below.refl _ _) | exact HALL.out _ (Below.refl _ _).drew | exact HALL.out _ b2 | exact HALL.out _ (b2.alloc b2.size _) | exact ⟨(hg4.cell_far ⟨wr.heap.size, 0, none⟩ (by have := b2.size; simp; omega) HNE.out).trans (HALL.out _ (b2.alloc b2.size _)).1, (hg4.cell_far ⟨wr.heap.size, 1, none⟩ (by have := b2.size; simp; omega) HNE.out).trans (HALL.out _ (b2.alloc b2.size _)).2⟩)
        (first
          | (refine step_append_erow (by rfl) (.tmp 12) (.tmp 18) 23 39 (by rfl) n i1 _ 2 32 Try.underlying23 hi1 hy0 hy1 hy2 rfl (by omega) (.slice A1 es.length cc) es.length (flatN es) (by rfl) ((HO1.out.below b2).below ((Below.refl _ _).alloc (Nat.le_refl _) _)).1 (w2.heap.size + 1) (.slice (some ⟨w2.heap.size, 0, none⟩) 1 1) 1 (flatN [⟨d.tm, xs, A2, c2⟩]) (by rfl) (ERow.held (t := 39) (heap_alloc_new w2 _) (by omega) (by unfold maxLen; omega)) (flatN_length _) (oneN _) (by have := HEL.out; unfold maxLen; omega) (by have := HEL.out; omega) (by have := b2.size; simp; omega) (es.length + 1) rfl (flatN es ++ flatN [⟨d.tm, xs, A2, c2⟩]) rfl ?_; intro A4 c4 w4 hO4 hg4)
          | (go_at_call 76; (with_reducible refine (HCE.out _ (Below.refl _ _).drew).mono ?_); rintro e w2 ⟨A2, c2, xs, rfl, hO2, hx2, hb2⟩; have b2 : Below w1.heap.size w1 w2 := (Below.refl w1.heap.size w1).drew.trans hb2))
      have ho3 := (HO1.out.below b2).below ((Below.refl w2.heap.size w2).alloc (Nat.le_refl _) (.cells #[.int .u64 d.tm, .slice A2 xs.length c2] 39))
      have hz2 := b2.size
      have hlow : ∀ j, (Value.slice A1 es.length cc).ownBlock = some j → n ≤ j := fun j e => (World.ownsRow.lt HOW.out.1 j e).1
      have b3 := (HB1.out.trans (b2.mono (by omega))).alloc (Nat.le_trans hnw (by omega)) (.cells #[.int .u64 d.tm, .slice A2 xs.length c2] 39)
      have b4 : Below n w w4 := b3.grown hg4 (by simp; omega) hlow
      have ne1 : 61 ≠ 39 := by decide
      have ne2 : 42 ≠ 39 := by decide
      have hT4 : OwnT w4 n (.slice A4 (es ++ [(⟨d.tm, xs, A2, c2⟩ : Pm)]).length c4) (es ++ [⟨d.tm, xs, A2, c2⟩]) := by
        refine ⟨by rw [flatN_append, List.length_append]; exact hO4, fun y hy => ?_⟩
        rcases List.mem_append.1 hy with h | h
        · exact ⟨(ho3.2 y h).1.grown ho3.1 ne1 ne2 hg4, (ho3.2 y h).2⟩
        · rw [List.mem_singleton.1 h]
          exact ⟨((hO2.base (by have := (Below.refl w1.heap.size w1).drew.size; omega)).below ((Below.refl _ _).alloc (Nat.le_refl _) _)).grown ho3.1 ne1 ne2 hg4, HFD.out⟩
      have HO4 := Lib.hid hT4
      have HB4 := Lib.hid b4
      have HES4 := Lib.hid (show (es ++ [(⟨d.tm, xs, A2, c2⟩ : Pm)]).map (·.p) = (ps.take (k + 1)).map (·.p) by rw [HTK.out, List.map_append, HES.out]; simp [Pm.p, hx2])
      have hel : (es ++ [(⟨d.tm, xs, A2, c2⟩ : Pm)]).length = es.length + 1 := by simp
      clear hO2 hx2 hb2 b2 hO4 hg4 hlow b3 b4 hw1 s1 x0 x1 ho3 hT4
      rw [← hel]
      generalize es ++ [(⟨d.tm, xs, A2, c2⟩ : Pm)] = es4 at HO4 HES4 hel ⊢
      clear hel
      go_wp2_with fail
      go_roundg (ps.length - (k + 1))
      case measure => have := HGK.out; omega
      case rel => exact ⟨k + 1, A4, c4, es4, by omega, by go_num, rfl, Lib.hid rfl, HO4, HES4, HB4⟩
    · obtain rfl : k = ps.length := by omega
      go_wp2_with fail
      go_ret
      exact ⟨A1, cc, es, rfl, HOW.out, by rw [HES.out, List.take_length], HBR.out⟩
#print axioms tclone_any
end Go.Proofs.Ytlmpicfhbpnpbaa
