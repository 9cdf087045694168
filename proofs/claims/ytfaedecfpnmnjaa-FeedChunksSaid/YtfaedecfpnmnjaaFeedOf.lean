/-
  How many parts are told; slices of parts beside a feed's calls.
-/
import Derived.Test.YtfaedecfpnmnjaaFeedClose
import Derived.Test.YtfaedecfpnmnjaaApart
namespace Go.Proofs.Ytfaedecfpnmnjaa
open Go.RowKit

theorem Fd.len {xs : List Int} (hb : Bytes xs) {T : List Sg} {a o : Nat} (h : Fd xs T a o) : T.length ≤ xs.length := by
  obtain ⟨l, hl⟩ := PartsS.exist hb _ a (Nat.le_refl _)
  have := ((h.2.2.1.now l hl).le hb).1
  rw [List.length_append] at this
  omega
/-- A slice of parts is one still behind a call of a feed. -/
theorem Segs.fed {w w' : World} {n0 n1 g n : Nat} {v vh : Value} {ps : List Pt} {a tot : Nat} {cl : Bool} {us : List Value} (hs : Segs w n0 v ps) (hf : FeedAt w g vh a tot cl) (ho : w.ownsRow n1 5 1 vh n us) (hb : But w w' vh.ownBlock g) (hoff : OffN vh.ownBlock ps) : Segs w' n0 v ps := by
  obtain ⟨A, c, rfl⟩ := own_form ho
  exact hs.but hb (FeedAt.nob hf (by simp)) (hs.apart hf (by decide)) (own_apart hs.1 ho (by decide)) hoff
/-- What is held is it still, behind an append of parts behind others. -/
theorem Fed.app {w W0 w' : World} {n0 n1 g : Nat} {v vh : Value} {ps : List Pt} {xs : List Int} {T : List Sg} {a o : Nat} (h : Fed w n1 g vh xs T a o) (hs : Segs w n0 v ps) (hb : Below w.heap.size w W0) (hg : W0.grownBy w' v.ownBlock) : Fed w' n1 g vh xs T a o := by
  refine ⟨(app_but h.1 hs hb hg).2, ?_, h.2.2⟩
  have h1 : W0.ownsRow n1 5 1 vh (xs.length - o) ((xs.drop o).map (.int .u8)) := own_below h.2.1 hb
  have h2 := hs.below hb
  refine h1.kept hg ?_
  rcases own_apart h1 h2.1 (by decide) with h | h
  · exact .inl h
  · exact .inr h
/-- Another slice of parts is one still, behind an append of parts behind an earlier one. -/
theorem Segs.app {w w' : World} {n0 n1 : Nat} {v v2 : Value} {ps qs : List Pt} (h : Segs w n1 v2 qs) (hs : Segs w n0 v ps) (hlt : ∀ j, v.ownBlock = some j → j < n1) (hg : w.grownBy w' v.ownBlock) : Segs w' n1 v2 qs := by
  refine h.kept hg ?_ hs.2.1
  rcases h.1.2 with ⟨rfl, _⟩ | ⟨b, cap, cur, rfl, hb, _⟩
  · exact .inl rfl
  · refine .inr fun e => ?_
    have := hlt b e.symm
    omega
end Go.Proofs.Ytfaedecfpnmnjaa
