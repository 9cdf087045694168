/-
  Slices of parts, cut off in front; parts that stand further on. No program here.
-/
import Derived.Test.YtpphgmddancocaaSegRow
namespace Go.Proofs.Ytpphgmddancocaa
open Go.RowKit

theorem SegRow.drop {w : World} {B : Nat} {A : Option Addr} {n c : Nat} {ps : List Pt} (h : SegRow w B (.slice A n c) ps) {k : Nat} (hk : k ≤ ps.length) :
    SegRow w B (.slice (if c = k then A else A.map (·.add (k * 5))) (ps.drop k).length (c - k)) (ps.drop k) := by
  obtain ⟨A', c', hv, h1, h2, h3, h4, h5⟩ := h
  injection hv with e1 e2 e3
  subst e1 e3
  have hl : (ps.drop k).length = ps.length - k := by simp
  refine ⟨_, _, rfl, by omega, by omega, fun h => ?_, fun hn => ?_, fun p hp => h5 p (List.mem_of_mem_drop hp)⟩
  · by_cases e : c = k
    · omega
    · rw [if_neg e] at h
      have : A = none := by simpa using h
      have := h3 this
      omega
  · obtain ⟨b, o, rfl, hb, hc⟩ := h4 (by omega)
    refine ⟨b, o + k * 5, by rw [if_neg (by omega)]; simp [Go.WideShapes.add_plain], hb, fun i p hp j u hj => ?_⟩
    rw [List.getElem?_drop] at hp
    have := hc (k + i) p hp j u hj
    rw [show o + k * 5 + i * 5 + j = o + (k + i) * 5 + j by omega]
    exact this

/-- A part that stands further on. -/
def shiftP (K : Nat) (p : Pt) : Pt := ⟨shiftS K p.s, p.A, p.c⟩
theorem shiftP_map (K : Nat) (ps : List Pt) : (ps.map (shiftP K)).map (·.s) = (ps.map (·.s)).map (shiftS K) := by simp [shiftP, Function.comp_def]
/-- The first k of them further on. -/
def shifted (K k : Nat) (ps : List Pt) : List Pt := (ps.take k).map (shiftP K) ++ ps.drop k
theorem shifted_length (K k : Nat) (ps : List Pt) : (shifted K k ps).length = ps.length := by
  rw [shifted, List.length_append, List.length_map, List.length_take, List.length_drop]
  omega
theorem shifted_zero (K : Nat) (ps : List Pt) : shifted K 0 ps = ps := by simp [shifted]
theorem shifted_all (K : Nat) (ps : List Pt) : shifted K ps.length ps = ps.map (shiftP K) := by simp [shifted]
theorem shifted_at {K k : Nat} {ps : List Pt} {p : Pt} (h : ps[k]? = some p) : (shifted K k ps)[k]? = some p := by
  have hlt := (List.getElem?_eq_some_iff.1 h).1
  have hl : ((ps.take k).map (shiftP K)).length = k := by rw [List.length_map, List.length_take]; omega
  rw [shifted, List.getElem?_append_right (by omega), hl, Nat.sub_self, List.getElem?_drop, Nat.add_zero]
  exact h
theorem shifted_set {K k : Nat} {ps : List Pt} {p : Pt} (h : ps[k]? = some p) : (shifted K k ps).set k (shiftP K p) = shifted K (k + 1) ps := by
  obtain ⟨hlt, he⟩ := List.getElem?_eq_some_iff.1 h
  have hl : ((ps.take k).map (shiftP K)).length = k := by rw [List.length_map, List.length_take]; omega
  rw [shifted, List.set_append_right _ _ (by omega), hl, Nat.sub_self, List.drop_eq_getElem_cons hlt, List.set_cons_zero, shifted, List.take_add_one, h, List.map_append]
  simp
/-- The store that moves one. -/
theorem Segs.moved {w : World} {n0 g cap K k : Nat} {ps : List Pt} {p : Pt} {N : Nat} (hN : ps.length = N) (h : Segs w n0 (.slice (some ⟨g, 0, none⟩) N cap) (shifted K k ps)) (hp : ps[k]? = some p) :
    Segs (w.setCell ⟨g, k * 5, none⟩ (.int .i64 ((p.s.frm : Int) + K))) n0 (.slice (some ⟨g, 0, none⟩) N cap) (shifted K (k + 1) ps) := by
  have hl := shifted_length K k ps
  rw [hN] at hl
  rw [← hl] at h ⊢
  have := h.store (i := k) (p := p) (q := shiftP K p) (shifted_at hp) 0 (by omega) (.int .i64 ((p.s.frm : Int) + K)) (by simp [shiftP, shiftS, Pt.cells]) rfl rfl rfl (by simp)
  rwa [shifted_set hp] at this
end Go.Proofs.Ytpphgmddancocaa
