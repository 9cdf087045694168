/-
  A slice of numbers of 16 bits that came in. No program here.
-/
import Derived.Test.YtfaedecfpnmnjaaSlices
namespace Go.Proofs.Ytfaedecfpnmnjaa
open Go.RowKit

/-- A slice of numbers of 16 bits that came in. -/
theorem u16_of_arg {w : World} {a : Option Addr} {len cap : Nat} {zs : List Int} (h : IsRow .u16 w a len cap zs) :
    ∃ us : List Nat, us.length = len ∧ VRow w w.heap.size (.slice a len cap) (us.map fun (u : Nat) => Value.int .u16 u) ∧ ∀ u ∈ us, u < 65536 := by
  rcases h with ⟨rfl, rfl, rfl, rfl⟩ | ⟨x, rfl, hl, hm, hz, hc, hw⟩
  · exact ⟨[], rfl, VRow.nil _ _, by simp⟩
  · have hlen : ((zs.take len).map Int.toNat).length = len := by simp; omega
    have hb : ∀ z ∈ zs, 0 ≤ z ∧ z < 65536 := fun z hz => by
      have := bounds_u16 (hw z hz)
      omega
    refine ⟨(zs.take len).map Int.toNat, hlen, ⟨some x, cap, by rw [List.length_map, hlen], by rw [List.length_map, hlen]; exact hl, hm, by simp, fun hn => ?_⟩, fun y hy => ?_⟩
    · rw [List.length_map, hlen] at hn
      obtain ⟨b, o, sp⟩ := x
      have h0 := hc 0 (by omega)
      have hs : sp = none := by simpa [Addr.add] using World.cell?_spot h0
      subst hs
      refine ⟨b, o, rfl, World.block_lt_of_cell? w ⟨b, o, none⟩ (by simpa [Addr.add] using h0), fun i u hi => ?_⟩
      have hlt := (List.getElem?_eq_some_iff.1 hi).1
      rw [List.length_map, hlen] at hlt
      have hi' := hc i (by omega)
      rw [Go.WideShapes.add_plain] at hi'
      rw [hi']
      have hget : zs[i]? = some (zs[i]'(by omega)) := List.getElem?_eq_getElem (by omega)
      have := hb _ (List.getElem_mem (by omega : i < zs.length))
      simp only [List.map_map, List.getElem?_map, List.getElem?_take, if_pos hlt, hget, Option.map_some, Function.comp, Option.some.injEq] at hi
      rw [← hi, List.getD, hget]
      simp only [Option.getD_some]
      rw [Int.toNat_of_nonneg this.1]
    · obtain ⟨z, hz, rfl⟩ := List.mem_map.1 hy
      have := hb z (List.mem_of_mem_take hz)
      omega
end Go.Proofs.Ytfaedecfpnmnjaa
