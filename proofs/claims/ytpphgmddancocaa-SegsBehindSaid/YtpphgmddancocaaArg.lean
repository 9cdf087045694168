/-
  A slice of bytes that came in, and a string made a slice of bytes: what they read as. No program here.
-/
import Derived.Test.YtpphgmddancocaaBytes
import Derived.Lib.ConvBytes
import Derived.OpenShut
namespace Go.Proofs.Ytpphgmddancocaa
open Go.RowKit

/-- A slice of integers that came in: it is nil, or it leads to cells. -/
def IsRow (k : IntKind) (w : World) (a : Option Addr) (len cap : Nat) (zs : List Int) : Prop :=
  (a = none ∧ len = 0 ∧ cap = 0 ∧ zs = []) ∨
  ∃ x, a = some x ∧ len ≤ cap ∧ cap ≤ maxLen ∧ zs.length = cap ∧ (∀ i, i < zs.length → w.cell? (x.add i) = some (.int k (zs.getD i 0))) ∧ ∀ n ∈ zs, (Lit.int k n).wf = true

theorem Row.of_arg {w : World} {a : Option Addr} {len cap : Nat} {zs : List Int} (h : IsRow .u8 w a len cap zs) :
    ∃ xs : List Int, xs.length = len ∧ Row w w.heap.size (.slice a len cap) xs ∧ ∀ x ∈ xs, 0 ≤ x ∧ x < 256 := by
  rcases h with ⟨rfl, rfl, rfl, rfl⟩ | ⟨x, rfl, hl, hm, hz, hc, hw⟩
  · exact ⟨[], rfl, Row.nil _ _, by simp⟩
  · have hlen : (zs.take len).length = len := by simp; omega
    refine ⟨zs.take len, hlen, ⟨some x, cap, by rw [hlen], by omega, hm, by simp, fun hn => ?_⟩, fun y hy => ?_⟩
    · obtain ⟨b, o, sp⟩ := x
      have h0 := hc 0 (by omega)
      have hs : sp = none := by simpa [Addr.add] using World.cell?_spot h0
      subst hs
      refine ⟨b, o, rfl, World.block_lt_of_cell? w ⟨b, o, none⟩ (by simpa [Addr.add] using h0), fun i hi => ?_⟩
      have hi' := hc i (by omega)
      rw [Go.WideShapes.add_plain] at hi'
      rw [hi']
      simp only [List.getD, List.getElem?_take]
      rw [if_pos (by omega)]
    · have := bounds_u8 (hw y (List.mem_of_mem_take hy))
      omega

/-- []byte(s). -/
theorem conv_bytes {P : Program} (w : World) (src dst e : TypeId) (hs : P.underlying src = some .string) (hd : P.underlying dst = some (.slice e)) (he : P.underlying e = some (.int .u8))
    (xs : List Int) (hb : ∀ x ∈ xs, 0 ≤ x ∧ x < 256) (hl : xs.length ≤ 9223372036854775807) :
    ∃ A c W', (convert src dst (.string (strOfNums xs))).run P w = .ok (.slice A xs.length c) W' ∧ Row W' W'.heap.size (.slice A xs.length c) xs ∧ Below w.heap.size w W' := by
  have h := Lib.run_convert_string_bytes (P := P) w src dst e (strOfNums xs) hs hd he
  have hsz := strOfNums_size xs
  rw [hsz] at h
  refine ⟨_, _, _, h, ⟨_, _, rfl, grownCap_ge _ _ _ _, grownCap_le_maxLen _ _ _ _ (by simp only [maxLen]; omega), by simp, fun hn => ?_⟩, ?_⟩
  · refine ⟨w.heap.size, 0, rfl, by rw [Lib.bytesWorld_size]; omega, fun i hi => ?_⟩
    rw [Nat.zero_add, Lib.bytesWorld_cell w e _ i (by omega)]
    have hx : xs.getD i 0 ∈ xs := by rw [List.getD, List.getElem?_eq_getElem hi]; simp
    have hx' := hb _ hx
    have e1 : (strOfNums xs).data.toList.getD i 0 = UInt8.ofNat (xs.getD i 0).toNat := by
      rw [strOfNums_data]
      simp [List.getD, List.getElem?_map, List.getElem?_eq_getElem hi]
    have e2 : ((UInt8.ofNat (xs.getD i 0).toNat).toNat : Int) = xs.getD i 0 := by rw [UInt8.toNat_ofNat']; omega
    rw [e1, e2]
  · exact ⟨rfl, rfl, rfl, by rw [Lib.bytesWorld_size]; omega, fun i hi => Lib.bytesWorld_at_old w e _ i hi⟩

theorem str_append (k l : List Int) : strOfNums k ++ strOfNums l = strOfNums (k ++ l) := by
  apply ByteArray.ext
  simp [strOfNums]
/-- '+' of two such texts. -/
theorem add_strs {P : Program} (W : World) (k l : List Int) (h : k.length + l.length ≤ 9223372036854775807) : (Op.stringOp .add (strOfNums k) (strOfNums l)).run P W = .ok (.string (strOfNums (k ++ l))) W := by
  rw [run_string_add_sum (P := P) (w := W) _ _ (by rw [strOfNums_size, strOfNums_size]; exact h), str_append]
end Go.Proofs.Ytpphgmddancocaa
