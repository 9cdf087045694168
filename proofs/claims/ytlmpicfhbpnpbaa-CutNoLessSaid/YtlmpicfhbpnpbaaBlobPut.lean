/-
  blob.Put, and the document's own.
-/
import Derived.Test.YtlmpicfhbpnpbaaPutCode
import Derived.Test.YtlmpicfhbpnpbaaRef
import Derived.Test.YtlmpicfhbpnpbaaSlices
import Derived.Test.YtlmpicfhbpnpbaaPlains
namespace Go.Proofs.Ytlmpicfhbpnpbaa
open Go.RowKit Go.Shelf

set_option maxHeartbeats 1000000 in
/-- blob.Put: b, and the text's bytes behind, in new memory. -/
theorem bput_any (A : Option Addr) (c : Nat) (xs : List Int) (s : List Int) (hs : ∀ x ∈ s, 0 ≤ x ∧ x < 256) (hsm : xs.length ≤ 1000000000) (hsl : s.length ≤ 1000000000) (w : World) (hrow : Row w w.heap.size (.slice A xs.length c) xs) :
    Calls Try.prog 33 #[.slice A xs.length c, .string (strOfNums s)] w fun e W' => ∃ v, e = .returned v ∧ W'.ownsRow w.heap.size 5 1 v (xs.length + (encT s).length) ((xs ++ encT s).map (.int .u8)) ∧ Below w.heap.size w W' := by
  have hn : s.length < 18446744073709551616 := by omega
  obtain ⟨l1, l2⟩ := encI_ten hn
  obtain ⟨i0, hi, hz0, hz1, hz2⟩ := info_parts Try.infoU8
  have hp := put_any A c xs s.length hn (by omega) w hrow
  have hss : (strOfNums s).size = s.length := strOfNums_size s
  have hcs := strCells_nums s hs
  have HP := Lib.hid hp; clear hp hrow
  have HCS := Lib.hid hcs; clear hcs
  have HET := Lib.hid (encT_length s)
  go_enter Try.func33, Try.ntmps33
  go_wp2_with fail
  refine HP.out.mono ?_
  rintro e w1 ⟨v1, rfl, hown1, hb1⟩
  have hsz1 := hb1.size
  go_wp2_with (at_builtin; refine Lib.wpList_append_own_string _ rfl _ _ 46 9 rfl w.heap.size 5 i0 Try.underlying46 Try.underlying9 hi hz0 hz1 hz2 _ _ _ rfl hown1 (strOfNums s) rfl (by rw [hss]; simp only [maxLen]; omega) (by rw [hss]; omega) hsz1 ?_; intro v2 w2 hown2 hg2 hn2)
  go_ret
  refine ⟨v2, rfl, ?_, hb1.grown hg2 hsz1 (fun j ej => (hown1.lt j ej).1)⟩
  rw [HCS.out, hss, ← List.map_append, List.append_assoc] at hown2
  rw [HET.out, ← Nat.add_assoc]
  exact hown2

set_option maxHeartbeats 400000 in
/-- The document's Put. -/
theorem rbput (s : List Int) (hsl : s.length ≤ 1000000000) (w : World) :
    Calls Try.prog 69 #[.string (strOfNums s)] w fun e w' => e = .returned (.string (strOfNums (encT s))) ∧ Below w.heap.size w w' := by
  have hn : s.length < 18446744073709551616 := by omega
  obtain ⟨l1, l2⟩ := encI_ten hn
  have hss : (strOfNums s).size = s.length := strOfNums_size s
  have hadd := fun W => add_strs (P := Try.prog) W (encI s.length) s (by omega)
  have hp := fun W => rput s.length hn W
  have HP := Lib.hid hp; clear hp
  have he : encT s = encI s.length ++ s := rfl
  rw [he]
  clear he
  generalize encI s.length ++ s = es at hadd
  generalize strOfNums (encI s.length) = ps at hadd HP
  generalize strOfNums s = ss at hadd hss
  go_enter Try.func69, Try.ntmps69
  go_wp2_with fail
  refine (HP.out _).mono ?_
  rintro e w1 ⟨rfl, hb1⟩
  go_wp2_with fail
  go_ret
  exact ⟨rfl, hb1⟩

/-- blob.Put behind nothing. -/
theorem bput_nil (s : List Int) (hs : ∀ x ∈ s, 0 ≤ x ∧ x < 256) (hsl : s.length ≤ 1000000000) (w : World) :
    Calls Try.prog 33 #[.slice none 0 0, .string (strOfNums s)] w fun e W' => ∃ v, e = .returned v ∧ W'.ownsRow w.heap.size 5 1 v (encT s).length ((encT s).map (.int .u8)) ∧ Below w.heap.size w W' := by
  have h := bput_any none 0 [] s hs (by simp) hsl w (Row.nil _ _)
  simpa using h

#print axioms bput_nil
end Go.Proofs.Ytlmpicfhbpnpbaa
