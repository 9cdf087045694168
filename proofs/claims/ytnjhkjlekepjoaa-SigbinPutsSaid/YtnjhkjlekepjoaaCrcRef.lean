/-
  crc.Bytes, and the document's Sum and Bytes: what each call answers.
-/
import Derived.Test.YtnjhkjlekepjoaaCrc
import Derived.Test.YtnjhkjlekepjoaaSlices
import Derived.Lib.SliceRun
namespace Go.Proofs.Ytnjhkjlekepjoaa
open Go.RowKit

/-- A sum's four bytes, the lowest first. -/
def le4 (n : Nat) : List Int := [(n : Int) % 256, (n : Int) / 256 % 256, (n : Int) / 65536 % 256, (n : Int) / 16777216]
theorem le4_byte {n : Nat} (hn : n < 4294967296) : ∀ x ∈ le4 n, 0 ≤ x ∧ x < 256 := by
  intro x hx
  simp only [le4, List.mem_cons, List.not_mem_nil, or_false] at hx
  rcases hx with rfl | rfl | rfl | rfl <;> omega
theorem le4_length (n : Nat) : (le4 n).length = 4 := rfl
theorem le4_inj {a b : Nat} (ha : a < 4294967296) (hb : b < 4294967296) (h : le4 a = le4 b) : a = b := by
  simp only [le4, List.cons.injEq, and_true] at h
  omega
/-- The same as an array's value. -/
def le4V (n : Nat) : Value := .agg #[.int .u8 ((n : Int) % 256), .int .u8 ((n : Int) / 256 % 256), .int .u8 ((n : Int) / 65536 % 256), .int .u8 ((n : Int) / 16777216)]

set_option maxRecDepth 100000 in
set_option maxHeartbeats 1000000 in
theorem four_any (n : Nat) (hn : n < 4294967296) (w : World) :
    Calls Try.prog 58 #[.int .u32 n] w fun e w' => e = .returned (le4V n) ∧ Below w.heap.size w w' := by
  go_enter Try.func58, Try.ntmps58
  go_wp2
  exact bodyPost_ret (v := le4V n) (by simp [results, Try.results58, go_sem, le4V]) rfl ⟨rfl, (Below.refl _ _).alloc (Nat.le_refl _) _⟩

/-- string([]byte{..}), of a slice of four cells, wherever that lies. -/
theorem conv_four (W : World) (b : Nat) (x0 x1 x2 x3 : Int) (h0 : W.cell? ⟨b, 0, none⟩ = some (.int .u8 x0)) (h1 : W.cell? ⟨b, 1, none⟩ = some (.int .u8 x1)) (h2 : W.cell? ⟨b, 2, none⟩ = some (.int .u8 x2)) (h3 : W.cell? ⟨b, 3, none⟩ = some (.int .u8 x3)) :
    (convert 25 9 (.slice (some ⟨b, 0, none⟩) 4 4)).run Try.prog W = .ok (.string (strOfNums [x0, x1, x2, x3])) W := by
  refine run_convert_bytes_arg (P := Try.prog) W 25 5 Try.underlying25 Try.underlying5 b 0 4 4 [x0, x1, x2, x3] rfl ?_ 9 Try.underlying9
  intro i hi
  rcases (by omega : i = 0 ∨ i = 1 ∨ i = 2 ∨ i = 3) with rfl | rfl | rfl | rfl
  · simpa using h0
  · simpa using h1
  · simpa using h2
  · simpa using h3

set_option maxRecDepth 100000 in
set_option maxHeartbeats 1000000 in
theorem rfour_any (n : Nat) (hn : n < 4294967296) (w : World) :
    Calls Try.prog 48 #[.int .u32 n] w fun e w' => e = .returned (.string (strOfNums (le4 n))) ∧ Below w.heap.size w w' := by
  have hcv := fun W b => conv_four W b ((n : Int) % 256) ((n : Int) / 256 % 256) ((n : Int) / 65536 % 256) ((n : Int) / 16777216)
  go_enter Try.func48, Try.ntmps48
  go_wp2
  go_ret
  exact ⟨rfl, (Below.refl _ _).alloc (Nat.le_refl _) _⟩

set_option maxRecDepth 100000 in
set_option maxHeartbeats 1000000 in
theorem rsum_any (xs : List Int) (hb : ∀ x ∈ xs, 0 ≤ x ∧ x < 256) (hl : xs.length ≤ 9223372036854775807) (w : World) :
    Calls Try.prog 49 #[.string (strOfNums xs)] w fun e w' => e = .returned (.int .u32 (sumX xs : Nat)) ∧ w = w' := by
  have hsz := strOfNums_size xs
  have HB := Lib.hid hb; clear hb
  have hlt2 : ∀ k, stateI 4294967295 (toN (xs.take k)) < 4294967296 := fun k => state_lt _ (by omega) (toN_byte (fun x hx => HB.out x (List.mem_of_mem_take hx)))
  have HL := Lib.hid hlt2; clear hlt2
  go_enter Try.func49, Try.ntmps49
  go_wp2
  go_loop [3, 4] (fun s i => ∃ k m : Nat, k ≤ xs.length ∧ m < 4294967296 ∧ i = .int .i64 k ∧ s = .int .u32 m ∧ Hid (m = stateI 4294967295 (toN (xs.take k)))) (fun _ i => xs.length - (intOf i).toNat)
  case atStart => exact ⟨0, 4294967295, Nat.zero_le _, by omega, rfl, rfl, Lib.hid rfl⟩
  case round =>
    obtain ⟨k, m, hk, hm, rfl, rfl, HI⟩ := hrel
    by_cases hlt : k < xs.length
    · have hin : xs.getD k 0 ∈ xs := by rw [List.getD, List.getElem?_eq_getElem (by omega)]; simp
      obtain ⟨y0, y1⟩ := HB.out _ hin
      clear hin
      have hat := str_at xs HB.out k hlt (by omega)
      have hnx := state_next 4294967295 xs hlt
      rw [← HI.out] at hnx
      obtain ⟨y, hy⟩ := Int.eq_ofNat_of_zero_le y0
      rw [hy] at hat hnx y1
      rw [Int.toNat_natCast] at hnx
      clear hy y0
      have hms : m ^^^ y < 4294967296 := Nat.xor_lt_two_pow (n := 32) hm (by omega)
      have HX := Lib.hid (rxor_any m y hm (by omega))
      generalize m ^^^ y = z at hnx HX hms
      have HN := Lib.hid hnx; clear hnx HI
      have hz := it_lt 8 hms
      go_wp2_with fail
      refine (HX.out _).mono ?_
      rintro e w1 ⟨rfl, rfl⟩
      go_wp2_with fail
      refine (rshift_any z hms _).mono ?_
      rintro e w2 ⟨rfl, rfl⟩
      go_wp2_with fail
      go_round
      case rel => exact ⟨k + 1, it 8 z, by omega, hz, by go_num, rfl, Lib.hid HN.out.symm⟩
      case measure => simp [intOf]; omega
    · obtain rfl : k = xs.length := by omega
      have he : 4294967295 - m = sumX xs := by rw [compl_xor hm, HI.out, List.take_length]; rfl
      have hw : IntKind.u32.wrap (4294967295 - (m : Int)) = ((sumX xs : Nat) : Int) := by rw [IntKind.wrap_u32, ← he]; omega
      clear HI he
      go_wp2_with fail
      go_ret
      exact ⟨rfl, rfl⟩
#print axioms four_any
#print axioms rfour_any
#print axioms rsum_any
end Go.Proofs.Ytnjhkjlekepjoaa
