/-
  strings.Cut at one byte, in plain numbers.
-/
import Derived.Test.YtncjfnmkoiclbaaStrLib
import Derived.Test.YtncjfnmkoiclbaaPlainTextCode
import Derived.Test.YtncjfnmkoiclbaaSlices
import Derived.Test.YtncjfnmkoiclbaaSigSameRef
import Derived.Deep.QuietTactic
import Derived.BigQuiet
namespace Go.Proofs.Ytncjfnmkoiclbaa
open Go.RowKit

theorem byte_eq {x : Int} (hx : 0 ≤ x ∧ x < 256) (k : UInt8) : (UInt8.ofNat x.toNat == k) = decide (x = (k.toNat : Int)) := by
  have h1 : (UInt8.ofNat x.toNat).toNat = x.toNat := by rw [UInt8.toNat_ofNat']; omega
  by_cases h : x = (k.toNat : Int)
  · have e : UInt8.ofNat x.toNat = k := by
      apply UInt8.toNat_inj.1
      rw [h1]
      omega
    rw [e]
    simp [h]
  · have e : UInt8.ofNat x.toNat ≠ k := fun e => h (by rw [← e, h1]; omega)
    rw [decide_eq_false h]
    exact beq_eq_false_iff_ne.2 e
theorem index_miss (k : UInt8) : ∀ xs : List Int, (∀ x ∈ xs, 0 ≤ x ∧ x < 256) → (∀ x ∈ xs, x ≠ (k.toNat : Int)) → Lib.indexByte (strOfNums xs).data.toList k = -1
  | [], _, _ => rfl
  | x :: xs, hb, h => by
    have ih := index_miss k xs (fun y hy => hb y (List.mem_cons_of_mem _ hy)) (fun y hy => h y (List.mem_cons_of_mem _ hy))
    rw [strOfNums_data] at ih ⊢
    rw [List.map_cons, Lib.indexByte, byte_eq (hb x (by simp)), ih, decide_eq_false (h x (by simp))]
    rfl
theorem index_hit (k : UInt8) (b : List Int) : ∀ a : List Int, (∀ x ∈ a, 0 ≤ x ∧ x < 256) → (∀ x ∈ a, x ≠ (k.toNat : Int)) → Lib.indexByte (strOfNums (a ++ (k.toNat : Int) :: b)).data.toList k = (a.length : Int)
  | [], _, _ => by
    have hk := k.toNat_lt
    rw [strOfNums_data, List.nil_append, List.map_cons, Lib.indexByte, byte_eq (by omega), decide_eq_true rfl]
    rfl
  | x :: a, hb, h => by
    have ih := index_hit k b a (fun y hy => hb y (List.mem_cons_of_mem _ hy)) (fun y hy => h y (List.mem_cons_of_mem _ hy))
    rw [strOfNums_data] at ih ⊢
    rw [List.cons_append, List.map_cons, Lib.indexByte, byte_eq (hb x (by simp)), ih, decide_eq_false (h x (by simp))]
    have : ((a.length : Int) == -1) = false := beq_eq_false_iff_ne.2 (by omega)
    simp [this]

set_option maxRecDepth 100000 in
set_option maxHeartbeats 1000000 in
theorem lcut_any (k : UInt8) (xs : List Int) (hb : ∀ x ∈ xs, 0 ≤ x ∧ x < 256) (hl : xs.length ≤ 9000000000000000000) (w : World) :
    Calls Try.prog 39 #[.string (strOfNums xs), .string ⟨#[k]⟩] w fun e w' => e = .returned (.tuple #[.string (strOfNums (cutB (k.toNat : Int) xs).1), .string (strOfNums (cutB (k.toNat : Int) xs).2.1), .bool (cutB (k.toNat : Int) xs).2.2]) ∧ Below w.heap.size w w' := by
  have hsz := strOfNums_size xs
  rcases cutB_ways (k.toNat : Int) xs with ⟨e, h⟩ | ⟨a, b, e, h, e2⟩
  · have hi := index_miss k xs hb h
    rw [e]
    obtain ⟨S, hS⟩ : ∃ S, strOfNums xs = S := ⟨_, rfl⟩
    rw [hS] at hi ⊢
    have hidx : ∀ W, Calls Try.prog 43 #[.string S, .string ⟨#[k]⟩] W (fun e w' => e = .returned (.int .i64 (-1)) ∧ w' = W) := fun W => by
      rw [← hi]
      exact Any.stringslite_Index_one lays219 S k W
    have HI := Lib.hid hidx
    clear hi hidx hS hsz h e hb hl
    go_enter Try.func39, Try.ntmps39
    go_wp2_with fail
    refine (HI.out _).mono ?_
    rintro e w' ⟨rfl, rfl⟩
    go_wp2_with fail
    go_ret3
    exact ⟨rfl, Below.refl _ _⟩
  · have hi := index_hit k b a (fun x hx => hb x (by rw [e]; simp [hx])) h
    rw [← e] at hi
    rw [e2]
    have ha : a.length + 1 ≤ xs.length := by rw [e]; simp
    have x1 : (strOfNums xs).extract 0 a.length = strOfNums a := by rw [str_cut, e]; simp
    have x2 : (strOfNums xs).extract (a.length + 1) (strOfNums xs).size = strOfNums b := by
      rw [str_cut, hsz, List.take_length, e, ← List.drop_drop, List.drop_left]
      rfl
    rw [← x1, ← x2]
    generalize a.length = i at hi ha ⊢
    obtain ⟨S, hS⟩ : ∃ S, strOfNums xs = S := ⟨_, rfl⟩
    rw [hS] at hi hsz ⊢
    have hidx : ∀ W, Calls Try.prog 43 #[.string S, .string ⟨#[k]⟩] W (fun e w' => e = .returned (.int .i64 (i : Int)) ∧ w' = W) := fun W => by
      rw [← hi]
      exact Any.stringslite_Index_one lays219 S k W
    have HI := Lib.hid hidx
    have hz : (⟨#[k]⟩ : ByteArray).size = 1 := rfl
    have hs1 : i + 1 ≤ S.size := by omega
    have hs2 : S.size ≤ 9000000000000000000 := by omega
    clear hi hidx hS hsz h e e2 x1 x2 hb hl ha
    go_enter Try.func39, Try.ntmps39
    go_wp2_with fail
    refine (HI.out _).mono ?_
    rintro e w' ⟨rfl, rfl⟩
    go_wp2_with fail
    go_quiet (fail)
    go_wp2_with fail
    go_ret3
    exact ⟨rfl, drewN_low _ _ _⟩
set_option maxRecDepth 100000 in
set_option maxHeartbeats 1000000 in
theorem cut_any (k : UInt8) (c : Int) (hc : (k.toNat : Int) = c) (xs : List Int) (hb : ∀ x ∈ xs, 0 ≤ x ∧ x < 256) (hl : xs.length ≤ 9000000000000000000) (w : World) :
    Calls Try.prog 32 #[.string (strOfNums xs), .string ⟨#[k]⟩] w fun e w' => e = .returned (.tuple #[.string (strOfNums (cutB c xs).1), .string (strOfNums (cutB c xs).2.1), .bool (cutB c xs).2.2]) ∧ Below w.heap.size w w' := by
  have hcut := fun W => lcut_any k xs hb hl W
  rw [hc] at hcut
  have HC := Lib.hid hcut
  clear hcut
  generalize (cutB c xs).1 = x1 at HC ⊢
  generalize (cutB c xs).2.1 = x2 at HC ⊢
  generalize (cutB c xs).2.2 = x3 at HC ⊢
  go_enter Try.func32, Try.ntmps32
  go_wp2_with fail
  refine (HC.out _).mono ?_
  rintro e w' ⟨rfl, hb'⟩
  go_wp2_with fail
  go_ret3
  exact ⟨rfl, hb'⟩
/-- What a cut leaves of bytes. -/
theorem cutB_bytes {c : Int} {xs : List Int} (hb : ∀ x ∈ xs, 0 ≤ x ∧ x < 256) : (∀ x ∈ (cutB c xs).1, 0 ≤ x ∧ x < 256) ∧ ∀ x ∈ (cutB c xs).2.1, 0 ≤ x ∧ x < 256 := by
  rcases cutB_ways c xs with ⟨e, _⟩ | ⟨a, b, e, _, e2⟩
  · rw [e]
    exact ⟨hb, by simp⟩
  · rw [e2]
    subst e
    exact ⟨fun x hx => hb x (by simp [hx]), fun x hx => hb x (by simp [hx])⟩
theorem cutB_len (c : Int) (xs : List Int) : (cutB c xs).1.length + (cutB c xs).2.1.length ≤ xs.length ∧ ((cutB c xs).2.2 = true → (cutB c xs).1.length + (cutB c xs).2.1.length + 1 = xs.length) ∧ ((cutB c xs).2.2 = false → (cutB c xs).1 = xs ∧ (cutB c xs).2.1 = []) := by
  rcases cutB_ways c xs with ⟨e, _⟩ | ⟨a, b, e, _, e2⟩
  · rw [e]
    simp
  · rw [e2, e]
    refine ⟨by simp, fun _ => by simp; omega, by simp⟩
#print axioms cut_any
end Go.Proofs.Ytncjfnmkoiclbaa
