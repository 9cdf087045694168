/-
  frame's small functions: which kinds there are, how many bytes a frame has, why bytes don't begin with the mark.
-/
import Derived.Test.YtnjhkjlekepjoaaPlainTaker
import Derived.Test.YtnjhkjlekepjoaaPutCode
import Derived.Test.YtnjhkjlekepjoaaCurTook
import Derived.Test.YtnjhkjlekepjoaaSlices
namespace Go.Proofs.Ytnjhkjlekepjoaa
open Go.RowKit

/-- Are there frames of that kind? -/
def knownB (n : Int) : Bool := decide (n = 1 ∨ n = 2)
theorem known_yes {n : Int} (h : n = 1 ∨ n = 2) (w : World) : Calls Try.prog 57 #[.int .i64 n] w fun e w' => e = .returned (.bool true) ∧ w = w' := by
  rcases h with rfl | rfl
  all_goals
    go_enter Try.func57, Try.ntmps57
    go_wp2
    go_ret
    exact ⟨rfl, rfl⟩
theorem known_no {n : Int} (h : ¬ (n = 1 ∨ n = 2)) (w : World) : Calls Try.prog 57 #[.int .i64 n] w fun e w' => e = .returned (.bool false) ∧ w = w' := by
  have h1 : (n == 1) = false := beq_eq_false_iff_ne.2 (by omega)
  have h2 : (n == 2) = false := beq_eq_false_iff_ne.2 (by omega)
  clear h
  go_enter Try.func57, Try.ntmps57
  go_wp2
  go_ret
  exact ⟨rfl, rfl⟩

/-- How many bytes a frame has. -/
def sizeI (n : Int) : Int := if 0 ≤ n ∧ n ≤ 4096 then 9 + (encI n.toNat).length + n else 0
theorem sizeI_ok {n : Nat} (h : n ≤ 4096) : sizeI n = ((9 + (encI n).length + n : Nat) : Int) := by
  unfold sizeI
  rw [if_pos ⟨by omega, by omega⟩, Int.toNat_natCast]
  omega
theorem sizeI_no {n : Int} (h : n < 0 ∨ 4096 < n) : sizeI n = 0 := by
  unfold sizeI
  rw [if_neg (by omega)]
set_option maxHeartbeats 1000000 in
theorem fsize_any (n : Int) (h1 : -9223372036854775808 ≤ n) (h2 : n ≤ 9223372036854775807) (w : World) :
    Calls Try.prog 55 #[.int .i64 n] w fun e w' => e = .returned (.int .i64 (sizeI n)) ∧ Below w.heap.size w w' := by
  by_cases hn : n < 0
  · rw [sizeI_no (.inl hn)]
    go_enter Try.func55, Try.ntmps55
    go_wp2_with fail
    go_ret
    exact ⟨rfl, Below.refl _ _⟩
  by_cases hg : 4096 < n
  · rw [sizeI_no (.inr hg)]
    have h0 : 0 ≤ n := by omega
    go_enter Try.func55, Try.ntmps55
    go_wp2_with fail
    go_ret
    exact ⟨rfl, Below.refl _ _⟩
  obtain ⟨m, rfl⟩ := Int.eq_ofNat_of_zero_le (show 0 ≤ n by omega)
  have hm : m ≤ 4096 := by omega
  have hl := encI_ten (n := m) (by omega)
  have hs := fun W => size_any m (by omega) W
  rw [sizeI_ok hm]
  generalize (encI m).length = L at hl hs ⊢
  have HS := Lib.hid hs
  obtain ⟨l1, l2⟩ := hl
  clear hs hn hg h1 h2
  go_enter Try.func55, Try.ntmps55
  go_wp2_with fail
  refine (HS.out _).mono ?_
  rintro e w1 ⟨rfl, hb1⟩
  go_wp2_with fail
  go_ret
  refine ⟨?_, hb1⟩
  show Ending.returned (.int .i64 (5 + (L : Int) + (m : Int) + 4)) = _
  rw [show 5 + (L : Int) + (m : Int) + 4 = ((9 + L + m : Nat) : Int) by omega]

theorem markI_short : ∀ (ms xs : List Int), xs.length < ms.length → (∀ j, j < xs.length → xs.getD j 0 = ms.getD j 0) → markI ms xs = 2
  | [], xs, h, _ => by simp at h
  | m :: ms, [], _, _ => rfl
  | m :: ms, x :: xs, h, hj => by
    simp only [markI]
    rw [if_pos (by simpa using hj 0 (by simp))]
    exact markI_short ms xs (by simpa using h) (fun j hjl => by simpa using hj (j + 1) (by simpa using hjl))
theorem markI_all : ∀ (ms xs : List Int), ms.length ≤ xs.length → (∀ j, j < ms.length → xs.getD j 0 = ms.getD j 0) → markI ms xs = 0
  | [], xs, _, _ => rfl
  | m :: ms, [], h, _ => by simp at h
  | m :: ms, x :: xs, h, hj => by
    simp only [markI]
    rw [if_pos (by simpa using hj 0 (by simp))]
    exact markI_all ms xs (by simpa using h) (fun j hjl => by simpa using hj (j + 1) (by simpa using hjl))
theorem markI_other : ∀ (ms xs : List Int) (k : Nat), k < ms.length → k < xs.length → (∀ j, j < k → xs.getD j 0 = ms.getD j 0) → xs.getD k 0 ≠ ms.getD k 0 → markI ms xs = 4
  | [], _, k, h, _, _, _ => by simp at h
  | m :: ms, [], k, _, h, _, _ => by simp at h
  | m :: ms, x :: xs, 0, _, _, _, hne => by
    simp only [markI]
    rw [if_neg (by simpa using hne)]
  | m :: ms, x :: xs, k + 1, h1, h2, hj, hne => by
    simp only [markI]
    rw [if_pos (by simpa using hj 0 (by omega))]
    exact markI_other ms xs k (by simpa using h1) (by simpa using h2) (fun j hjl => by simpa using hj (j + 1) (by omega)) (by simpa using hne)

theorem str_mark : strOfNums markL = ⟨#[199, 84, 71, 1]⟩ := by decide +kernel
theorem markL_byte : ∀ x ∈ markL, 0 ≤ x ∧ x < 256 := by decide

set_option maxRecDepth 100000 in
set_option maxHeartbeats 1000000 in
theorem marked_any (A : Option Addr) (c : Nat) (xs : List Int) (w : World) (hrow : Row w w.heap.size (.slice A xs.length c) xs) (hb : ∀ x ∈ xs, 0 ≤ x ∧ x < 256) :
    Calls Try.prog 29 #[.slice A xs.length c] w fun e w' => e = .returned (.int .i64 (markI markL xs)) ∧ ∃ n, w' = w.drewN n := by
  obtain ⟨A', c', hv, hlc, hcm, _, hcells⟩ := hrow
  injection hv with h1 h2 h3
  subst h1 h3
  unfold maxLen at hcm
  have hsz : xs.length ≤ 9223372036854775807 := by omega
  obtain ⟨M, hM, hM1, hM2, hM3⟩ : ∃ M : Nat, min (xs.length : Int) 4 = M ∧ M ≤ xs.length ∧ M ≤ 4 ∧ (M = xs.length ∨ M = 4) := by
    by_cases h : xs.length ≤ 4
    · exact ⟨xs.length, by omega, by omega, by omega, .inl rfl⟩
    · exact ⟨4, by omega, by omega, by omega, .inr rfl⟩
  have HM3 := Lib.hid hM3; clear hM3
  have HC := Lib.hid hcells; clear hcells
  have HB := Lib.hid hb; clear hb
  go_enter Try.func29, Try.ntmps29
  go_wp2
  have HM := Lib.hid hM; clear hM
  go_loopw [7] (fun i wr => ∃ k n : Nat, k ≤ M ∧ i = .int .i64 k ∧ wr = w.drewN n ∧ Hid (∀ j, j < k → xs.getD j 0 = markL.getD j 0)) (fun i _ => M - (intOf i).toNat)
  case atStart => exact ⟨0, 0, Nat.zero_le _, rfl, rfl, Lib.hid (fun j h => absurd h (Nat.not_lt_zero _))⟩
  case round =>
    obtain ⟨k, n, hk, rfl, rfl, HJ⟩ := hrel
    by_cases hlt : k < M
    · obtain ⟨b, o, rfl, _, hc⟩ := HC.out (by omega)
      have hck := hc k (by omega)
      clear hc
      have hin : xs.getD k 0 ∈ xs := by rw [List.getD, List.getElem?_eq_getElem (by omega)]; simp
      obtain ⟨y0, y1⟩ := HB.out _ hin
      clear hin
      obtain ⟨y, hy⟩ : ∃ y, xs.getD k 0 = y := ⟨_, rfl⟩
      rw [hy] at hck y0 y1
      have HY := Lib.hid hy; clear hy
      have i2 : k < xs.length := by omega
      obtain ⟨z, hz⟩ : ∃ z, markL.getD k 0 = z := ⟨_, rfl⟩
      by_cases he : y = z
      · have hj2 : ∀ j, j < k + 1 → xs.getD j 0 = markL.getD j 0 := fun j hj => by
          rcases Nat.lt_or_ge j k with h | h
          · exact HJ.out j h
          · obtain rfl : j = k := by omega
            rw [HY.out, hz, he]
        have HJ2 := Lib.hid hj2; clear hj2 HJ
        rcases (by omega : k = 0 ∨ k = 1 ∨ k = 2 ∨ k = 3) with rfl | rfl | rfl | rfl
        · have i1 : (0 : Int) < (xs.length : Int) := by omega
          have hzv : z = 199 := hz.symm
          subst hzv
          subst he
          rw [Nat.add_zero] at hck
          clear hz
          go_wp2_with fail
          go_quiet (fail)
          go_wp2_with fail
          exact ⟨⟨1, n + nq, by omega, rfl, rfl, HJ2⟩, by simp [intOf]; omega⟩
        · have i1 : (1 : Int) < (xs.length : Int) := by omega
          have hzv : z = 84 := hz.symm
          subst hzv
          subst he
          skip
          clear hz
          go_wp2_with fail
          go_quiet (fail)
          go_wp2_with fail
          exact ⟨⟨2, n + nq, by omega, rfl, rfl, HJ2⟩, by simp [intOf]; omega⟩
        · have i1 : (2 : Int) < (xs.length : Int) := by omega
          have hzv : z = 71 := hz.symm
          subst hzv
          subst he
          skip
          clear hz
          go_wp2_with fail
          go_quiet (fail)
          go_wp2_with fail
          exact ⟨⟨3, n + nq, by omega, rfl, rfl, HJ2⟩, by simp [intOf]; omega⟩
        · have i1 : (3 : Int) < (xs.length : Int) := by omega
          have hzv : z = 1 := hz.symm
          subst hzv
          subst he
          skip
          clear hz
          go_wp2_with fail
          go_quiet (fail)
          go_wp2_with fail
          exact ⟨⟨4, n + nq, by omega, rfl, rfl, HJ2⟩, by simp [intOf]; omega⟩
      · have hfin : markI markL xs = 4 := markI_other markL xs k (by simp [markL]; omega) i2 HJ.out (by rw [HY.out, hz]; exact he)
        have HF := Lib.hid hfin; clear hfin HJ
        rcases (by omega : k = 0 ∨ k = 1 ∨ k = 2 ∨ k = 3) with rfl | rfl | rfl | rfl
        · have i1 : (0 : Int) < (xs.length : Int) := by omega
          have hzv : z = 199 := hz.symm
          subst hzv
          have hne : (y != 199) = true := bne_iff_ne.2 he
          have hne2 : (y == 199) = false := beq_eq_false_iff_ne.2 he
          rw [Nat.add_zero] at hck
          clear hz
          go_wp2_with fail
          go_quiet (fail)
          go_wp2_with fail
          · go_ret
            exact ⟨by rw [HF.out]; rfl, n + nq, by simp⟩
          · rename_i hx
            simp [bne] at hx
            exact absurd hx he
        · have i1 : (1 : Int) < (xs.length : Int) := by omega
          have hzv : z = 84 := hz.symm
          subst hzv
          have hne : (y != 84) = true := bne_iff_ne.2 he
          have hne2 : (y == 84) = false := beq_eq_false_iff_ne.2 he
          skip
          clear hz
          go_wp2_with fail
          go_quiet (fail)
          go_wp2_with fail
          · go_ret
            exact ⟨by rw [HF.out]; rfl, n + nq, by simp⟩
          · rename_i hx
            simp [bne] at hx
            exact absurd hx he
        · have i1 : (2 : Int) < (xs.length : Int) := by omega
          have hzv : z = 71 := hz.symm
          subst hzv
          have hne : (y != 71) = true := bne_iff_ne.2 he
          have hne2 : (y == 71) = false := beq_eq_false_iff_ne.2 he
          skip
          clear hz
          go_wp2_with fail
          go_quiet (fail)
          go_wp2_with fail
          · go_ret
            exact ⟨by rw [HF.out]; rfl, n + nq, by simp⟩
          · rename_i hx
            simp [bne] at hx
            exact absurd hx he
        · have i1 : (3 : Int) < (xs.length : Int) := by omega
          have hzv : z = 1 := hz.symm
          subst hzv
          have hne : (y != 1) = true := bne_iff_ne.2 he
          have hne2 : (y == 1) = false := beq_eq_false_iff_ne.2 he
          skip
          clear hz
          go_wp2_with fail
          go_quiet (fail)
          go_wp2_with fail
          · go_ret
            exact ⟨by rw [HF.out]; rfl, n + nq, by simp⟩
          · rename_i hx
            simp [bne] at hx
            exact absurd hx he
    · obtain rfl : k = M := by omega
      by_cases h4 : xs.length < 4
      · have hfin : markI markL xs = 2 := markI_short markL xs (by simpa [markL] using h4) (fun j hj => HJ.out j (by rcases HM3.out with h | h <;> omega))
        have HF := Lib.hid hfin; clear hfin
        have h4i : (xs.length : Int) < 4 := by omega
        go_wp2_with fail
        go_ret
        exact ⟨by rw [HF.out]; rfl, _, rfl⟩
      · have hfin : markI markL xs = 0 := markI_all markL xs (by simp [markL]; omega) (fun j hj => HJ.out j (by simp [markL] at hj; rcases HM3.out with h | h <;> omega))
        have HF := Lib.hid hfin; clear hfin
        have h4i : (4 : Int) ≤ (xs.length : Int) := by omega
        go_wp2_with fail
        go_ret
        exact ⟨by rw [HF.out]; rfl, _, rfl⟩
#print axioms fsize_any
#print axioms marked_any
end Go.Proofs.Ytnjhkjlekepjoaa
