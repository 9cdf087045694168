/-
  Sums of bytes in plain numbers: one shift, on numbers of any size, is linear over exclusive or, undoes a doubling, and makes no number below 2^32 nothing; so two rows of bytes as many that differ within 32 bits in a row have unlike sums. No program here.
-/
namespace Go.Proofs.Ytpphgmddancocaa

/-- What is taken by exclusive or where the lowest bit was 1. -/
def polyI : Nat := 3988292384
/-- One shift. -/
def st (m : Nat) : Nat := m / 2 ^^^ (if m % 2 = 1 then polyI else 0)
/-- So many shifts. -/
def it : Nat → Nat → Nat
  | 0, m => m
  | k + 1, m => it k (st m)
/-- The sum's state behind bytes, from state n on. -/
def stateI (n : Nat) (xs : List Nat) : Nat := xs.foldl (fun n x => it 8 (n ^^^ x)) n
/-- The sum of bytes. -/
def sumI (xs : List Nat) : Nat := 4294967295 ^^^ stateI 4294967295 xs
/-- Bytes as one number, the first one lowest. -/
def big : List Nat → Nat
  | [] => 0
  | x :: r => x + 256 * big r

theorem xor_four (a b c d : Nat) : (a ^^^ b) ^^^ (c ^^^ d) = (a ^^^ c) ^^^ (b ^^^ d) := by
  rw [Nat.xor_assoc, Nat.xor_assoc, ← Nat.xor_assoc b c d, Nat.xor_comm b c, Nat.xor_assoc c b d]
theorem odd_xor (a b : Nat) : (a ^^^ b) % 2 = (a % 2 + b % 2) % 2 := by
  have h := Nat.testBit_xor a b 0
  simp only [Nat.testBit_zero] at h
  rcases Nat.mod_two_eq_zero_or_one a with ha | ha <;> rcases Nat.mod_two_eq_zero_or_one b with hb | hb <;> rcases Nat.mod_two_eq_zero_or_one (a ^^^ b) with hc | hc <;> simp_all
theorem st_xor (a b : Nat) : st (a ^^^ b) = st a ^^^ st b := by
  unfold st
  rw [xor_four, Nat.xor_div_two]
  congr 1
  rw [odd_xor]
  rcases Nat.mod_two_eq_zero_or_one a with ha | ha <;> rcases Nat.mod_two_eq_zero_or_one b with hb | hb <;> simp [ha, hb]
theorem st_zero : st 0 = 0 := rfl
theorem st_double (m : Nat) : st (2 * m) = m := by
  unfold st
  rw [if_neg (by omega), Nat.xor_zero]
  omega
theorem poly_lt : polyI < 4294967296 := by decide
theorem st_lt {m : Nat} (h : m < 4294967296) : st m < 4294967296 := by
  unfold st
  have : m / 2 < 2 ^ 32 := by omega
  have hp : (if m % 2 = 1 then polyI else 0) < 2 ^ 32 := by split <;> decide
  exact Nat.xor_lt_two_pow this hp
theorem st_pos {m : Nat} (h : m < 4294967296) (h0 : 0 < m) : 0 < st m := by
  rcases Nat.eq_zero_or_pos (st m) with hz | hz
  · unfold st at hz
    by_cases ho : m % 2 = 1
    · rw [if_pos ho] at hz
      have he : m / 2 = polyI := by
        have := congrArg (· ^^^ polyI) hz
        simpa [Nat.xor_assoc] using this
      unfold polyI at he
      omega
    · rw [if_neg ho, Nat.xor_zero] at hz
      omega
  · exact hz

theorem it_xor (k : Nat) : ∀ a b : Nat, it k (a ^^^ b) = it k a ^^^ it k b := by
  induction k with
  | zero => intro a b; rfl
  | succ k ih => intro a b; simp only [it]; rw [st_xor, ih]
theorem it_zero (k : Nat) : it k 0 = 0 := by
  induction k with
  | zero => rfl
  | succ k ih => simp only [it, st_zero, ih]
theorem it_add (j : Nat) : ∀ (k m : Nat), it (j + k) m = it k (it j m) := by
  induction j with
  | zero => intro k m; simp [it]
  | succ j ih => intro k m; rw [Nat.succ_add]; simp only [it]; rw [ih]
theorem it_double (k : Nat) : ∀ m : Nat, it k (2 ^ k * m) = m := by
  induction k with
  | zero => intro m; simp [it]
  | succ k ih => intro m; simp only [it]; rw [Nat.pow_succ, Nat.mul_comm (2 ^ k) 2, Nat.mul_assoc, st_double, ih]
theorem it_lt (k : Nat) : ∀ {m : Nat}, m < 4294967296 → it k m < 4294967296 := by
  induction k with
  | zero => intro m h; exact h
  | succ k ih => intro m h; simp only [it]; exact ih (st_lt h)
theorem it_pos (k : Nat) : ∀ {m : Nat}, m < 4294967296 → 0 < m → 0 < it k m := by
  induction k with
  | zero => intro m _ h; exact h
  | succ k ih => intro m h h0; simp only [it]; exact ih (st_lt h) (st_pos h h0)

theorem add_xor {x k : Nat} (m : Nat) (h : x < 2 ^ k) : x + 2 ^ k * m = x ^^^ (2 ^ k * m) := by
  apply Nat.eq_of_testBit_eq
  intro i
  rw [Nat.testBit_xor, Nat.add_comm, Nat.testBit_two_pow_mul_add _ h, Nat.testBit_two_pow_mul]
  by_cases hi : i < k
  · simp [hi, Nat.not_le.2 hi]
  · have : x.testBit i = false := Nat.testBit_lt_two_pow (Nat.lt_of_lt_of_le h (Nat.pow_le_pow_right (by omega) (by omega)))
    simp [hi, this, Nat.not_lt.1 hi]

/-- All shifts at once, of all bytes as one number. -/
theorem state_big : ∀ (xs : List Nat) (n : Nat), (∀ x ∈ xs, x < 256) → stateI n xs = it (8 * xs.length) (n ^^^ big xs)
  | [], n, _ => by simp [stateI, big, it]
  | x :: r, n, h => by
    have hx : x < 2 ^ 8 := by have := h x (by simp); omega
    have ih := state_big r (it 8 (n ^^^ x)) (fun y hy => h y (by simp [hy]))
    have e : stateI n (x :: r) = stateI (it 8 (n ^^^ x)) r := rfl
    rw [e, ih]
    have e2 : big (x :: r) = x ^^^ (2 ^ 8 * big r) := add_xor (big r) hx
    rw [e2, ← Nat.xor_assoc, List.length_cons, show 8 * (r.length + 1) = 8 + 8 * r.length by omega, it_add, it_xor 8 (n ^^^ x) (2 ^ 8 * big r), it_double]

/-- Turned bits are told. -/
theorem state_told {xs ys : List Nat} {from_ turn n : Nat} (hl : xs.length = ys.length) (hx : ∀ x ∈ xs, x < 256) (hy : ∀ y ∈ ys, y < 256) (ht : turn < 4294967296) (h0 : 0 < turn) (hf : from_ ≤ 8 * xs.length) (hd : big ys = big xs ^^^ (2 ^ from_ * turn)) : stateI n xs ≠ stateI n ys := by
  intro he
  rw [state_big xs n hx, state_big ys n hy, ← hl, hd, ← Nat.xor_assoc, it_xor _ (n ^^^ big xs)] at he
  have hz : it (8 * xs.length) (2 ^ from_ * turn) = 0 := by
    have := congrArg (it (8 * xs.length) (n ^^^ big xs) ^^^ ·) he
    simp only [Nat.xor_self, ← Nat.xor_assoc, Nat.zero_xor] at this
    exact this.symm
  rw [show 8 * xs.length = from_ + (8 * xs.length - from_) by omega, it_add, it_double] at hz
  have := it_pos (8 * xs.length - from_) ht h0
  omega
theorem xor_inj {a b c : Nat} (h : a ^^^ b = a ^^^ c) : b = c := by
  have := congrArg (a ^^^ ·) h
  simpa [← Nat.xor_assoc] using this
theorem sum_told {xs ys : List Nat} {from_ turn : Nat} (hl : xs.length = ys.length) (hx : ∀ x ∈ xs, x < 256) (hy : ∀ y ∈ ys, y < 256) (ht : turn < 4294967296) (h0 : 0 < turn) (hf : from_ ≤ 8 * xs.length) (hd : big ys = big xs ^^^ (2 ^ from_ * turn)) : sumI xs ≠ sumI ys :=
  fun h => state_told hl hx hy ht h0 hf hd (xor_inj h)

/-- A sum goes on from a sum. -/
theorem state_append (n : Nat) (xs ys : List Nat) : stateI n (xs ++ ys) = stateI (stateI n xs) ys := by simp [stateI, List.foldl_append]
theorem sum_more (xs ys : List Nat) : sumI (xs ++ ys) = 4294967295 ^^^ stateI (4294967295 ^^^ sumI xs) ys := by
  unfold sumI
  rw [state_append, ← Nat.xor_assoc, Nat.xor_self, Nat.zero_xor]
theorem state_lt : ∀ (xs : List Nat) {n : Nat}, n < 4294967296 → (∀ x ∈ xs, x < 256) → stateI n xs < 4294967296
  | [], n, h, _ => h
  | x :: r, n, h, hb => by
    have hx := hb x (by simp)
    exact state_lt r (it_lt 8 (Nat.xor_lt_two_pow (n := 32) (by omega) (by omega))) (fun y hy => hb y (by simp [hy]))
theorem sum_lt {xs : List Nat} (hb : ∀ x ∈ xs, x < 256) : sumI xs < 4294967296 := Nat.xor_lt_two_pow (n := 32) (by omega) (state_lt xs (by omega) hb)

/-- One bit turned. -/
theorem big_flip : ∀ (xs : List Nat) (k j : Nat) (hk : k < xs.length), (∀ x ∈ xs, x < 256) → j < 8 → big (xs.set k (xs[k] ^^^ 2 ^ j)) = big xs ^^^ 2 ^ (8 * k + j)
  | x :: r, 0, j, _, h, hj => by
    have hx : x < 2 ^ 8 := by have := h x (by simp); omega
    have hf : x ^^^ 2 ^ j < 2 ^ 8 := Nat.xor_lt_two_pow hx (Nat.pow_lt_pow_right (by omega) hj)
    have e1 : big (x :: r) = x ^^^ (2 ^ 8 * big r) := add_xor (big r) hx
    have e2 : big ((x ^^^ 2 ^ j) :: r) = (x ^^^ 2 ^ j) ^^^ (2 ^ 8 * big r) := add_xor (big r) hf
    simp only [List.set_cons_zero, List.getElem_cons_zero]
    rw [e1, e2, Nat.mul_zero, Nat.zero_add, Nat.xor_assoc, Nat.xor_comm (2 ^ j), ← Nat.xor_assoc]
  | x :: r, k + 1, j, hk, h, hj => by
    have hx : x < 2 ^ 8 := by have := h x (by simp); omega
    have ih := big_flip r k j (by simpa using hk) (fun y hy => h y (by simp [hy])) hj
    have e1 : big (x :: r) = x ^^^ (2 ^ 8 * big r) := add_xor (big r) hx
    simp only [List.set_cons_succ, List.getElem_cons_succ]
    have e2 : big (x :: r.set k (r[k]'(by simpa using hk) ^^^ 2 ^ j)) = x ^^^ (2 ^ 8 * big (r.set k (r[k]'(by simpa using hk) ^^^ 2 ^ j))) := add_xor _ hx
    rw [e1, e2, ih, Nat.xor_assoc]
    congr 1
    apply Nat.eq_of_testBit_eq
    intro i
    rw [show 2 ^ (8 * (k + 1) + j) = 2 ^ 8 * 2 ^ (8 * k + j) by rw [← Nat.pow_add]; congr 1; omega]
    simp only [Nat.testBit_xor, Nat.testBit_two_pow_mul]
    cases decide (8 ≤ i) <;> simp
/-- The bits that were turned up to here, and one more. -/
theorem turn_more {turn i : Nat} (h : turn / 2 ^ i % 2 = 1) : turn % 2 ^ (i + 1) = turn % 2 ^ i ^^^ 2 ^ i := by
  rw [Nat.pow_succ, Nat.mod_mul, h]
  exact add_xor 1 (Nat.mod_lt _ (Nat.two_pow_pos i)) |>.trans (by rw [Nat.mul_one])
theorem turn_same {turn i : Nat} (h : turn / 2 ^ i % 2 = 0) : turn % 2 ^ (i + 1) = turn % 2 ^ i := by
  rw [Nat.pow_succ, Nat.mod_mul, h, Nat.mul_zero, Nat.add_zero]
theorem pow_xor (k a b : Nat) : 2 ^ k * (a ^^^ b) = (2 ^ k * a) ^^^ (2 ^ k * b) := by
  apply Nat.eq_of_testBit_eq
  intro i
  simp only [Nat.testBit_xor, Nat.testBit_two_pow_mul]
  cases decide (k ≤ i) <;> simp
/-- A step of the turning: the bytes with the bit at place at + i turned, too. -/
theorem turn_step {xs : List Nat} {B at_ turn i : Nat} (hb : ∀ x ∈ xs, x < 256) (hk : (at_ + i) / 8 < xs.length) (hinv : big xs = B ^^^ (2 ^ at_ * (turn % 2 ^ i))) (h : turn / 2 ^ i % 2 = 1) :
    big (xs.set ((at_ + i) / 8) (xs[(at_ + i) / 8] ^^^ 2 ^ ((at_ + i) % 8))) = B ^^^ (2 ^ at_ * (turn % 2 ^ (i + 1))) := by
  rw [big_flip xs _ _ hk hb (Nat.mod_lt _ (by omega)), hinv, turn_more h, pow_xor, ← Nat.pow_add, Nat.xor_assoc, show 8 * ((at_ + i) / 8) + (at_ + i) % 8 = at_ + i by omega]
#print axioms sum_told
#print axioms turn_step
end Go.Proofs.Ytpphgmddancocaa
