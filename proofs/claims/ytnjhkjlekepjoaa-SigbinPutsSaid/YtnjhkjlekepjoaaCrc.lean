/-
  crc.More, crc.Sum and crc.Bytes, and the document's Sum and Bytes: what each call answers.
-/
import Derived.Test.YtnjhkjlekepjoaaCrcShift
import Derived.Test.YtnjhkjlekepjoaaSlices
namespace Go.Proofs.Ytnjhkjlekepjoaa
open Go.RowKit

/-- Bytes as natural numbers. -/
def toN (xs : List Int) : List Nat := xs.map Int.toNat
theorem toN_length (xs : List Int) : (toN xs).length = xs.length := List.length_map _
theorem toN_append (xs ys : List Int) : toN (xs ++ ys) = toN xs ++ toN ys := List.map_append
theorem toN_byte {xs : List Int} (hb : ∀ x ∈ xs, 0 ≤ x ∧ x < 256) : ∀ x ∈ toN xs, x < 256 := by
  intro x hx
  obtain ⟨y, hy, rfl⟩ := List.mem_map.1 hx
  have := hb y hy
  omega
theorem state_next (n : Nat) (xs : List Int) {k : Nat} (hk : k < xs.length) : stateI n (toN (xs.take (k + 1))) = it 8 (stateI n (toN (xs.take k)) ^^^ (xs.getD k 0).toNat) := by
  have h : xs.take (k + 1) = xs.take k ++ [xs.getD k 0] := by rw [List.take_succ_eq_append_getElem hk]; simp [List.getD, List.getElem?_eq_getElem hk]
  rw [h, toN_append, state_append]
  rfl
theorem compl_xor {n : Nat} (hn : n < 4294967296) : 4294967295 - n = 4294967295 ^^^ n := by
  have h := congrArg BitVec.toNat (BitVec.allOnes_xor (x := BitVec.ofNat 32 n))
  rw [BitVec.toNat_xor, BitVec.toNat_not, BitVec.toNat_ofNat, BitVec.toNat_allOnes, Nat.mod_eq_of_lt (by omega)] at h
  exact h.symm
theorem max_xor (n : Nat) (hn : n < 4294967296) : bits .xor .u32 IntKind.u32.max (n : Int) = ((4294967295 ^^^ n : Nat) : Int) := u32_xor_nat 4294967295 n (by omega) hn
/-- The sum of bytes. -/
def sumX (xs : List Int) : Nat := sumI (toN xs)

set_option maxRecDepth 100000 in
set_option maxHeartbeats 1000000 in
theorem more_any (n : Nat) (hn : n < 4294967296) (A : Option Addr) (c : Nat) (xs : List Int) (w : World) (hrow : Row w w.heap.size (.slice A xs.length c) xs) (hb : ∀ x ∈ xs, 0 ≤ x ∧ x < 256) :
    Calls Try.prog 74 #[.int .u32 n, .slice A xs.length c] w fun e w' => e = .returned (.int .u32 (4294967295 ^^^ stateI (4294967295 ^^^ n) (toN xs) : Nat)) ∧ w = w' := by
  obtain ⟨A', c', hv, hlc, hcm, _, hcells⟩ := hrow
  injection hv with h1 h2 h3
  subst h1 h3
  unfold maxLen at hcm
  have hsz : xs.length ≤ 9223372036854775807 := by omega
  have HC := Lib.hid hcells; clear hcells
  have HB := Lib.hid hb; clear hb
  have hst : (4294967295 ^^^ n) < 4294967296 := Nat.xor_lt_two_pow (n := 32) (by omega) hn
  have hm0 := max_xor n hn
  generalize 4294967295 ^^^ n = n0 at hst hm0 ⊢
  go_enter Try.func74, Try.ntmps74
  go_wp2
  go_loop [5, 12] (fun s i => ∃ k m : Nat, k ≤ xs.length ∧ m < 4294967296 ∧ i = .int .i64 k ∧ s = .int .u32 m ∧ Hid (m = stateI n0 (toN (xs.take k)))) (fun _ i => xs.length - (intOf i).toNat)
  case atStart => exact ⟨0, n0, Nat.zero_le _, hst, rfl, rfl, Lib.hid rfl⟩
  case round =>
    obtain ⟨k, m, hk, hm, rfl, rfl, HI⟩ := hrel
    by_cases hlt : k < xs.length
    · obtain ⟨b, o, rfl, _, hc⟩ := HC.out (by omega)
      have hck := hc k (by omega)
      clear hc
      have hin : xs.getD k 0 ∈ xs := by rw [List.getD, List.getElem?_eq_getElem (by omega)]; simp
      obtain ⟨y0, y1⟩ := HB.out _ hin
      clear hin
      have hnx := state_next n0 xs hlt
      rw [← HI.out] at hnx
      obtain ⟨y, hy⟩ := Int.eq_ofNat_of_zero_le y0
      rw [hy] at hck hnx y1
      rw [Int.toNat_natCast] at hnx
      clear hy y0
      have hxor := u32_xor_nat m y hm (by omega)
      have hms : m ^^^ y < 4294967296 := Nat.xor_lt_two_pow (n := 32) hm (by omega)
      generalize m ^^^ y = z at hnx hxor hms
      have HN := Lib.hid hnx; clear hnx HI
      have hz := it_lt 8 hms
      go_wp2_with fail
      refine (shifted_any z hms _).mono ?_
      rintro e w1 ⟨rfl, rfl⟩
      go_wp2_with fail
      go_round
      case rel => exact ⟨k + 1, it 8 z, by omega, hz, by go_num, rfl, Lib.hid HN.out.symm⟩
      case measure => simp [intOf]; omega
    · obtain rfl : k = xs.length := by omega
      have he : m = stateI n0 (toN xs) := by rw [HI.out, List.take_length]
      have hmx := max_xor m hm
      have HE := Lib.hid he
      clear he HI hm hm0
      go_wp2_with fail
      go_ret
      exact ⟨by rw [← HE.out]; rfl, rfl⟩
#print axioms more_any

/-- The slice of slices v reads as the parts xss. -/
def Parts (w : World) (B : Nat) (v : Value) (xss : List (List Int)) : Prop :=
  ∃ us, VRow w B v us ∧ us.length = xss.length ∧ ∀ (i : Nat) (u : Value) (xs : List Int), us[i]? = some u → xss[i]? = some xs → Row w B u xs
theorem Parts.below {w w' : World} {B : Nat} {v : Value} {xss : List (List Int)} (h : Parts w B v xss) (hb : Below B w w') : Parts w' B v xss := by
  obtain ⟨us, h1, h2, h3⟩ := h
  exact ⟨us, h1.below hb, h2, fun i u xs e1 e2 => (h3 i u xs e1 e2).below hb⟩
theorem Parts.none_ (w : World) (B : Nat) : Parts w B (.slice none 0 0) [] := ⟨[], VRow.nil w B, rfl, fun i u xs h => by simp at h⟩
theorem Parts.one {w : World} {B g : Nat} {u : Value} {xs : List Int} (hg : g < B) (hc : w.cell? ⟨g, 0, none⟩ = some u) (h : Row w B u xs) : Parts w B (.slice (some ⟨g, 0, none⟩) 1 1) [xs] :=
  ⟨[u], ⟨_, 1, rfl, Nat.le_refl _, by simp [maxLen], by simp, fun _ => ⟨g, 0, rfl, hg, fun i u' hi => by
    match i with
    | 0 => simp at hi; subst hi; exact hc
    | i + 1 => simp at hi⟩⟩, rfl, fun i u' ys h1 h2 => by
    match i with
    | 0 => simp at h1 h2; subst h1 h2; exact h
    | i + 1 => simp at h1⟩
theorem Parts.two {w : World} {B g : Nat} {u u2 : Value} {xs ys : List Int} (hg : g < B) (hc : w.cell? ⟨g, 0, none⟩ = some u) (hc2 : w.cell? ⟨g, 1, none⟩ = some u2) (h : Row w B u xs) (h2 : Row w B u2 ys) : Parts w B (.slice (some ⟨g, 0, none⟩) 2 2) [xs, ys] :=
  ⟨[u, u2], ⟨_, 2, rfl, Nat.le_refl _, by simp [maxLen], by simp, fun _ => ⟨g, 0, rfl, hg, fun i u' hi => by
    match i with
    | 0 => simp at hi; subst hi; exact hc
    | 1 => simp at hi; subst hi; exact hc2
    | i + 2 => simp at hi⟩⟩, rfl, fun i u' zs h3 h4 => by
    match i with
    | 0 => simp at h3 h4; subst h3 h4; exact h
    | 1 => simp at h3 h4; subst h3 h4; exact h2
    | i + 2 => simp at h3⟩

theorem sumX_more (xs ys : List Int) : sumX (xs ++ ys) = 4294967295 ^^^ stateI (4294967295 ^^^ sumX xs) (toN ys) := by
  unfold sumX
  rw [toN_append, sum_more]
theorem sumX_lt {xs : List Int} (hb : ∀ x ∈ xs, 0 ≤ x ∧ x < 256) : sumX xs < 4294967296 := sum_lt (toN_byte hb)
theorem sumX_nil : sumX [] = 0 := by decide

set_option maxRecDepth 100000 in
set_option maxHeartbeats 1000000 in
theorem sum_any (v : Value) (xss : List (List Int)) (w : World) (h : Parts w w.heap.size v xss) (hb : ∀ xs ∈ xss, ∀ x ∈ xs, 0 ≤ x ∧ x < 256) :
    Calls Try.prog 59 #[v] w fun e w' => e = .returned (.int .u32 (sumX xss.flatten : Nat)) ∧ w = w' := by
  obtain ⟨us, ⟨A, c, rfl, hlc, hcm, _, hcells⟩, hul, hrow⟩ := h
  unfold maxLen at hcm
  have hsz : us.length ≤ 9223372036854775807 := by omega
  have HC := Lib.hid hcells; clear hcells
  have HB := Lib.hid hb; clear hb
  have HR := Lib.hid hrow; clear hrow
  have HU := Lib.hid hul; clear hul
  go_enter Try.func59, Try.ntmps59
  go_wp2
  go_loop [3, 8] (fun s i => ∃ k m : Nat, k ≤ us.length ∧ m < 4294967296 ∧ i = .int .i64 k ∧ s = .int .u32 m ∧ Hid (m = sumX (xss.take k).flatten)) (fun _ i => us.length - (intOf i).toNat)
  case atStart => exact ⟨0, 0, Nat.zero_le _, by omega, rfl, rfl, Lib.hid (by simp [sumX_nil])⟩
  case round =>
    obtain ⟨k, m, hk, hm, rfl, rfl, HI⟩ := hrel
    by_cases hlt : k < us.length
    · obtain ⟨b, o, rfl, _, hc⟩ := HC.out (by omega)
      have hue : us[k]? = some us[k] := List.getElem?_eq_getElem hlt
      have hck := hc k _ hue
      clear hc
      have hlx : k < xss.length := by rw [← HU.out]; exact hlt
      have hxe : xss[k]? = some xss[k] := List.getElem?_eq_getElem hlx
      have hr := HR.out k _ _ hue hxe
      have hbx := HB.out xss[k] (List.getElem_mem hlx)
      have hnx : sumX (xss.take (k + 1)).flatten = 4294967295 ^^^ stateI (4294967295 ^^^ m) (toN xss[k]) := by
        rw [List.take_succ_eq_append_getElem hlx, List.flatten_append, HI.out, ← sumX_more]
        simp
      clear hue hxe
      generalize us[k] = u at *
      generalize xss[k] = xs at *
      obtain ⟨A2, c2, rfl, _⟩ := id hr
      have HM := Lib.hid (more_any m hm A2 c2 xs w hr hbx)
      have hlt2 : sumX (xss.take (k + 1)).flatten < 4294967296 := sumX_lt (fun x hx => by
        obtain ⟨ys, hys, hx⟩ := List.mem_flatten.1 hx
        exact HB.out ys (List.mem_of_mem_take hys) x hx)
      rw [← hnx] at HM
      clear hnx HI hr hbx
      obtain ⟨m2, HS⟩ : ∃ m2, Hid (m2 = sumX (xss.take (k + 1)).flatten) := ⟨_, Lib.hid rfl⟩
      rw [← HS.out] at HM hlt2
      go_wp2_with fail
      refine HM.out.mono ?_
      rintro e w1 ⟨rfl, rfl⟩
      go_wp2_with fail
      go_round
      case rel => exact ⟨k + 1, m2, by omega, hlt2, by go_num, rfl, Lib.hid HS.out⟩
      case measure => simp [intOf]; omega
    · obtain rfl : k = us.length := by omega
      have he : m = sumX xss.flatten := by rw [HI.out, HU.out, List.take_length]
      have HE := Lib.hid he
      clear he HI
      go_wp2_with fail
      go_ret
      exact ⟨by rw [← HE.out]; rfl, rfl⟩
#print axioms sum_any
end Go.Proofs.Ytnjhkjlekepjoaa
