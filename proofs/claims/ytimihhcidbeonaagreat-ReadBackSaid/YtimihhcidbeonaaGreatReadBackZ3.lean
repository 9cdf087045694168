/-
  What the theorem of ReadBack rests on, part 3 of 15.
-/
import Derived.Test.YtimihhcidbeonaaGreatRows
import Derived.WalkKit
import Derived.WalkSpells
import Derived.WalkLawsBesides
import Derived.LoopTactic
import Derived.Lib.Hide
import Derived.Outline
import Derived.Laws.BitsAllLaws
import Derived.Lib.SliceRun
import Derived.RangeFuncNested
import Derived.RangeFuncBox
import Derived.RangeFuncLeaves
import Derived.OrdersIn
import Derived.Deep.RegionHeld3
import Derived.TacticsIn
import Derived.Laws.StructEq
import Derived.MapKept
import Derived.Test.YtimihhcidbeonaaGreatReadBackZ2
namespace Go.Proofs.YtimihhcidbeonaaGreat
theorem checkT_append {sig : List Pr} {t m : List Pn} (h : (checkT sig t).1 = 0) (h2 : (checkT sig m).1 = 0) (hl : lateG t m = false) : (checkT sig (t ++ m)).1 = 0 := by
  obtain ⟨hs, ha⟩ := checkT_zero.1 h
  obtain ⟨-, hb⟩ := checkT_zero.1 h2
  refine checkT_zero.2 ⟨hs, fun j hj => ?_⟩
  rw [List.length_append] at hj
  have e : ∀ i, i < t.length → (t ++ m).getD i default = t.getD i default := fun i hi => by simp [List.getD, List.getElem?_append_left hi]
  have e2 : ∀ i, (t ++ m).getD (t.length + i) default = m.getD i default := fun i => by
    simp only [List.getD]
    rw [List.getElem?_append_right (by omega)]
    congr 2
    omega
  by_cases hjt : j < t.length
  · have := ha j hjt
    unfold whyT at this ⊢
    rwa [e j hjt, e (j - 1) (by omega)]
  · obtain ⟨i, rfl⟩ : ∃ i, j = t.length + i := ⟨j - t.length, by omega⟩
    have := hb i (by omega)
    unfold whyT at this ⊢
    rcases Nat.eq_zero_or_pos i with h0 | h0
    · subst h0
      rw [if_neg (by omega)] at this
      rw [e2, Nat.add_zero]
      have hn : ¬ (0 < t.length ∧ (m.getD 0 default).tm < ((t ++ m).getD (t.length - 1) default).tm) := by
        rintro ⟨q1, q2⟩
        rw [e _ (by omega)] at q2
        unfold lateG at hl
        rw [decide_eq_true q1, decide_eq_true q2] at hl
        cases hl
      rw [if_neg hn]
      exact this
    · rw [e2, show t.length + i - 1 = t.length + (i - 1) by omega, e2]
      split at this
      · cases this
      · rename_i hn
        rw [if_neg (fun x => hn ⟨h0, x.2⟩)]
        exact this
theorem sig_args {sig : List Pr} (h : checkP sig = 0) : ∀ q ∈ sig, q.args.length ≤ 8 ∧ ∀ t ∈ q.args, -9223372036854775808 ≤ t ∧ t ≤ 9223372036854775807 := by
  intro q hq
  obtain ⟨i, hi⟩ := List.mem_iff_getElem?.1 hq
  have ho := (checkP_zero.1 h).2 i q hi
  exact ⟨ho.2.2.1, fun t ht => by have := ho.2.2.2 t ht; omega⟩
theorem getU_right {sig : List Pr} {xs : List Int} (hb : ∀ x ∈ xs, 0 ≤ x ∧ x < 256) (hs : checkP sig = 0) (h : (getU sig xs).2 = 0) : (checkT sig (getU sig xs).1).1 = 0 := by
  obtain ⟨-, h2, -, -⟩ := getU_back hb (fun q hq => (sig_args hs q hq).2) h
  have h3 := (checkB_zero (putB_ok (by rw [h2])).1).2.1
  rwa [map_bare_p] at h3
/-- What was read is right. -/
structure Ig (g : Gp) : Prop where
  isg : decide (0 < g.fr) = g.isg
  fr : 0 ≤ g.fr
  trc : (checkT g.sig g.pts).1 = 0
  nil : g.isg = false → g.sig = [] ∧ g.pts = []
theorem checkT_p {sig : List Pr} {t : List Pn} (h : (checkT sig t).1 = 0) : checkP sig = 0 := (checkT_zero.1 h).1
theorem Ig.zero : Ig noG := ⟨rfl, Int.le_refl _, by unfold noG; exact checkT_zero.2 ⟨checkP_none (Nat.zero_le _) (fun j hj => absurd hj (Nat.not_lt_zero _)), fun j hj => absurd hj (Nat.not_lt_zero _)⟩, fun _ => ⟨rfl, rfl⟩⟩
theorem Ig.frame {g : Gp} {k : Int} {p : List Int} (h : Ig g) (hb : ∀ y ∈ p, 0 ≤ y ∧ y < 256) (he : (frameG g k p).2 = 0) :
    (frameG g k p).1.isg = true ∧ (checkT (frameG g k p).1.sig (frameG g k p).1.pts).1 = 0 := by
  unfold frameG at he ⊢
  split
  · rename_i h1
    rw [if_pos h1] at he
    split
    · rename_i h2
      rw [if_pos h2] at he
      exact absurd he h2
    · rename_i h2
      have hz : (getSig p).2 = 0 := by simpa using h2
      rw [if_neg h2] at he
      split
      · rename_i h3
        rw [if_pos h3] at he
        cases he
      · rename_i h3
        refine ⟨rfl, ?_⟩
        cases hi : g.isg with
        | true =>
          have : (getSig p).1 = g.sig := Classical.byContradiction fun e => h3 ⟨hi, e⟩
          show (checkT (getSig p).1 g.pts).1 = 0
          rw [this]
          exact h.trc
        | false =>
          show (checkT (getSig p).1 g.pts).1 = 0
          rw [(h.nil hi).2]
          exact checkT_zero.2 ⟨(getSig_back hb hz).1, fun j hj => absurd hj (Nat.not_lt_zero _)⟩
  · rename_i h1
    rw [if_neg h1] at he
    split
    · rename_i h2; rw [if_pos h2] at he; cases he
    · rename_i h2
      rw [if_neg h2] at he
      split
      · rename_i h3; rw [if_pos h3] at he; cases he
      · rename_i h3
        rw [if_neg h3] at he
        split
        · rename_i h4; rw [if_pos h4] at he; exact absurd he h4
        · rename_i h4
          rw [if_neg h4] at he
          have hz : (getU g.sig p).2 = 0 := by simpa using h4
          split
          · rename_i h5; rw [if_pos h5] at he; cases he
          · rename_i h5
            exact ⟨by cases hi : g.isg with
              | true => rfl
              | false => exact absurd hi h3, checkT_append h.trc (getU_right hb (checkT_p h.trc) hz) (by simpa using h5)⟩
theorem Ig.step {g : Gp} {s : Sj} (h : Ig g) (hb : ∀ y ∈ s.pay, 0 ≤ y ∧ y < 256) : Ig (takeS g s) := by
  unfold takeS
  split
  · exact ⟨h.isg, h.fr, h.trc, h.nil⟩
  · split
    · exact ⟨h.isg, h.fr, h.trc, h.nil⟩
    · rename_i h2
      obtain ⟨h3, h4⟩ := h.frame hb (k := s.kind) (by simpa using h2)
      have := h.fr
      refine ⟨?_, by show 0 ≤ g.fr + 1; omega, h4, fun e => ?_⟩
      · show decide (0 < g.fr + 1) = (frameG g s.kind s.pay).1.isg
        rw [h3, decide_eq_true (by omega)]
      · exact absurd (h3.symm.trans e) (by decide)
theorem Ig.take {g : Gp} {l : List Sj} (h : Ig g) (hl : ∀ s ∈ l, ∀ y ∈ s.pay, 0 ≤ y ∧ y < 256) : Ig (takeL g l) := by
  induction l generalizing g with
  | nil => exact h
  | cons s l ih => exact ih (h.step (hl s (List.mem_cons_self ..))) (fun x hx => hl x (List.mem_cons_of_mem _ hx))
/-- The last time; 0. -/
def lastT (l : List Pn) : Int := (l.getD (l.length - 1) default).tm
theorem late_last {l m : List Pn} (h : 0 ≤ (m.getD 0 default).tm) : lateG l m = decide ((m.getD 0 default).tm < lastT l) := by
  unfold lateG lastT
  by_cases hl : 0 < l.length
  · rw [decide_eq_true hl, Bool.true_and]
  · have : l = [] := List.eq_nil_of_length_eq_zero (by omega)
    subst this
    have e : ((([] : List Pn).getD (([] : List Pn).length - 1) default).tm : Int) = 0 := rfl
    rw [e, decide_eq_false (by omega : ¬ (m.getD 0 default).tm < 0)]
    rfl
end Go.Proofs.YtimihhcidbeonaaGreat

namespace Go.Proofs.YtimihhcidbeonaaGreat
open Go.RowKit
theorem st_even {m : Nat} (h : m % 2 = 0) : st m = m / 2 := by unfold st; rw [if_neg (by omega), Nat.xor_zero]
theorem st_odd {m : Nat} (h : m % 2 = 1) : st m = m / 2 ^^^ 3988292384 := by unfold st; rw [if_pos h]; rfl
theorem it_next (k m : Nat) : it (k + 1) m = it k (st m) := rfl
set_option maxRecDepth 100000 in
set_option maxHeartbeats 1000000 in
theorem shifted_any (n : Nat) (hn : n < 4294967296) (w : World) :
    Calls Tryz.prog 218 #[.int .u32 n] w fun e w' => e = .returned (.int .u32 (it 8 n : Nat)) ∧ w = w' := by
  go_enter Tryz.func218, Tryz.ntmps218
  go_wp2
  go_loop [0, 4] (fun s i => ∃ k m : Nat, k ≤ 8 ∧ m < 4294967296 ∧ i = .int .i64 k ∧ s = .int .u32 m ∧ Hid (it (8 - k) m = it 8 n)) (fun _ i => 8 - (intOf i).toNat)
  case atStart => exact ⟨0, n, by omega, hn, rfl, rfl, Lib.hid rfl⟩
  case round =>
    obtain ⟨k, m, hk, hm, rfl, rfl, HI⟩ := hrel
    by_cases hlt : k < 8
    · have hnx : it (8 - (k + 1)) (st m) = it 8 n := by rw [← HI.out, ← it_next]; congr 1; omega
      have hsl := st_lt hm
      have hand := u32_and_nat m 1 hm (by omega)
      rw [nat_mask1] at hand
      rcases Nat.mod_two_eq_zero_or_one m with ho | ho
      · rw [ho] at hand
        rw [st_even ho] at hnx hsl
        have HN := Lib.hid hnx; clear hnx
        clear ho
        simp only [Int.natCast_one] at hand
        go_wp2_with fail
        go_round
        case rel => exact ⟨k + 1, m / 2, by omega, hsl, by go_num, by go_num, HN⟩
        case measure => simp [intOf]; omega
      · rw [ho] at hand
        rw [st_odd ho] at hnx hsl
        have hxor : bits .xor .u32 ((m : Int) / 2) 3988292384 = ((m / 2 ^^^ 3988292384 : Nat) : Int) := u32_xor_nat (m / 2) 3988292384 (by omega) (by omega)
        have HN := Lib.hid hnx; clear hnx
        clear ho
        simp only [Int.natCast_one] at hand
        go_wp2_with fail
        go_round
        case rel => exact ⟨k + 1, m / 2 ^^^ 3988292384, by omega, hsl, by go_num, by go_num, HN⟩
        case measure => simp [intOf]; omega
    · obtain rfl : k = 8 := by omega
      have he : m = it 8 n := HI.out
      have HE := Lib.hid he; clear he
      go_wp2_with fail
      go_ret
      exact ⟨by rw [HE.out]; rfl, rfl⟩
end Go.Proofs.YtimihhcidbeonaaGreat
namespace Go.Proofs.YtimihhcidbeonaaGreat
open Go.RowKit
/-- Bytes as natural numbers. -/
def toN (xs : List Int) : List Nat := xs.map Int.toNat
theorem toN_append (xs ys : List Int) : toN (xs ++ ys) = toN xs ++ toN ys := List.map_append
theorem toN_byte {xs : List Int} (hb : ∀ x ∈ xs, 0 ≤ x ∧ x < 256) : ∀ x ∈ toN xs, x < 256 := by
  intro x hx
  obtain ⟨y, hy, rfl⟩ := List.mem_map.1 hx
  have := hb y hy
  omega
theorem state_next (n : Nat) (xs : List Int) {k : Nat} (hk : k < xs.length) : stateI n (toN (xs.take (k + 1))) = it 8 (stateI n (toN (xs.take k)) ^^^ (xs.getD k 0).toNat) := by
  have h : xs.take (k + 1) = xs.take k ++ [xs.getD k 0] := by rw [List.take_succ_eq_append_getElem hk]; simp [List.getD, List.getElem?_eq_getElem hk]
  rw [h, toN_append, state_append]
  rfl
theorem max_xor (n : Nat) (hn : n < 4294967296) : bits .xor .u32 IntKind.u32.max (n : Int) = ((4294967295 ^^^ n : Nat) : Int) := u32_xor_nat 4294967295 n (by omega) hn
/-- The sum of bytes. -/
def sumX (xs : List Int) : Nat := sumI (toN xs)
set_option maxRecDepth 100000 in
set_option maxHeartbeats 1000000 in
theorem more_any (n : Nat) (hn : n < 4294967296) (A : Option Addr) (c : Nat) (xs : List Int) (w : World) (hrow : Row w w.heap.size (.slice A xs.length c) xs) (hb : ∀ x ∈ xs, 0 ≤ x ∧ x < 256) :
    Calls Tryz.prog 210 #[.int .u32 n, .slice A xs.length c] w fun e w' => e = .returned (.int .u32 (4294967295 ^^^ stateI (4294967295 ^^^ n) (toN xs) : Nat)) ∧ w = w' := by
  obtain ⟨A', c', hv, hlc, hcm, _, hcells⟩ := hrow
  injection hv with h1 h2 h3
  subst h1 h3
  unfold maxLen at hcm
  have hsz : xs.length ≤ 9223372036854775807 := by omega
  have HC := Lib.hid hcells; clear hcells
  have HB := Lib.hid hb; clear hb
  have hst : (4294967295 ^^^ n) < 4294967296 := Nat.xor_lt_two_pow (n := 32) (by omega) hn
  have hm0 := max_xor n hn
  generalize 4294967295 ^^^ n = n0 at hst hm0 ⊢
  go_enter Tryz.func210, Tryz.ntmps210
  go_wp2
  go_loop [5, 12] (fun s i => ∃ k m : Nat, k ≤ xs.length ∧ m < 4294967296 ∧ i = .int .i64 k ∧ s = .int .u32 m ∧ Hid (m = stateI n0 (toN (xs.take k)))) (fun _ i => xs.length - (intOf i).toNat)
  case atStart => exact ⟨0, n0, Nat.zero_le _, hst, rfl, rfl, Lib.hid rfl⟩
  case round =>
    obtain ⟨k, m, hk, hm, rfl, rfl, HI⟩ := hrel
    by_cases hlt : k < xs.length
    · obtain ⟨b, o, rfl, _, hc⟩ := HC.out (by omega)
      have hck := hc k (by omega)
      clear hc
      have hin : xs.getD k 0 ∈ xs := by rw [List.getD, List.getElem?_eq_getElem (by omega)]; simp
      obtain ⟨y0, y1⟩ := HB.out _ hin
      clear hin
      have hnx := state_next n0 xs hlt
      rw [← HI.out] at hnx
      obtain ⟨y, hy⟩ := Int.eq_ofNat_of_zero_le y0
      rw [hy] at hck hnx y1
      rw [Int.toNat_natCast] at hnx
      clear hy y0
      have hxor := u32_xor_nat m y hm (by omega)
      have hms : m ^^^ y < 4294967296 := Nat.xor_lt_two_pow (n := 32) hm (by omega)
      generalize m ^^^ y = z at hnx hxor hms
      have HN := Lib.hid hnx; clear hnx HI
      have hz := it_lt 8 hms
      go_wp2_with fail
      refine (shifted_any z hms _).mono ?_
      rintro e w1 ⟨rfl, rfl⟩
      go_wp2_with fail
      go_round
      case rel => exact ⟨k + 1, it 8 z, by omega, hz, by go_num, rfl, Lib.hid HN.out.symm⟩
      case measure => simp [intOf]; omega
    · obtain rfl : k = xs.length := by omega
      have he : m = stateI n0 (toN xs) := by rw [HI.out, List.take_length]
      have hmx := max_xor m hm
      have HE := Lib.hid he
      clear he HI hm hm0
      go_wp2_with fail
      go_ret
      exact ⟨by rw [← HE.out]; rfl, rfl⟩
/-- The slice of slices v reads as the parts xss. -/
def Parts (w : World) (B : Nat) (v : Value) (xss : List (List Int)) : Prop :=
  ∃ us, VRow w B v us ∧ us.length = xss.length ∧ ∀ (i : Nat) (u : Value) (xs : List Int), us[i]? = some u → xss[i]? = some xs → Row w B u xs
theorem Parts.one {w : World} {B g : Nat} {u : Value} {xs : List Int} (hg : g < B) (hc : w.cell? ⟨g, 0, none⟩ = some u) (h : Row w B u xs) : Parts w B (.slice (some ⟨g, 0, none⟩) 1 1) [xs] :=
  ⟨[u], ⟨_, 1, rfl, Nat.le_refl _, by simp [maxLen], by simp, fun _ => ⟨g, 0, rfl, hg, fun i u' hi => by
    match i with
    | 0 => simp at hi; subst hi; exact hc
    | i + 1 => simp at hi⟩⟩, rfl, fun i u' ys h1 h2 => by
    match i with
    | 0 => simp at h1 h2; subst h1 h2; exact h
    | i + 1 => simp at h1⟩
theorem sumX_more (xs ys : List Int) : sumX (xs ++ ys) = 4294967295 ^^^ stateI (4294967295 ^^^ sumX xs) (toN ys) := by
  unfold sumX
  rw [toN_append, sum_more]
theorem sumX_lt {xs : List Int} (hb : ∀ x ∈ xs, 0 ≤ x ∧ x < 256) : sumX xs < 4294967296 := sum_lt (toN_byte hb)
theorem sumX_nil : sumX [] = 0 := by decide
set_option maxRecDepth 100000 in
set_option maxHeartbeats 1000000 in
theorem sum_any (v : Value) (xss : List (List Int)) (w : World) (h : Parts w w.heap.size v xss) (hb : ∀ xs ∈ xss, ∀ x ∈ xs, 0 ≤ x ∧ x < 256) :
    Calls Tryz.prog 191 #[v] w fun e w' => e = .returned (.int .u32 (sumX xss.flatten : Nat)) ∧ w = w' := by
  obtain ⟨us, ⟨A, c, rfl, hlc, hcm, _, hcells⟩, hul, hrow⟩ := h
  unfold maxLen at hcm
  have hsz : us.length ≤ 9223372036854775807 := by omega
  have HC := Lib.hid hcells; clear hcells
  have HB := Lib.hid hb; clear hb
  have HR := Lib.hid hrow; clear hrow
  have HU := Lib.hid hul; clear hul
  go_enter Tryz.func191, Tryz.ntmps191
  go_wp2
  go_loop [3, 8] (fun s i => ∃ k m : Nat, k ≤ us.length ∧ m < 4294967296 ∧ i = .int .i64 k ∧ s = .int .u32 m ∧ Hid (m = sumX (xss.take k).flatten)) (fun _ i => us.length - (intOf i).toNat)
  case atStart => exact ⟨0, 0, Nat.zero_le _, by omega, rfl, rfl, Lib.hid (by simp [sumX_nil])⟩
  case round =>
    obtain ⟨k, m, hk, hm, rfl, rfl, HI⟩ := hrel
    by_cases hlt : k < us.length
    · obtain ⟨b, o, rfl, _, hc⟩ := HC.out (by omega)
      have hue : us[k]? = some us[k] := List.getElem?_eq_getElem hlt
      have hck := hc k _ hue
      clear hc
      have hlx : k < xss.length := by rw [← HU.out]; exact hlt
      have hxe : xss[k]? = some xss[k] := List.getElem?_eq_getElem hlx
      have hr := HR.out k _ _ hue hxe
      have hbx := HB.out xss[k] (List.getElem_mem hlx)
      have hnx : sumX (xss.take (k + 1)).flatten = 4294967295 ^^^ stateI (4294967295 ^^^ m) (toN xss[k]) := by
        rw [List.take_succ_eq_append_getElem hlx, List.flatten_append, HI.out, ← sumX_more]
        simp
      clear hue hxe
      generalize us[k] = u at *
      generalize xss[k] = xs at *
      obtain ⟨A2, c2, rfl, _⟩ := id hr
      have HM := Lib.hid (more_any m hm A2 c2 xs w hr hbx)
      have hlt2 : sumX (xss.take (k + 1)).flatten < 4294967296 := sumX_lt (fun x hx => by
        obtain ⟨ys, hys, hx⟩ := List.mem_flatten.1 hx
        exact HB.out ys (List.mem_of_mem_take hys) x hx)
      rw [← hnx] at HM
      clear hnx HI hr hbx
      obtain ⟨m2, HS⟩ : ∃ m2, Hid (m2 = sumX (xss.take (k + 1)).flatten) := ⟨_, Lib.hid rfl⟩
      rw [← HS.out] at HM hlt2
      go_wp2_with fail
      refine HM.out.mono ?_
      rintro e w1 ⟨rfl, rfl⟩
      go_wp2_with fail
      go_round
      case rel => exact ⟨k + 1, m2, by omega, hlt2, by go_num, rfl, Lib.hid HS.out⟩
      case measure => simp [intOf]; omega
    · obtain rfl : k = us.length := by omega
      have he : m = sumX xss.flatten := by rw [HI.out, HU.out, List.take_length]
      have HE := Lib.hid he
      clear he HI
      go_wp2_with fail
      go_ret
      exact ⟨by rw [← HE.out]; rfl, rfl⟩
end Go.Proofs.YtimihhcidbeonaaGreat
namespace Go.Proofs.YtimihhcidbeonaaGreat
open Go.RowKit
/-- A sum's four bytes, the lowest first. -/
def le4 (n : Nat) : List Int := [(n : Int) % 256, (n : Int) / 256 % 256, (n : Int) / 65536 % 256, (n : Int) / 16777216]
theorem le4_byte {n : Nat} (hn : n < 4294967296) : ∀ x ∈ le4 n, 0 ≤ x ∧ x < 256 := by
  intro x hx
  simp only [le4, List.mem_cons, List.not_mem_nil, or_false] at hx
  rcases hx with rfl | rfl | rfl | rfl <;> omega
theorem le4_length (n : Nat) : (le4 n).length = 4 := rfl
/-- The same as an array's value. -/
def le4V (n : Nat) : Value := .agg #[.int .u8 ((n : Int) % 256), .int .u8 ((n : Int) / 256 % 256), .int .u8 ((n : Int) / 65536 % 256), .int .u8 ((n : Int) / 16777216)]
set_option maxRecDepth 100000 in
set_option maxHeartbeats 1000000 in
theorem four_any (n : Nat) (hn : n < 4294967296) (w : World) :
    Calls Tryz.prog 190 #[.int .u32 n] w fun e w' => e = .returned (le4V n) ∧ Below w.heap.size w w' := by
  go_enter Tryz.func190, Tryz.ntmps190
  go_wp2
  exact bodyPost_ret (v := le4V n) (by simp [results, Tryz.results190, go_sem, le4V]) rfl ⟨rfl, (Below.refl _ _).alloc (Nat.le_refl _) _⟩
end Go.Proofs.YtimihhcidbeonaaGreat

namespace Go.Proofs.YtimihhcidbeonaaGreat
/-- What a frame begins with. -/
def markL : List Int := [199, 84, 71, 1]
/-- Why bytes don't begin with it. -/
def markI : List Int → List Int → Int
  | [], _ => 0
  | _ :: _, [] => 2
  | m :: ms, x :: xs => if x = m then markI ms xs else 4
/-- A frame from its kind on, without its sum. -/
def bodyL (k : Int) (p : List Int) : List Int := k :: encT p
/-- A frame's bytes. -/
def encFr (k : Int) (p : List Int) : List Int := markL ++ (bodyL k p ++ le4 (sumX (bodyL k p)))
/-- No frame, and why. -/
def noFr (e : Int) : (Int × List Int) × Nat × Int := ((0, []), 0, e)
/-- The frame behind its kind. -/
def getBody (k : Int) (ys : List Int) : (Int × List Int) × Nat × Int :=
  if (getI ys).2.2 ≠ 0 then noFr (getI ys).2.2
  else if 4096 < (getI ys).1 then noFr 6
  else if ys.length < (getI ys).2.1 + (getI ys).1.toNat + 4 then noFr 2
  else if (ys.drop ((getI ys).2.1 + (getI ys).1.toNat)).take 4 ≠ le4 (sumX (k :: ys.take ((getI ys).2.1 + (getI ys).1.toNat))) then noFr 5
  else ((k, (ys.drop (getI ys).2.1).take (getI ys).1.toNat), 9 + (getI ys).2.1 + (getI ys).1.toNat, 0)
/-- The frame that bytes begin with, how many bytes it has, the error. -/
def getFr (xs : List Int) : (Int × List Int) × Nat × Int :=
  if markI markL xs ≠ 0 then noFr (markI markL xs)
  else match xs.drop 4 with
    | [] => noFr 2
    | k :: ys => if k = 1 ∨ k = 2 then getBody k ys else noFr 4
theorem markI_mark (rest : List Int) : markI markL (markL ++ rest) = 0 := by simp [markI, markL]
theorem markI_back {xs : List Int} (h : markI markL xs = 0) : xs = markL ++ xs.drop 4 := by
  match xs with
  | [] => simp [markI, markL] at h
  | [a] =>
    simp only [markI, markL] at h
    split at h <;> simp at h
  | [a, b] =>
    simp only [markI, markL] at h
    split at h
    · split at h <;> simp at h
    · simp at h
  | [a, b, c] =>
    simp only [markI, markL] at h
    split at h
    · split at h
      · split at h <;> simp at h
      · simp at h
    · simp at h
  | a :: b :: c :: d :: r =>
    simp only [markI, markL] at h
    split at h
    · split at h
      · split at h
        · split at h
          · subst_vars; rfl
          · simp at h
        · simp at h
      · simp at h
    · simp at h
theorem getFr_mark (rest : List Int) : getFr (markL ++ rest) = match rest with | [] => noFr 2 | k :: ys => if k = 1 ∨ k = 2 then getBody k ys else noFr 4 := by
  unfold getFr
  rw [if_neg (by rw [markI_mark]; simp), show (markL ++ rest).drop 4 = rest by simp [markL]]
theorem getBody_err {k er : Int} {ys : List Int} (h : (getI ys).2.2 = er) (hne : er ≠ 0) : getBody k ys = noFr er := by
  unfold getBody
  rw [if_pos (by rw [h]; exact hne), h]
theorem getBody_limit {k : Int} {ys : List Int} {n s : Nat} (h : getI ys = ((n : Int), s, 0)) (hl : 4096 < n) : getBody k ys = noFr 6 := by
  unfold getBody
  rw [h, if_neg (by simp), if_pos (by simp only; omega)]
theorem getBody_short {k : Int} {ys : List Int} {n s : Nat} (h : getI ys = ((n : Int), s, 0)) (hl : n ≤ 4096) (hs : ys.length < s + n + 4) : getBody k ys = noFr 2 := by
  unfold getBody
  rw [h, if_neg (by simp), if_neg (by simp only; omega), if_pos (by simp only [Int.toNat_natCast]; exact hs)]
theorem getBody_sum {k : Int} {ys : List Int} {n s : Nat} (h : getI ys = ((n : Int), s, 0)) (hl : n ≤ 4096) (hs : ¬ ys.length < s + n + 4) (hne : (ys.drop (s + n)).take 4 ≠ le4 (sumX (k :: ys.take (s + n)))) : getBody k ys = noFr 5 := by
  unfold getBody
  rw [h, if_neg (by simp), if_neg (by simp only; omega), if_neg (by simp only [Int.toNat_natCast]; exact hs), if_pos (by simp only [Int.toNat_natCast]; exact hne)]
theorem getBody_ok {k : Int} {ys : List Int} {n s : Nat} (h : getI ys = ((n : Int), s, 0)) (hl : n ≤ 4096) (hs : ¬ ys.length < s + n + 4) (he : (ys.drop (s + n)).take 4 = le4 (sumX (k :: ys.take (s + n)))) : getBody k ys = ((k, (ys.drop s).take n), 9 + s + n, 0) := by
  unfold getBody
  rw [h, if_neg (by simp), if_neg (by simp only; omega), if_neg (by simp only [Int.toNat_natCast]; exact hs), if_neg (by simp only [Int.toNat_natCast]; exact fun hn => hn he)]
  simp only [Int.toNat_natCast]
theorem encFr_length (k : Int) (p : List Int) : (encFr k p).length = 9 + (encI p.length).length + p.length := by
  simp only [encFr, markL, bodyL, encT, le4, List.length_append, List.length_cons, List.length_nil]
  omega
/-- Bytes whose parts are known. -/
theorem getFr_parts {k : Int} {p s4 : List Int} (hk : k = 1 ∨ k = 2) (hp : p.length ≤ 4096) (hs : s4.length = 4) (rest : List Int) :
    getFr (markL ++ (bodyL k p ++ (s4 ++ rest))) = if s4 = le4 (sumX (bodyL k p)) then ((k, p), 9 + (encI p.length).length + p.length, 0) else noFr 5 := by
  rw [getFr_mark]
  have hg : getI (encT p ++ (s4 ++ rest)) = ((p.length : Int), (encI p.length).length, 0) := by
    rw [encT, List.append_assoc]
    exact getI_enc (by omega) _
  have hlen : (encT p ++ (s4 ++ rest)).length = (encI p.length).length + p.length + 4 + rest.length := by
    simp only [encT, List.length_append]; omega
  have hdrop : (encT p ++ (s4 ++ rest)).drop ((encI p.length).length + p.length) = s4 ++ rest := by
    rw [← encT_length, List.drop_left]
  have htake : (encT p ++ (s4 ++ rest)).take ((encI p.length).length + p.length) = encT p := by
    rw [← encT_length, List.take_left]
  have h4 : (s4 ++ rest).take 4 = s4 := by rw [← hs, List.take_left]
  by_cases he : s4 = le4 (sumX (bodyL k p))
  · rw [if_pos he]
    simp only [bodyL, List.cons_append] at he ⊢
    rw [if_pos hk, getBody_ok hg hp (by omega) (by rw [hdrop, htake, h4]; exact he)]
    congr 2
    rw [encT, List.append_assoc, List.drop_left, List.take_left]
  · rw [if_neg he]
    simp only [bodyL, List.cons_append] at he ⊢
    rw [if_pos hk, getBody_sum hg hp (by omega) (by rw [hdrop, htake, h4]; exact he)]
/-- There and back, with whatever behind. -/
theorem getFr_enc {k : Int} {p : List Int} (hk : k = 1 ∨ k = 2) (hp : p.length ≤ 4096) (rest : List Int) : getFr (encFr k p ++ rest) = ((k, p), (encFr k p).length, 0) := by
  rw [encFr_length, encFr, List.append_assoc, List.append_assoc, getFr_parts hk hp rfl, if_pos rfl]
/-- What is read has just the bytes that it was read from. -/
theorem getFr_back (xs : List Int) (hb : ∀ x ∈ xs, 0 ≤ x ∧ x < 256) (h : (getFr xs).2.2 = 0) :
    ((getFr xs).1.1 = 1 ∨ (getFr xs).1.1 = 2) ∧ (getFr xs).1.2.length ≤ 4096 ∧ (getFr xs).2.1 ≤ xs.length ∧ encFr (getFr xs).1.1 (getFr xs).1.2 = xs.take (getFr xs).2.1 ∧ (∀ x ∈ (getFr xs).1.2, 0 ≤ x ∧ x < 256) := by
  by_cases hm : markI markL xs = 0
  · have hx := markI_back hm
    have hb2 : ∀ x ∈ xs.drop 4, 0 ≤ x ∧ x < 256 := fun x hx => hb x (List.mem_of_mem_drop hx)
    generalize xs.drop 4 = r at hx hb2
    subst hx
    rw [getFr_mark] at h ⊢
    cases r with
    | nil => simp [noFr] at h
    | cons k ys =>
      simp only at h ⊢
      by_cases hk : k = 1 ∨ k = 2
      · rw [if_pos hk] at h ⊢
        have hby : ∀ x ∈ ys, 0 ≤ x ∧ x < 256 := fun x hx => hb2 x (by simp [hx])
        by_cases he : (getI ys).2.2 = 0
        · obtain ⟨n, s, hg, h1, h2, h3, h4, h5⟩ := getI_ok ys hby he
          by_cases hl : 4096 < n
          · rw [getBody_limit hg hl] at h; simp [noFr] at h
          · by_cases hs : ys.length < s + n + 4
            · rw [getBody_short hg (by omega) hs] at h; simp [noFr] at h
            · by_cases hq : (ys.drop (s + n)).take 4 = le4 (sumX (k :: ys.take (s + n)))
              · rw [getBody_ok hg (by omega) hs hq]
                have hlen : ((ys.drop s).take n).length = n := by simp; omega
                have henc : encT ((ys.drop s).take n) = ys.take (s + n) := by rw [encT, hlen, h4, ← List.take_add]
                refine ⟨hk, by simp only; omega, by simp [markL]; omega, ?_, fun x hx => hby x (List.mem_of_mem_drop (List.mem_of_mem_take hx))⟩
                have e3 : ys.take (s + n + 4) = ys.take (s + n) ++ (ys.drop (s + n)).take 4 := List.take_add
                simp only [encFr, bodyL, henc]
                rw [← hq, show 9 + s + n = 4 + (s + n + 4 + 1) by omega, show 4 = markL.length from rfl, List.take_length_add_append, List.take_succ_cons, show markL.length = 4 from rfl, e3, List.cons_append]
              · rw [getBody_sum hg (by omega) hs hq] at h; simp [noFr] at h
        · rw [getBody_err rfl he] at h; simp [noFr] at h; exact absurd h he
      · rw [if_neg hk] at h; simp [noFr] at h
  · unfold getFr at h
    rw [if_pos hm] at h
    exact absurd h hm
end Go.Proofs.YtimihhcidbeonaaGreat
namespace Go.Proofs.YtimihhcidbeonaaGreat
/-- A frame begins at a place, or, with open, may yet. -/
def begI (opn : Bool) (xs : List Int) (a : Nat) : Bool := (getFr (xs.drop a)).2.2 == 0 || (opn && (getFr (xs.drop a)).2.2 == 2)
/-- The first of n places from a on at which q holds; -1. -/
def firstI (q : Nat → Bool) : Nat → Nat → Int
  | 0, _ => -1
  | n + 1, a => if q a then (a : Int) else firstI q n (a + 1)
/-- Next and Open. -/
def nextI (opn : Bool) (xs : List Int) (frm : Int) : Int := firstI (begI opn xs) (xs.length - frm.toNat) frm.toNat
theorem first_found {q : Nat → Bool} : ∀ (n a r : Nat), a ≤ r → r < a + n → (∀ j, a ≤ j → j < r → q j = false) → q r = true → firstI q n a = (r : Int)
  | 0, a, r, h1, h2, _, _ => by omega
  | n + 1, a, r, h1, h2, hn, hr => by
    simp only [firstI]
    by_cases e : a = r
    · subst e
      rw [if_pos hr]
    · rw [if_neg (by rw [hn a (Nat.le_refl _) (by omega)]; simp)]
      exact first_found n (a + 1) r (by omega) (by omega) (fun j hj hj2 => hn j (by omega) hj2) hr
theorem first_none {q : Nat → Bool} : ∀ (n a : Nat), (∀ j, a ≤ j → j < a + n → q j = false) → firstI q n a = -1
  | 0, _, _ => rfl
  | n + 1, a, hn => by
    simp only [firstI]
    rw [if_neg (by rw [hn a (Nat.le_refl _) (by omega)]; simp)]
    exact first_none n (a + 1) (fun j hj hj2 => hn j (by omega) (by omega))
theorem first_cases (q : Nat → Bool) : ∀ (n a : Nat), (firstI q n a = -1 ∧ ∀ j, a ≤ j → j < a + n → q j = false) ∨ ∃ r : Nat, firstI q n a = (r : Int) ∧ a ≤ r ∧ r < a + n ∧ q r = true ∧ ∀ j, a ≤ j → j < r → q j = false
  | 0, a => Or.inl ⟨rfl, fun j h1 h2 => by omega⟩
  | n + 1, a => by
    by_cases h : q a = true
    · exact Or.inr ⟨a, by simp only [firstI, if_pos h], Nat.le_refl _, by omega, h, fun j h1 h2 => by omega⟩
    · have hf : q a = false := by simpa using h
      rcases first_cases q n (a + 1) with ⟨e, hn⟩ | ⟨r, e, h1, h2, h3, h4⟩
      · refine Or.inl ⟨by simp only [firstI, if_neg h]; exact e, fun j h1 h2 => ?_⟩
        by_cases ej : j = a
        · rw [ej]; exact hf
        · exact hn j (by omega) (by omega)
      · refine Or.inr ⟨r, by simp only [firstI, if_neg h]; exact e, by omega, by omega, h3, fun j h5 h6 => ?_⟩
        by_cases ej : j = a
        · rw [ej]; exact hf
        · exact h4 j (by omega) h6
/-- A frame that may be. -/
def Fit (f : Int × List Int) : Prop := (f.1 = 1 ∨ f.1 = 2) ∧ f.2.length ≤ 4096
/-- The bytes of frames, one behind the other. -/
def catFr : List (Int × List Int) → List Int
  | [] => []
  | f :: r => encFr f.1 f.2 ++ catFr r
theorem encFr_pos (k : Int) (p : List Int) : 9 ≤ (encFr k p).length := by rw [encFr_length]; omega
end Go.Proofs.YtimihhcidbeonaaGreat
namespace Go.Proofs.YtimihhcidbeonaaGreat
/-- A part: where it begins, how many bytes it has, whether it is a frame, and that frame. -/
structure Sg where
  frm : Nat
  n : Nat
  isf : Bool
  kind : Int
  pay : List Int
deriving DecidableEq
/-- What is skipped, from a place to another one. -/
def skipS (a r : Nat) : Sg := ⟨a, r - a, false, 0, []⟩
/-- The frame that begins at a place. -/
def frS (xs : List Int) (a : Nat) : Sg := ⟨a, (getFr (xs.drop a)).2.1, true, (getFr (xs.drop a)).1.1, (getFr (xs.drop a)).1.2⟩
/-- A frame begins at a place. -/
def Begins (xs : List Int) (a : Nat) : Prop := (getFr (xs.drop a)).2.2 = 0
/-- The parts of bytes, from a place on. -/
inductive PartsS (xs : List Int) : Nat → List Sg → Prop
  | stop (a : Nat) (h : xs.length ≤ a) : PartsS xs a []
  | rest (a : Nat) (h : a < xs.length) (hn : ∀ j, a ≤ j → j < xs.length → ¬ Begins xs j) : PartsS xs a [skipS a xs.length]
  | fr (a : Nat) (l : List Sg) (h : a < xs.length) (hb : Begins xs a) (hl : PartsS xs (a + (getFr (xs.drop a)).2.1) l) : PartsS xs a (frS xs a :: l)
  | gap (a r : Nat) (l : List Sg) (ha : a < r) (h : r < xs.length) (hn : ∀ j, a ≤ j → j < r → ¬ Begins xs j) (hb : Begins xs r) (hl : PartsS xs (r + (getFr (xs.drop r)).2.1) l) : PartsS xs a (skipS a r :: frS xs r :: l)
/-- How many bytes a frame has, at least and at most; what it is. -/
theorem begins_in {xs : List Int} {a : Nat} (hx : ∀ x ∈ xs, 0 ≤ x ∧ x < 256) (hb : Begins xs a) :
    9 ≤ (getFr (xs.drop a)).2.1 ∧ a + (getFr (xs.drop a)).2.1 ≤ xs.length ∧ ((getFr (xs.drop a)).1.1 = 1 ∨ (getFr (xs.drop a)).1.1 = 2) ∧ (getFr (xs.drop a)).1.2.length ≤ 4096 ∧
    (∀ x ∈ (getFr (xs.drop a)).1.2, 0 ≤ x ∧ x < 256) ∧ (xs.drop a).take (getFr (xs.drop a)).2.1 = encFr (getFr (xs.drop a)).1.1 (getFr (xs.drop a)).1.2 := by
  obtain ⟨h1, h2, h3, h4, h5⟩ := getFr_back (xs.drop a) (fun x h => hx x (List.mem_of_mem_drop h)) hb
  have e1 : ((xs.drop a).take (getFr (xs.drop a)).2.1).length = (getFr (xs.drop a)).2.1 := by rw [List.length_take]; omega
  have e2 := encFr_pos (getFr (xs.drop a)).1.1 (getFr (xs.drop a)).1.2
  rw [h4, e1] at e2
  rw [List.length_drop] at h3
  exact ⟨e2, by omega, h1, h2, h5, h4.symm⟩
theorem next_some {xs : List Int} {a r : Nat} (h : nextI false xs a = (r : Int)) : a ≤ r ∧ r < xs.length ∧ Begins xs r ∧ ∀ j, a ≤ j → j < r → ¬ Begins xs j := by
  rcases first_cases (begI false xs) (xs.length - (a : Int).toNat) (a : Int).toNat with ⟨e, _⟩ | ⟨q, e, h1, h2, h3, h4⟩
  · unfold nextI at h
    omega
  · unfold nextI at h
    obtain rfl : q = r := by omega
    rw [Int.toNat_natCast] at h1 h2 h4
    refine ⟨h1, by omega, by simpa [begI, Begins] using h3, fun j hj hj2 => ?_⟩
    have := h4 j hj hj2
    simpa [begI, Begins] using this
theorem next_no {xs : List Int} {a : Nat} (h : nextI false xs a < 0) : ∀ j, a ≤ j → j < xs.length → ¬ Begins xs j := by
  rcases first_cases (begI false xs) (xs.length - (a : Int).toNat) (a : Int).toNat with ⟨_, hn⟩ | ⟨q, e, _⟩
  · rw [Int.toNat_natCast] at hn
    intro j hj hj2
    have := hn j hj (by omega)
    simpa [begI, Begins] using this
  · unfold nextI at h
    omega
theorem next_ways (xs : List Int) (a : Nat) : nextI false xs a = -1 ∨ ∃ r : Nat, nextI false xs a = (r : Int) := by
  rcases first_cases (begI false xs) (xs.length - (a : Int).toNat) (a : Int).toNat with ⟨e, _⟩ | ⟨q, e, _⟩
  · exact .inl e
  · exact .inr ⟨q, e⟩
theorem PartsS.same {xs : List Int} {a : Nat} {l l' : List Sg} (h : PartsS xs a l) (h' : PartsS xs a l') : l = l' := by
  induction h generalizing l' with
  | stop a h =>
    cases h' with
    | stop _ _ => rfl
    | rest _ h2 _ => omega
    | fr _ _ h2 _ _ => omega
    | gap _ r _ h2 h3 _ _ _ => omega
  | rest a h hn =>
    cases h' with
    | stop _ h2 => omega
    | rest _ _ _ => rfl
    | fr _ _ _ hb _ => exact absurd hb (hn _ (Nat.le_refl _) h)
    | gap _ r _ h2 h3 _ hb _ => exact absurd hb (hn r (by omega) h3)
  | fr a l h hb _ ih =>
    cases h' with
    | stop _ h2 => omega
    | rest _ _ hn => exact absurd hb (hn _ (Nat.le_refl _) h)
    | fr _ _ _ _ hl => rw [ih hl]
    | gap _ r _ h2 _ hn _ _ => exact absurd hb (hn _ (Nat.le_refl _) h2)
  | gap a r l ha h hn hb _ ih =>
    cases h' with
    | stop _ h2 => omega
    | rest _ _ hn2 => exact absurd hb (hn2 r (by omega) h)
    | fr _ _ _ hb2 _ => exact absurd hb2 (hn _ (Nat.le_refl _) ha)
    | gap _ r2 _ h2 _ hn2 hb2 hl =>
      have e : r = r2 := by
        rcases Nat.lt_trichotomy r r2 with h3 | h3 | h3
        · exact absurd hb (hn2 r (by omega) h3)
        · exact h3
        · exact absurd hb2 (hn r2 (by omega) h3)
      subst e
      rw [ih hl]
/-- pre, with the parts from a on, are the parts. -/
def Ahead (xs : List Int) (pre : List Sg) (a : Nat) : Prop := ∀ l, PartsS xs a l → PartsS xs 0 (pre ++ l)
theorem Ahead.start (xs : List Int) : Ahead xs [] 0 := fun _ h => h
theorem Ahead.done {xs : List Int} {pre : List Sg} {a : Nat} (h : Ahead xs pre a) (ha : xs.length ≤ a) : PartsS xs 0 pre := by
  have := h [] (.stop a ha)
  rwa [List.append_nil] at this
theorem Ahead.last {xs : List Int} {pre : List Sg} {a : Nat} (h : Ahead xs pre a) (ha : a < xs.length) (hn : ∀ j, a ≤ j → j < xs.length → ¬ Begins xs j) : PartsS xs 0 (pre ++ [skipS a xs.length]) :=
  h _ (.rest a ha hn)
theorem Ahead.fr {xs : List Int} {pre : List Sg} {a : Nat} (h : Ahead xs pre a) (ha : a < xs.length) (hb : Begins xs a) : Ahead xs (pre ++ [frS xs a]) (a + (getFr (xs.drop a)).2.1) := fun l hl => by
  have := h _ (.fr a l ha hb hl)
  simpa using this
theorem Ahead.gap {xs : List Int} {pre : List Sg} {a r : Nat} (h : Ahead xs pre a) (ha : a < r) (hr : r < xs.length) (hn : ∀ j, a ≤ j → j < r → ¬ Begins xs j) (hb : Begins xs r) : Ahead xs ((pre ++ [skipS a r]) ++ [frS xs r]) (r + (getFr (xs.drop r)).2.1) := fun l hl => by
  have := h _ (.gap a r l ha hr hn hb hl)
  simpa using this
/-- The parts from a place on: they stand one behind the other and have all bytes, no two that are skipped side by side; each frame's bytes are its own; where bytes are skipped none begins. -/
def Tiled (xs : List Int) : Nat → Bool → List Sg → Prop
  | a, _, [] => a = xs.length
  | a, sk, s :: l => s.frm = a ∧ 1 ≤ s.n ∧ a + s.n ≤ xs.length ∧ (sk = true → s.isf = true) ∧
      (s.isf = true → (s.kind = 1 ∨ s.kind = 2) ∧ s.pay.length ≤ 4096 ∧ (∀ x ∈ s.pay, 0 ≤ x ∧ x < 256) ∧ (xs.drop a).take s.n = encFr s.kind s.pay) ∧
      (s.isf = false → ∀ j, a ≤ j → j < a + s.n → ¬ Begins xs j) ∧ Tiled xs (a + s.n) (!s.isf) l
theorem tiled_fr {xs : List Int} {a : Nat} {l : List Sg} (hx : ∀ x ∈ xs, 0 ≤ x ∧ x < 256) (hb : Begins xs a) (h : Tiled xs (a + (getFr (xs.drop a)).2.1) false l) (sk : Bool) : Tiled xs a sk (frS xs a :: l) := by
  obtain ⟨h1, h2, h3, h4, h5, h6⟩ := begins_in hx hb
  exact ⟨rfl, by simp only [frS]; omega, by simp only [frS]; omega, fun _ => rfl, fun _ => ⟨h3, h4, h5, h6⟩, fun e => by simp [frS] at e, h⟩
theorem PartsS.tiled {xs : List Int} (hx : ∀ x ∈ xs, 0 ≤ x ∧ x < 256) {a : Nat} {l : List Sg} (h : PartsS xs a l) : a ≤ xs.length → Tiled xs a false l := by
  induction h with
  | stop a h => intro ha; exact Nat.le_antisymm ha h
  | rest a h hn =>
    intro _
    refine ⟨rfl, by simp only [skipS]; omega, by simp only [skipS]; omega, fun e => (by cases e), fun e => by simp [skipS] at e, fun _ j h1 h2 => ?_, ?_⟩
    · simp only [skipS] at h2
      exact hn j h1 (by omega)
    · simp only [skipS, Tiled]
      omega
  | fr a l h hb _ ih =>
    intro _
    have := begins_in hx hb
    exact tiled_fr hx hb (ih (by omega)) _
  | gap a r l ha h hn hb _ ih =>
    intro _
    have := begins_in hx hb
    refine ⟨rfl, by simp only [skipS]; omega, by simp only [skipS]; omega, fun e => (by cases e), fun e => by simp [skipS] at e, fun _ j h1 h2 => ?_, ?_⟩
    · simp only [skipS] at h2
      exact hn j h1 (by omega)
    · simp only [skipS]
      rw [show a + (r - a) = r by omega]
      exact tiled_fr hx hb (ih (by omega)) _
def skipN : List Sg → Nat
  | [] => 0
  | s :: l => (if s.isf then 0 else s.n) + skipN l
end Go.Proofs.YtimihhcidbeonaaGreat
namespace Go.Proofs.YtimihhcidbeonaaGreat
theorem Tiled.le {xs : List Int} : ∀ (l : List Sg) (a : Nat) (sk : Bool), Tiled xs a sk l → l.length + a ≤ xs.length ∧ skipN l + a ≤ xs.length ∧ ∀ s ∈ l, a ≤ s.frm ∧ 1 ≤ s.n ∧ s.frm + s.n ≤ xs.length
  | [], a, _, h => by
    have h' : a = xs.length := h
    simp [skipN, h']
  | s :: l, a, sk, h => by
    obtain ⟨h1, h2, h3, _, _, _, h7⟩ := h
    obtain ⟨i1, i2, i3⟩ := Tiled.le l (a + s.n) _ h7
    refine ⟨by simp only [List.length_cons]; omega, by simp only [skipN]; split <;> omega, fun x hx => ?_⟩
    rcases List.mem_cons.1 hx with rfl | hx
    · omega
    · have := i3 x hx
      omega
theorem PartsS.le {xs : List Int} {l : List Sg} (hx : ∀ x ∈ xs, 0 ≤ x ∧ x < 256) (h : PartsS xs 0 l) : l.length ≤ xs.length ∧ skipN l ≤ xs.length ∧ ∀ s ∈ l, 1 ≤ s.n ∧ s.frm + s.n ≤ xs.length := by
  obtain ⟨h1, h2, h3⟩ := Tiled.le l 0 _ (h.tiled hx (Nat.zero_le _))
  exact ⟨by omega, by omega, fun s hs => (h3 s hs).2⟩
end Go.Proofs.YtimihhcidbeonaaGreat

namespace Go.Proofs.YtimihhcidbeonaaGreat
/-- A part of bytes, as a part of any. -/
def sgK (s : Sg) : Sj := ⟨s.frm, s.n, s.isf, s.kind, s.pay⟩
end Go.Proofs.YtimihhcidbeonaaGreat

namespace Go.Proofs.YtimihhcidbeonaaGreat
/-- May these points be in one block? -/
def fitB (sig : List Pr) (l : List Pm) : Bool := decide ((putB sig l).2 = 0)
theorem fitB_yes {sig : List Pr} {l : List Pm} : fitB sig l = true ↔ (putB sig l).2 = 0 := by simp [fitB]
/-- Of a trace that is of its signature: just if the payload is short enough. -/
theorem putB_of {sig : List Pr} {l : List Pm} (hc : checkB sig l = 0) : putB sig l = if 4096 < (payB l).length then ([], 6) else (payB l, 0) := by unfold putB; rw [if_pos hc]
theorem fitB_of {sig : List Pr} {l : List Pm} (hc : checkB sig l = 0) : fitB sig l = decide ((payB l).length ≤ 4096) := by
  unfold fitB
  rw [putB_of hc]
  by_cases h : 4096 < (payB l).length
  · rw [if_pos h]; simp; omega
  · rw [if_neg h]; simp; omega
/-- A trace that is of a signature, and what its numbers may be. -/
structure SOk (sig : List Pr) (l : List Pm) : Prop where
  chk : (checkT sig (l.map (·.p))).1 = 0
  fits : ∀ p ∈ l, p.Fits ∧ ∀ e ∈ p.evs, ∀ a ∈ e.args, a.Fits
section
variable {sig : List Pr} {l : List Pm}
theorem SOk.drop (h : SOk sig l) (k : Nat) : SOk sig (l.drop k) := ⟨by rw [List.map_drop, checkT_drop h.chk], fun p hp => h.fits p (List.mem_of_mem_drop hp)⟩
theorem SOk.take (h : SOk sig l) (k : Nat) : SOk sig (l.take k) := ⟨by rw [List.map_take, checkT_take h.chk], fun p hp => h.fits p (List.mem_of_mem_take hp)⟩
theorem SOk.check (h : SOk sig l) (h1 : 0 < l.length) (h2 : l.length ≤ 1024) : checkB sig l = 0 := by
  unfold checkB
  rw [if_neg (by omega), if_neg (by rw [h.chk]; simp), if_neg (by omega)]
theorem SOk.bok (h : SOk sig l) (h2 : l.length ≤ 1024) : BOk l := bok_of h.chk h2 h.fits
theorem SOk.takes (h : SOk sig l) {n : Nat} (h1 : 1 ≤ n) (h2 : n ≤ 1024) (hl : n ≤ l.length) : checkB sig (l.take n) = 0 := (h.take n).check (by rw [List.length_take]; omega) (by rw [List.length_take]; omega)
/-- A payload of fewer points is no longer. -/
theorem SOk.longer (h : SOk sig l) {n : Nat} (h2 : n ≤ 1024) (hl : n ≤ l.length) : ∀ d m, 1 ≤ m → m + d = n → (payB (l.take m)).length ≤ (payB (l.take n)).length
  | 0, m, _, e => by rw [show m = n by omega]; exact Nat.le_refl _
  | d + 1, m, h1, e => by
    refine Nat.le_trans ?_ (SOk.longer h h2 hl d (m + 1) (by omega) (by omega))
    have hb : BOk (l.take (m + 1)) := (h.take (m + 1)).bok (by rw [List.length_take]; omega)
    have := payB_longer hb (n := m) h1 (by rw [List.length_take]; omega)
    rw [List.take_take, List.take_take, Nat.min_eq_left (Nat.le_succ m), Nat.min_self] at this
    omega
theorem SOk.fewer (h : SOk sig l) {m n : Nat} (h1 : 1 ≤ m) (hmn : m ≤ n) (h2 : n ≤ 1024) (hl : n ≤ l.length) (hf : fitB sig (l.take n) = true) : fitB sig (l.take m) = true := by
  rw [fitB_of (h.takes (by omega) h2 hl), decide_eq_true_iff] at hf
  rw [fitB_of (h.takes h1 (by omega) (by omega)), decide_eq_true_iff]
  exact Nat.le_trans (h.longer h2 hl (n - m) m h1 (by omega)) hf
/-- What has no room has too long a payload. -/
theorem SOk.over (h : SOk sig l) {n : Nat} (h1 : 1 ≤ n) (h2 : n ≤ 1024) (hl : n ≤ l.length) (hf : fitB sig (l.take n) = false) : (putB sig (l.take n)).2 = 6 := by
  have hc := h.takes h1 h2 hl
  rw [fitB_of hc, decide_eq_false_iff_not] at hf
  rw [putB_of hc, if_pos (by omega)]
end
/-- The greatest number up to m that p holds of; 0. -/
def topP (p : Nat → Bool) : Nat → Nat
  | 0 => 0
  | m + 1 => if p (m + 1) then m + 1 else topP p m
theorem topP_le (p : Nat → Bool) : ∀ m, topP p m ≤ m
  | 0 => Nat.le_refl _
  | m + 1 => by
    unfold topP
    by_cases h : p (m + 1) = true
    · rw [if_pos h]; exact Nat.le_refl _
    · rw [if_neg h]; have := topP_le p m; omega
theorem topP_one {p : Nat → Bool} (h1 : p 1 = true) : ∀ m, 1 ≤ m → 1 ≤ topP p m
  | m + 1, _ => by
    unfold topP
    by_cases h : p (m + 1) = true
    · rw [if_pos h]; omega
    · rw [if_neg h]
      cases m with
      | zero => exact absurd h1 h
      | succ m => exact topP_one h1 _ (by omega)
theorem topP_yes {p : Nat → Bool} : ∀ m, 1 ≤ topP p m → p (topP p m) = true
  | 0, h => by simp [topP] at h
  | m + 1, h1 => by
    unfold topP at h1 ⊢
    by_cases h : p (m + 1) = true
    · rw [if_pos h]; exact h
    · rw [if_neg h] at h1 ⊢
      exact topP_yes m h1
theorem topP_no {p : Nat → Bool} : ∀ m j, topP p m < j → j ≤ m → p j = false
  | 0, j, h1, h2 => by omega
  | m + 1, j, h1, h2 => by
    unfold topP at h1
    by_cases h : p (m + 1) = true
    · rw [if_pos h] at h1; omega
    · rw [if_neg h] at h1
      by_cases e : j = m + 1
      · rw [e]; simpa using h
      · exact topP_no m j h1 (by omega)
/-- How many points the first block has. -/
def firstC (sig : List Pr) (l : List Pm) (most : Int) : Nat := topP (fun n => fitB sig (l.take n)) (min (min most.toNat 1024) l.length)
/-- How many points each block has. -/
def sizesF (sig : List Pr) (most : Int) : Nat → List Pm → List Nat
  | 0, _ => []
  | f + 1, l => if l.length = 0 then [] else firstC sig l most :: sizesF sig most f (l.drop (firstC sig l most))
def sizesC (sig : List Pr) (l : List Pm) (most : Int) : List Nat := sizesF sig most l.length l
/-- Does each of them fit alone? -/
def aloneC (sig : List Pr) (l : List Pm) : Bool := l.all fun p => fitB sig [p]
/-- Why there are no blocks; 0. -/
def whyC (sig : List Pr) (l : List Pm) (most : Int) : Int := if most < 1 then 1 else if (checkT sig (l.map (·.p))).1 ≠ 0 then (checkT sig (l.map (·.p))).1 else if aloneC sig l = true then 0 else 6
/-- A trace that has blocks. -/
structure COk (sig : List Pr) (l : List Pm) (most : Int) : Prop where
  ok : SOk sig l
  most : 1 ≤ most
  alone : ∀ p ∈ l, fitB sig [p] = true
section
variable {sig : List Pr} {l : List Pm} {most : Int}
theorem cok_of (h : whyC sig l most = 0) (hf : ∀ p ∈ l, p.Fits ∧ ∀ e ∈ p.evs, ∀ a ∈ e.args, a.Fits) : COk sig l most := by
  unfold whyC at h
  by_cases h1 : most < 1
  · rw [if_pos h1] at h; omega
  · rw [if_neg h1] at h
    by_cases h2 : (checkT sig (l.map (·.p))).1 ≠ 0
    · rw [if_pos h2] at h; exact absurd h h2
    · rw [if_neg h2] at h
      by_cases h3 : aloneC sig l = true
      · exact ⟨⟨by simpa using h2, hf⟩, by omega, fun p hp => List.all_eq_true.1 h3 p hp⟩
      · rw [if_neg h3] at h; omega
theorem COk.drop (h : COk sig l most) (k : Nat) : COk sig (l.drop k) most := ⟨h.ok.drop k, h.most, fun p hp => h.alone p (List.mem_of_mem_drop hp)⟩
theorem COk.one (h : COk sig l most) (hl : 0 < l.length) : fitB sig (l.take 1) = true := by
  cases l with
  | nil => simp at hl
  | cons p l => exact h.alone p (List.mem_cons_self ..)
theorem COk.first (h : COk sig l most) (hl : 0 < l.length) : 1 ≤ firstC sig l most ∧ firstC sig l most ≤ l.length ∧ firstC sig l most ≤ 1024 ∧ (firstC sig l most : Int) ≤ most ∧ fitB sig (l.take (firstC sig l most)) = true := by
  have hm := h.most
  have h1 := topP_one (p := fun n => fitB sig (l.take n)) (h.one hl) (min (min most.toNat 1024) l.length) (by omega)
  have h2 := topP_le (fun n => fitB sig (l.take n)) (min (min most.toNat 1024) l.length)
  exact ⟨h1, by unfold firstC; omega, by unfold firstC; omega, by unfold firstC; omega, topP_yes _ h1⟩
/-- One more has no room, where there may be one more. -/
theorem COk.noMore (h : COk sig l most) {k : Nat} (hk : firstC sig l most = k) (h1 : k < l.length) (h2 : k < 1024) (h3 : (k : Int) < most) : (putB sig (l.take (k + 1))).2 = 6 := by
  have := topP_no (p := fun n => fitB sig (l.take n)) (min (min most.toNat 1024) l.length) (k + 1) (by unfold firstC at hk; omega) (by omega)
  exact h.ok.over (by omega) (by omega) (by omega) this
theorem sizesF_more (h : COk sig l most) : ∀ f g, l.length ≤ f → l.length ≤ g → sizesF sig most f l = sizesF sig most g l
  | f, g, hf, hg => by
    induction f generalizing g l with
    | zero =>
      cases g with
      | zero => rfl
      | succ g => rw [sizesF, sizesF, if_pos (by omega)]
    | succ f ih =>
      cases g with
      | zero => rw [sizesF, sizesF, if_pos (by omega)]
      | succ g =>
        rw [sizesF, sizesF]
        by_cases hl : l.length = 0
        · rw [if_pos hl, if_pos hl]
        · rw [if_neg hl, if_neg hl]
          have := (h.first (by omega)).1
          rw [ih (h.drop _) g (by rw [List.length_drop]; omega) (by rw [List.length_drop]; omega)]
theorem sizesC_nil (sig : List Pr) (most : Int) : sizesC sig [] most = [] := rfl
theorem COk.sizes (h : COk sig l most) (hl : 0 < l.length) : sizesC sig l most = firstC sig l most :: sizesC sig (l.drop (firstC sig l most)) most := by
  have h1 := (h.first hl).1
  unfold sizesC
  obtain ⟨n, hn⟩ : ∃ n, l.length = n + 1 := ⟨l.length - 1, by omega⟩
  rw [hn, sizesF, if_neg (by omega), sizesF_more (h.drop _) n (l.drop (firstC sig l most)).length (by rw [List.length_drop]; omega) (Nat.le_refl _)]
theorem COk.length (h : COk sig l most) : ∀ n, l.length = n → (sizesC sig l most).length ≤ n := by
  intro n
  induction n using Nat.strongRecOn generalizing l with
  | _ n ih =>
    intro hn
    rcases Nat.eq_zero_or_pos l.length with h0 | h0
    · rw [List.eq_nil_of_length_eq_zero h0, sizesC_nil]; exact Nat.zero_le _
    · have h1 := h.first h0
      rw [h.sizes h0, List.length_cons]
      have := ih (l.length - firstC sig l most) (by omega) (h.drop (firstC sig l most)) (by rw [List.length_drop])
      omega
end
/-- Of each block of a trace: how many points, of those that are left. -/
inductive CutC (sig : List Pr) (most : Int) : List Pm → List Nat → Prop
  | nil : CutC sig most [] []
  | cons {l : List Pm} {ks : List Nat} {k : Nat} (h : COk sig l most) (hl : 0 < l.length) (hk : firstC sig l most = k) (t : CutC sig most (l.drop k) ks) : CutC sig most l (k :: ks)
theorem COk.cut {sig : List Pr} {most : Int} : ∀ n {l : List Pm}, COk sig l most → l.length = n → CutC sig most l (sizesC sig l most) := by
  intro n
  induction n using Nat.strongRecOn with
  | _ n ih =>
    intro l h hn
    rcases Nat.eq_zero_or_pos l.length with h0 | h0
    · rw [List.eq_nil_of_length_eq_zero h0, sizesC_nil]; exact .nil
    · have h1 := h.first h0
      rw [h.sizes h0]
      exact .cons h h0 rfl (ih (l.length - firstC sig l most) (by omega) (h.drop _) (by rw [List.length_drop]))
end Go.Proofs.YtimihhcidbeonaaGreat
namespace Go.Proofs.YtimihhcidbeonaaGreat
/-- A list in parts of so many each. -/
def cutsOf {α : Type} : List Nat → List α → List (List α)
  | [], _ => []
  | k :: ks, l => l.take k :: cutsOf ks (l.drop k)
theorem cutsOf_length {α : Type} : ∀ (ks : List Nat) (l : List α), (cutsOf ks l).length = ks.length
  | [], _ => rfl
  | k :: ks, l => by rw [cutsOf, List.length_cons, List.length_cons, cutsOf_length ks]
/-- A block that has a payload. -/
def BlkOk (sig : List Pr) (most : Int) (q : List Pm) : Prop := 1 ≤ q.length ∧ q.length ≤ 1024 ∧ (q.length : Int) ≤ most ∧ (putB sig q).2 = 0
/-- It has no room for the first point of the one behind. -/
def NoRoom (sig : List Pr) (most : Int) (q r : List Pm) : Prop := ∃ d, r[0]? = some d ∧ (q.length < 1024 → (q.length : Int) < most → (putB sig (q ++ [d])).2 = 6)
def GoodC (sig : List Pr) (most : Int) (L : List (List Pm)) : Prop := ∀ (i : Nat) (q : List Pm), L[i]? = some q → BlkOk sig most q ∧ ∀ r : List Pm, L[i + 1]? = some r → NoRoom sig most q r
theorem CutC.inv {sig : List Pr} {most : Int} {l : List Pm} {ks : List Nat} {k : Nat} (h : CutC sig most l (k :: ks)) : COk sig l most ∧ 0 < l.length ∧ firstC sig l most = k ∧ CutC sig most (l.drop k) ks := by
  cases h with
  | cons h1 h2 h3 h4 => exact ⟨h1, h2, h3, h4⟩
theorem CutC.good {sig : List Pr} {most : Int} : ∀ {l : List Pm} {ks : List Nat}, CutC sig most l ks → GoodC sig most (cutsOf ks l) := by
  intro l ks h
  induction h with
  | nil => intro i q hq; simp [cutsOf] at hq
  | @cons l ks k hc hl hk t ih =>
    have hf := hc.first hl
    rw [hk] at hf
    intro i q hq
    rw [cutsOf] at hq
    rw [cutsOf]
    cases i with
    | zero =>
      simp only [List.getElem?_cons_zero, Option.some.injEq] at hq
      subst hq
      have hlen : (l.take k).length = k := by rw [List.length_take]; omega
      refine ⟨⟨by omega, by omega, by rw [hlen]; exact hf.2.2.2.1, fitB_yes.1 hf.2.2.2.2⟩, fun r hr => ?_⟩
      rw [List.getElem?_cons_succ] at hr
      cases ks with
      | nil => simp [cutsOf] at hr
      | cons k2 ks2 =>
        obtain ⟨hc2, hl2, hk2, t2⟩ := t.inv
        simp only [cutsOf, List.getElem?_cons_zero, Option.some.injEq] at hr
        subst hr
        have hf2 := hc2.first hl2
        rw [hk2] at hf2
        rw [List.length_drop] at hl2
        obtain ⟨d, hd⟩ : ∃ d, l[k]? = some d := ⟨_, List.getElem?_eq_getElem (by omega)⟩
        refine ⟨d, ?_, fun h1 h2 => ?_⟩
        · rw [List.getElem?_take, if_pos (by omega), List.getElem?_drop]
          exact hd
        · rw [hlen] at h1 h2
          have := hc.noMore hk (by omega) h1 h2
          rwa [List.take_add_one, hd] at this
    | succ i =>
      rw [List.getElem?_cons_succ] at hq
      obtain ⟨g1, g2⟩ := ih i q hq
      exact ⟨g1, fun r hr => g2 r (by rwa [List.getElem?_cons_succ] at hr)⟩
theorem putB_same {sig : List Pr} {l l' : List Pm} (h : l.map (·.p) = l'.map (·.p)) : putB sig l = putB sig l' := by rw [← putB_plain sig l, h, putB_plain]
theorem map_at {α β : Type} {f : α → β} {l l' : List α} (h : l.map f = l'.map f) {i : Nat} {x : α} (hx : l'[i]? = some x) : ∃ y, l[i]? = some y ∧ f y = f x := by
  have := congrArg (fun z => z[i]?) h
  simp only [List.getElem?_map, hx, Option.map_some] at this
  cases hy : l[i]? with
  | none => rw [hy] at this; cases this
  | some y => rw [hy] at this; exact ⟨y, rfl, by simpa using this⟩
/-- Where its points' memory lies is of no account. -/
theorem GoodC.same {sig : List Pr} {most : Int} {L L' : List (List Pm)} (h : L.map (List.map (·.p)) = L'.map (List.map (·.p))) (hg : GoodC sig most L) : GoodC sig most L' := by
  intro i q' hq'
  obtain ⟨q, hq, e⟩ := map_at h hq'
  have el : q.length = q'.length := by have := congrArg List.length e; simpa using this
  obtain ⟨⟨g1, g2, g3, g4⟩, g5⟩ := hg i q hq
  refine ⟨⟨by omega, by omega, by rw [← el]; exact g3, by rw [← putB_same e]; exact g4⟩, fun r' hr' => ?_⟩
  obtain ⟨r, hr, e2⟩ := map_at h hr'
  obtain ⟨d, hd, hn⟩ := g5 r hr
  obtain ⟨d', hd', e3⟩ := map_at (f := fun x : Pm => x.p) e2.symm hd
  refine ⟨d', hd', fun h1 h2 => ?_⟩
  have := hn (by omega) (by rw [el]; exact h2)
  rw [putB_same (l' := q' ++ [d']) (by rw [List.map_append, List.map_append, e]; simp [e3])] at this
  exact this
end Go.Proofs.YtimihhcidbeonaaGreat
namespace Go.Proofs.YtimihhcidbeonaaGreat
/-- A trace's blocks. -/
def cutsC (sig : List Pr) (l : List Pm) (most : Int) : List (List Pm) := cutsOf (sizesC sig l most) l
/-- Has a block room for a point more? -/
def roomC (sig : List Pr) (most : Int) (b : List Pm) (q : Pm) : Prop := b.length < 1024 ∧ (b.length : Int) < most ∧ fitB sig (b ++ [q]) = true
instance (sig : List Pr) (most : Int) (b : List Pm) (q : Pm) : Decidable (roomC sig most b q) := by unfold roomC; infer_instance
section
variable {sig : List Pr} {l : List Pm} {q : Pm} {most : Int}
theorem cutsC_nil (sig : List Pr) (most : Int) : cutsC sig [] most = [] := rfl
theorem COk.cons (h : COk sig l most) (hl : 0 < l.length) : cutsC sig l most = l.take (firstC sig l most) :: cutsC sig (l.drop (firstC sig l most)) most := by unfold cutsC; rw [h.sizes hl]; rfl
end
end Go.Proofs.YtimihhcidbeonaaGreat

namespace Go.Proofs.YtimihhcidbeonaaGreat
/-- What sigbin's Frame answers. -/
def frameS (l : List Pr) : List Int × Int := if checkP l = 0 then (encFr 1 (encS l), 0) else ([], checkP l)
/-- What block's Frame answers. -/
def frameB (sig : List Pr) (l : List Pm) : List Int × Int := if (putB sig l).2 = 0 then (encFr 2 (putB sig l).1, 0) else ([], (putB sig l).2)
end Go.Proofs.YtimihhcidbeonaaGreat
namespace Go.Proofs.YtimihhcidbeonaaGreat
/-- A block's bytes. -/
def frB (sig : List Pr) (b : List Pm) : List Int := (frameB sig b).1
section
variable {sig : List Pr} {l : List Pm} {q : Pm} {most : Int} {L : List (List Pm)} {b : List Pm}
theorem frB_length (sig : List Pr) (b : List Pm) : (frB sig b).length ≤ 4200 := by
  unfold frB frameB
  by_cases h : (putB sig b).2 = 0
  · rw [if_pos h, encFr_length]
    obtain ⟨_, h2, h3⟩ := putB_ok h
    rw [h3]
    have := (encI_ten (n := (payB b).length) (by omega)).2
    dsimp only
    omega
  · rw [if_neg h]; simp
theorem frameS_length (sig : List Pr) : (frameS sig).1.length ≤ 4200 := by
  unfold frameS
  by_cases h : checkP sig = 0
  · rw [if_pos h, encFr_length]
    have h2 := (encS_le h).2
    have := (encI_ten (n := (encS sig).length) (by omega)).2
    omega
  · rw [if_neg h]; simp
end
end Go.Proofs.YtimihhcidbeonaaGreat

namespace Go.Proofs.YtimihhcidbeonaaGreat
/-- Frames in a row are the parts, each one. -/
theorem parts_frames : ∀ (L : List (Int × List Int)) (pre : List Int), (∀ f ∈ L, Fit f) → ∃ l, PartsS (pre ++ catFr L) pre.length l ∧ l.map (fun s => (s.isf, s.kind, s.pay)) = L.map (fun f => (true, f.1, f.2))
  | [], pre, _ => ⟨[], .stop _ (by simp [catFr]), rfl⟩
  | f :: L, pre, h => by
    obtain ⟨h1, h2⟩ := h f (List.mem_cons_self ..)
    have hd : (pre ++ catFr (f :: L)).drop pre.length = encFr f.1 f.2 ++ catFr L := by simp [catFr]
    have hg := getFr_enc h1 h2 (catFr L)
    have hb : Begins (pre ++ catFr (f :: L)) pre.length := by unfold Begins; rw [hd, hg]
    have hs : frS (pre ++ catFr (f :: L)) pre.length = ⟨pre.length, (encFr f.1 f.2).length, true, f.1, f.2⟩ := by unfold frS; rw [hd, hg]
    have e9 := encFr_pos f.1 f.2
    obtain ⟨l, hl, hm⟩ := parts_frames L (pre ++ encFr f.1 f.2) (fun g hg => h g (List.mem_cons_of_mem _ hg))
    have hx : pre ++ catFr (f :: L) = (pre ++ encFr f.1 f.2) ++ catFr L := by simp [catFr]
    have hn : (getFr ((pre ++ catFr (f :: L)).drop pre.length)).2.1 = (encFr f.1 f.2).length := by rw [hd, hg]
    refine ⟨frS (pre ++ catFr (f :: L)) pre.length :: l, .fr _ _ ?_ hb ?_, ?_⟩
    · rw [hx]; simp only [List.length_append]; omega
    · rw [hn, hx]
      rw [List.length_append] at hl
      exact hl
    · rw [hs, List.map_cons, List.map_cons, hm]
/-- A frame is taken. -/
theorem takeS_ok {g g' : Gp} {s : Sj} (h1 : s.isf = true) (h : frameG g s.kind s.pay = (g', 0)) : takeS g s = ⟨g'.sig, g'.isg, g'.pts, g.sk, g.fr + 1, g.rej⟩ := by
  unfold takeS
  rw [if_neg (by rw [h1]; decide), h, if_neg (fun x => x rfl)]
theorem frameG_first {g : Gp} {l : List Pr} (h : checkP l = 0) (hg : g.isg = false) : frameG g 1 (encS l) = (⟨l, true, g.pts, g.sk, g.fr, g.rej⟩, 0) := by
  unfold frameG
  rw [if_pos rfl, getSig_enc h, if_neg (fun x => x rfl), if_neg (fun x => by rw [hg] at x; cases x.1)]
theorem frameG_block {g : Gp} {b : List Pm} (hg : g.isg = true) (hB : BOk b) (hp : (putB g.sig b).2 = 0) (hl : lateG g.pts (b.map (·.p)) = false) : frameG g 2 (payB b) = (⟨g.sig, g.isg, g.pts ++ b.map (·.p), g.sk, g.fr, g.rej⟩, 0) := by
  unfold frameG
  rw [if_neg (by decide), if_neg (by decide), if_neg (by rw [hg]; decide), getU_there hB hp, if_neg (fun x => x rfl), if_neg (by rw [hl]; decide)]
theorem late_of {sig : List Pr} {t : List Pn} {m r : List Pn} (h : (checkT sig (t ++ (m ++ r))).1 = 0) (hm : 0 < m.length) : lateG t m = false := by
  unfold lateG
  by_cases ht : 0 < t.length
  · obtain ⟨-, hw⟩ := checkT_zero.1 h
    have := hw t.length (by simp only [List.length_append]; omega)
    unfold whyT at this
    have e1 : (t ++ (m ++ r)).getD t.length default = m.getD 0 default := by
      simp only [List.getD]
      rw [List.getElem?_append_right (Nat.le_refl _), Nat.sub_self, List.getElem?_append_left hm]
    have e2 : (t ++ (m ++ r)).getD (t.length - 1) default = t.getD (t.length - 1) default := by
      simp only [List.getD]
      rw [List.getElem?_append_left (by omega)]
    rw [e1, e2] at this
    split at this
    · cases this
    · rename_i hn
      rw [decide_eq_true ht, Bool.true_and]
      exact decide_eq_false (fun x => hn ⟨ht, x⟩)
  · rw [decide_eq_false ht, Bool.false_and]
/-- The blocks of a trace are taken, each one. -/
theorem takeL_blocks {sig : List Pr} : ∀ (L : List (List Pm)) (l : List Sj) (T : List Pn) (n : Int), l.map (fun s => (s.isf, s.kind, s.pay)) = L.map (fun b => (true, (2 : Int), payB b)) → (∀ b ∈ L, BOk b ∧ 0 < b.length ∧ (putB sig b).2 = 0) →
    (checkT sig (T ++ L.flatten.map (·.p))).1 = 0 → takeL ⟨sig, true, T, 0, n, []⟩ l = ⟨sig, true, T ++ L.flatten.map (·.p), 0, n + L.length, []⟩
  | [], l, T, n, h, _, _ => by
    rw [List.map_nil, List.map_eq_nil_iff] at h
    subst h
    simp [takeL]
  | b :: L, [], T, n, h, _, _ => by simp at h
  | b :: L, s :: l, T, n, h, hb, hc => by
    simp only [List.map_cons, List.cons.injEq, Prod.mk.injEq] at h
    obtain ⟨⟨e1, e2, e3⟩, h⟩ := h
    obtain ⟨b1, b2, b3⟩ := hb b (List.mem_cons_self ..)
    have hc2 : (checkT sig (T ++ (b.map (·.p) ++ L.flatten.map (·.p)))).1 = 0 := by rw [List.flatten_cons, List.map_append] at hc; exact hc
    have hl := late_of hc2 (by rw [List.length_map]; exact b2)
    have ht : takeS ⟨sig, true, T, 0, n, []⟩ s = ⟨sig, true, T ++ b.map (·.p), 0, n + 1, []⟩ := takeS_ok (g := ⟨sig, true, T, 0, n, []⟩) (g' := ⟨sig, true, T ++ b.map (·.p), 0, n, []⟩) e1 (by rw [e2, e3]; exact frameG_block (g := ⟨sig, true, T, 0, n, []⟩) rfl b1 b3 hl)
    show takeL (takeS ⟨sig, true, T, 0, n, []⟩ s) l = _
    rw [ht, takeL_blocks L l (T ++ b.map (·.p)) (n + 1) h (fun x hx => hb x (List.mem_cons_of_mem _ hx)) (by rw [List.append_assoc]; exact hc2)]
    simp only [List.flatten_cons, List.map_append, List.append_assoc, List.length_cons, Gp.mk.injEq, true_and, and_true]
    omega
/-- What is written, as frames. -/
def catW (sig : List Pr) (L : List (List Pm)) : List (Int × List Int) := (1, encS sig) :: L.map (fun b => (2, payB b))
theorem catW_bytes {sig : List Pr} {L : List (List Pm)} (hs : checkP sig = 0) (hb : ∀ b ∈ L, (putB sig b).2 = 0) : catFr (catW sig L) = ((frameS sig).1 :: L.map (frB sig)).flatten := by
  have h2 : ∀ L : List (List Pm), (∀ b ∈ L, (putB sig b).2 = 0) → catFr (L.map (fun b => ((2 : Int), payB b))) = (L.map (frB sig)).flatten := by
    intro L
    induction L with
    | nil => intro _; rfl
    | cons b L ih =>
      intro hb
      have h0 := hb b (List.mem_cons_self ..)
      have e : frB sig b = encFr 2 (payB b) := by
        unfold frB frameB
        rw [if_pos h0, (putB_ok h0).2.2]
      rw [List.map_cons, catFr, ih (fun x hx => hb x (List.mem_cons_of_mem _ hx)), List.map_cons, List.flatten_cons, e]
  have e1 : (frameS sig).1 = encFr 1 (encS sig) := by unfold frameS; rw [if_pos hs]
  rw [catW, catFr, h2 L hb, List.flatten_cons, e1]
/-- What was written is read as it is. -/
theorem back_plain {sig : List Pr} {L : List (List Pm)} {g : Gp} {l : List Sg} (hs : checkP sig = 0) (hb : ∀ b ∈ L, BOk b ∧ 0 < b.length ∧ (putB sig b).2 = 0) (hc : (checkT sig (L.flatten.map (·.p))).1 = 0)
    (hl : PartsS ((frameS sig).1 :: L.map (frB sig)).flatten 0 l) (hg : g = takeL noG (l.map sgK)) : g = ⟨sig, true, L.flatten.map (·.p), 0, 1 + L.length, []⟩ := by
  have hfit : ∀ f ∈ catW sig L, Fit f := by
    intro f hf
    rcases List.mem_cons.1 hf with rfl | hf
    · exact ⟨.inl rfl, Nat.le_trans (encS_le hs).2 (by omega)⟩
    · obtain ⟨b, hb2, rfl⟩ := List.mem_map.1 hf
      exact ⟨.inr rfl, (putB_ok (hb b hb2).2.2).2.1⟩
  obtain ⟨l2, h1, h2⟩ := parts_frames (catW sig L) [] hfit
  rw [List.nil_append, catW_bytes hs (fun b h => (hb b h).2.2)] at h1
  have e := hl.same h1
  subst e
  rw [hg]
  unfold catW at h2
  rcases l with _ | ⟨s, l⟩
  · simp at h2
  · simp only [List.map_cons, List.cons.injEq, Prod.mk.injEq, List.map_map] at h2
    obtain ⟨⟨e1, e2, e3⟩, h2⟩ := h2
    have ht : takeS noG (sgK s) = ⟨sig, true, [], 0, 1, []⟩ := takeS_ok (g := noG) (s := sgK s) (g' := ⟨sig, true, [], 0, 0, []⟩) e1 (by
      have h3 := frameG_first (g := noG) hs rfl
      show frameG noG s.kind s.pay = _
      rw [e2, e3, h3]
      rfl)
    show takeL (takeS noG (sgK s)) (l.map sgK) = _
    rw [ht]
    have h4 := takeL_blocks (sig := sig) L (l.map sgK) [] 1 (by rw [List.map_map]; exact h2) hb (by rw [List.nil_append]; exact hc)
    rw [h4, List.nil_append]
end Go.Proofs.YtimihhcidbeonaaGreat

namespace Go.Proofs.YtimihhcidbeonaaGreat
open Go.RowKit Go.ChangeShapes Go.WideShapes
theorem Tryz.infoArg : (Tryz.prog.info? 97).map (fun i => (i.zero, i.size, i.bytes)) = some (some (.agg #[.int .i64 0, .int .i64 0, .string ⟨#[]⟩]), 3, 32) := by kernel_rfl
theorem Tryz.infoEvent : (Tryz.prog.info? 100).map (fun i => (i.zero, i.size, i.bytes)) = some (some (.agg #[.int .i64 0, .slice none 0 0]), 2, 32) := by kernel_rfl
theorem Tryz.infoPoint : (Tryz.prog.info? 51).map (fun i => (i.zero, i.size, i.bytes)) = some (some (.agg #[.int .u64 0, .slice none 0 0]), 2, 32) := by kernel_rfl
theorem own_none {w : World} {base : Nat} {e : TypeId} {size : Nat} (hb : base ≤ w.heap.size) : (w.alloc (.cells #[] e)).ownsRow base e size (.slice (some ⟨w.heap.size, 0, none⟩) 0 0) 0 [] :=
  ⟨by simp, .inr ⟨w.heap.size, 0, #[], rfl, hb, heap_alloc_new w _, Nat.le_refl _, Nat.zero_le _, by simp, by simp⟩⟩
/-- A block that was just laid, as a row. -/
theorem ERow.held {w : World} {g B n : Nat} {t : TypeId} {us : List Value} (h : Held w g t us.toArray) (hB : g < B) (hn : n ≤ maxLen) : ERow w B (.slice (some ⟨g, 0, none⟩) n n) n us :=
  ⟨_, _, rfl, Nat.le_refl _, hn, by simp, fun _ => ⟨g, 0, rfl, hB, fun i u hi => by rw [Nat.zero_add, h.cell i]; simpa using hi⟩⟩
theorem ERow.new (w : World) (t : TypeId) (us : List Value) {n : Nat} (hn : n ≤ maxLen) : ERow (w.alloc (.cells us.toArray t)) (w.alloc (.cells us.toArray t)).heap.size (.slice (some ⟨w.heap.size, 0, none⟩) n n) n us :=
  ERow.held (t := t) (heap_alloc_new w _) (by simp) hn
/-- append of any row behind a row of the call's own. -/
theorem run_append_erow {P : Program} (w : World) (base : Nat) (t ty e : TypeId) (i : TypeInfo) (z : Value) (size bytes : Nat) (ht : P.underlying t = some (.slice e)) (hi : P.info? e = some i) (hz : i.zero = some z)
    (hsize : i.size = size) (hby : i.bytes = bytes) (hzs : z.cells.size = size) (hsz : 0 < size) (v : Value) (n : Nat) (xs : List Value) (hown : w.ownsRow base e size v n xs)
    (B : Nat) (sv : Value) (m : Nat) (us : List Value) (hr : ERow w B sv m us) (hl : us.length = m * size) (h1 : ∀ u ∈ us, u.oneCell' = true) (h63 : n + m ≤ maxLen) (hbytes : (n + m) * bytes ≤ 140737488355328) (hbase : base ≤ w.heap.size) :
    ∃ v' w', (Builtin.append_ #[t, t] ty #[v, sv]).run P w = .ok v' w' ∧ w'.ownsRow base e size v' (n + m) (xs ++ us) ∧ w.grownBy w' v.ownBlock := by
  obtain ⟨A, c, rfl, q1, q2, q3, q4⟩ := hr
  rcases A with _ | ad
  · obtain rfl := q3 rfl
    obtain rfl : m = 0 := by omega
    have hu : us = [] := List.eq_nil_of_length_eq_zero (by omega)
    subst hu
    refine ⟨v, w, run_append_owned_none w base t ty e i size ht hi v n xs hown, by rw [Nat.add_zero, List.append_nil]; exact hown, World.grownBy.refl _ _⟩
  · obtain ⟨v', w', r1, r2, r3, _⟩ := run_append_own_at (P := P) w base t ty e i z size bytes ht hi hz hsize hby hzs hsz v n xs hown ad m c us hl (fun j u hu => by
      have hj := (List.getElem?_eq_some_iff.1 hu).1
      have hm : 0 < m := by
        rcases Nat.eq_zero_or_pos m with h | h
        · rw [h] at hl; omega
        · exact h
      obtain ⟨b, o, he, _, hc⟩ := q4 hm
      injection he with he
      subst he
      rw [add_plain]
      exact hc j u hu) h1 h63 hbytes hbase
    exact ⟨v', w', r1, r2, r3⟩
section
variable {P : Program} {w : World} {ops : Array Oper} {o : Oper} {a : Act} {Q : Exit → Act → World → Prop} {K : Act → World → Prop} {E : Prop}
theorem step_append_erow (hgd : o.guard = none) (s x : Operand) (t e : TypeId) (ho : o.op = .call { callee := .builtin .append, args := #[s, x], argTypes := #[t, t] })
    (base : Nat) (i : TypeInfo) (z : Value) (size bytes : Nat) (ht : P.underlying t = some (.slice e)) (hi : P.info? e = some i) (hz : i.zero = some z) (hsize : i.size = size) (hby : i.bytes = bytes) (hzs : z.cells.size = size) (hsz : 0 < size)
    (v : Value) (n : Nat) (xs : List Value) (hs : a.eval s = v) (hown : w.ownsRow base e size v n xs) (B : Nat) (sv : Value) (m : Nat) (us : List Value) (hx : a.eval x = sv) (hr : ERow w B sv m us) (hl : us.length = m * size) (h1 : ∀ u ∈ us, u.oneCell' = true)
    (h63 : n + m ≤ maxLen) (hbytes : (n + m) * bytes ≤ 140737488355328) (hbase : base ≤ w.heap.size) (N : Nat) (hN : n + m = N) (ys : List Value) (hys : xs ++ us = ys)
    (h : ∀ A c w', w'.ownsRow base e size (.slice A N c) N ys → w.grownBy w' v.ownBlock → K (a.put o.dst (.slice A N c)) w') : if Region.wanted o (yielded ops a.tmps) = true then Oper.wp P o a w K Q else E := by
  subst hN hys
  have hw : Region.wanted o (yielded ops a.tmps) = true := by simp [Region.wanted, hgd]
  obtain ⟨v', w', hrun, h2, h3⟩ := run_append_erow (P := P) w base t o.type e i z size bytes ht hi hz hsize hby hzs hsz v n xs hown B sv m us hr hl h1 h63 hbytes hbase
  obtain ⟨A, c, rfl⟩ := own_form h2
  rw [if_pos hw]
  unfold Oper.wp execOp
  simp only [ho, resolve, invoke, builtin, Sem.run_bind, Sem.run_pure, Result.andThen_ok, List.map_toArray, List.map_cons, List.map_nil, hs, hx, hrun]
  exact h A c w' h2 h3
end
theorem oneN : ∀ (l : List Pm), ∀ u ∈ flatN l, u.oneCell' = true
  | [], u, h => by simp [flatN] at h
  | d :: l, u, h => by
    rw [flatN] at h
    rcases List.mem_cons.1 h with rfl | h
    · rfl
    · rcases List.mem_cons.1 h with rfl | h
      · rfl
      · exact oneN l u h
theorem oneE : ∀ (l : List Em), ∀ u ∈ flatE l, u.oneCell' = true
  | [], u, h => by simp [flatE] at h
  | d :: l, u, h => by
    rw [flatE] at h
    rcases List.mem_cons.1 h with rfl | h
    · rfl
    · rcases List.mem_cons.1 h with rfl | h
      · rfl
      · exact oneE l u h
theorem oneG : ∀ (l : List Ag), ∀ u ∈ flatG l, u.oneCell' = true
  | [], u, h => by simp [flatG] at h
  | d :: l, u, h => by
    rw [flatG] at h
    rcases List.mem_cons.1 h with rfl | h
    · rfl
    · rcases List.mem_cons.1 h with rfl | h
      · rfl
      · rcases List.mem_cons.1 h with rfl | h
        · rfl
        · exact oneG l u h
theorem TrRow.drop {w : World} {B : Nat} {A A' : Option Addr} {n c k : Nat} {l : List Pm} (h : TrRow w B (.slice A n c) l) (hk : k ≤ l.length) (hA : c = k ∨ A' = A.map (fun x => x.add (k * 2))) :
    TrRow w B (.slice A' (l.length - k) (c - k)) (l.drop k) := by
  obtain ⟨⟨A1, c1, hv, h1, h2, h3, h4⟩, h5⟩ := h
  injection hv with e1 e2 e3
  subst e1 e3
  have hl : (l.drop k).length = l.length - k := List.length_drop
  refine ⟨⟨A', c - k, by rw [hl], by omega, by omega, fun e => ?_, fun hn => ?_⟩, fun d hd => h5 d (List.mem_of_mem_drop hd)⟩
  · rcases hA with hA | hA
    · omega
    · rw [e] at hA
      cases A with
      | none => have := h3 rfl; omega
      | some a => cases hA
  · rw [hl] at hn
    obtain ⟨b, o, e, hb, hc⟩ := h4 (by omega)
    rcases hA with hA | hA
    · omega
    · refine ⟨b, o + k * 2, by rw [hA, e, Option.map_some, add_plain], hb, fun i u hi => ?_⟩
      rw [flatN_drop, List.getElem?_drop] at hi
      have := hc _ u hi
      rwa [← Nat.add_assoc] at this
end Go.Proofs.YtimihhcidbeonaaGreat

namespace Go.Proofs.YtimihhcidbeonaaGreat
open Go.RowKit
variable {F : Fence} {n : Nat} {P : Program}
/-- What may be ranged over hands on x's, of each of which 'R x' holds where it is handed on, all of them, such that 'S' holds of them. W0: where the last round has ended, or the loop begins; behind it what may be ranged over has turned nothing that lay there. 'Kp m': what a round keeps, m being how many blocks lay in W0. -/
def Hands {α : Type} (F : Fence) (n : Nat) (P : Program) (gf : Nat) (lb : Array Value) (encs : α → Array Value) (R : α → World → Prop) (Kp : Nat → World → World → Prop) (S : List α → Prop) (N : Nat) (w : World) : Prop :=
  ∀ (l : Nat) (J : List α → World → Prop) (W : World), Below w.heap.size w W →
    (∀ pre x W0 W1, J pre W0 → Below W0.heap.size W0 W1 → R x W1 → pre.length < N → YieldAt F (n - 1) P l (encs x) W1 fun e W' => e = .returned (.bool true) ∧ J (pre ++ [x]) W' ∧ Kp W0.heap.size W1 W') →
    J [] W → CallsIn F n P gf (#[.func (.yield l) #[] #[]] ++ lb) W fun e W' => (∃ v, e = .returned v) ∧ ∃ xs W0, S xs ∧ J xs W0 ∧ Below W0.heap.size W0 W'
/-- The record of a loop in a state. -/
def recOf (fn : FuncId) (tmps : Array Value) (ps : Array Tmp) (assign body : Code) (D : Nat) (s : LoopState) : Obj :=
  .loop { state := s, pending := none, fn := fn, tmps := tmps, params := ps, assign := assign, body := body, defers := D }
/-- One round: out of the walks of what takes what is handed on, and of the loop's body. -/
theorem yield_round {l D : Nat} {fn : FuncId} {tmps args : Array Value} {ps : Array Tmp} {assign body : Code} {W : World} {E : Ending → World → Prop} (hfn : F.fn fn) (hps : args.size = ps.size)
    (hl : W.heap[l]? = some (recOf fn tmps ps assign body D .ready))
    (h : assign.wpIn (F.inRound l) n P (Exit.then (fun a1 W1 => W1.heap[l]? = some (recOf fn tmps ps assign body D .ready) ∧
        body.wpIn (F.inRound l) n P (Exit.then (fun _ W3 => W3.heap[l]? = some (recOf fn tmps ps assign body D .busy) ∧ E (.returned (.bool true)) (W3.putObj l (recOf fn tmps ps assign body D .ready))) (fun _ _ _ => False)) a1 (W1.putObj l (recOf fn tmps ps assign body D .busy))) (fun _ _ _ => False))
      { tmps := (ps.zip args).foldl (fun t (p, v) => t.setIfInBounds p v) tmps, defers := [] } W) :
    YieldAt F n P l args W E := by
  refine ⟨fn, _, assign, body, run_yield hl hps, roundIn_of_wpIn hfn (wpIn_mono h ?_)⟩
  rintro e a1 W1 hp
  cases e with
  | normal =>
    refine ⟨_, run_beginRound hp.1 rfl, wpIn_mono hp.2 ?_⟩
    rintro e a3 W3 hq
    cases e with
    | normal => exact ⟨_, _, run_endRound none hq.1, hq.2⟩
    | _ => exact (show False from hq).elim
  | _ => exact (show False from hp).elim
/-- What minds cells alone is kept where what lay in memory is. -/
theorem ownFrom_below' {β : Type} {B : Nat} {I : β → World → Prop} (h : OwnFrom B I) {s : β} {w w' : World} (hs : I s w) (hb : Below w.heap.size w w') : I s w' :=
  h s w w' none hs ⟨hb.os, hb.tape, hb.output, hb.size, fun k hk _ => hb.block k hk⟩ (fun r e => by cases e)
/-- The loop: an invariant on the caller's own cells, one walk of its body. -/
theorem range_told {α : Type} {g : Operand} {ps : Array Tmp} {assign body : Code} {Q : Exit → Act → World → Prop} {a : Act} {w : World}
    (hro : F.round = none) (h1 : 1 ≤ n) {gf : Nat} {lb : Array Value} (hg : a.eval g = .func (.func gf) #[] lb) (hFg : F.fn gf) (eg : ∀ args w, (callFunc gf args).run P w = .ok (.enter gf args) w)
    {encs : α → Array Value} {R : α → World → Prop} {Kp : Nat → World → World → Prop} {S : List α → Prop} {N : Nat} (hseq : Hands F (n - 1) P gf lb encs R Kp S N w) (hps : ∀ x, (encs x).size = ps.size)
    (hKt : ∀ {m : Nat} {A B C : World}, Kp m A B → Kp m B C → Kp m A C) (hKb : ∀ (m : Nat) (W : World) (l : Nat) (o o' : Obj), w.heap.size ≤ l → l < m → W.heap[l]? = some o → o.isCells = false → Kp m W (W.putObj l o'))
    (I : List α → World → Prop) (hI : OwnFrom w.heap.size I) (h0 : I [] w) (Ax : Nat → List α → α → Act → World → Prop) (hAx : ∀ m pre x a', OwnFrom w.heap.size (fun (_ : Unit) W => Ax m pre x a' W))
    (htake : ∀ (l : Nat) (pre : List α) (x : α) (W0 W : World) (K : Act → World → Prop), I pre W0 → Below W0.heap.size W0 W → R x W → pre.length < N → (∀ a' W', KeepsFrom w.heap.size W W' → Kp W0.heap.size W W' → Ax W0.heap.size pre x a' W' → K a' W') →
      assign.wpIn (F.inRound l) (n - 1 - 1) P (Exit.then K (fun _ _ _ => False)) { tmps := (ps.zip (encs x)).foldl (fun t (p, v) => t.setIfInBounds p v) a.tmps, defers := [] } W)
    (hbody : ∀ (l m : Nat) (pre : List α) (x : α) (a' : Act) (W : World), Ax m pre x a' W → pre.length < N →
      body.wpIn (F.inRound l) (n - 1 - 1) P (Exit.then (fun _ W' => KeepsFrom w.heap.size W W' ∧ Kp m W W' ∧ I (pre ++ [x]) W') (fun _ _ _ => False)) a' W)
    (hdone : ∀ (D : Nat) (xs : List α) (W : World), w.heap.size ≤ D → S xs → I xs W → W.heap[D]? = some (.deferred (some [])) → Q .normal { a with defers := { target := .collected D, args := #[] } :: a.defers } W) :
    (Code.rangeFunc g ps assign body).wpIn F n P Q a w := by
  refine wpIn_rangeFunc fun fn hfn => ?_
  rw [hro]
  obtain ⟨D, hD⟩ : ∃ D, w.heap.size = D := ⟨_, rfl⟩
  obtain ⟨rec, hrec⟩ : ∃ rec, recOf fn a.tmps ps assign body D = rec := ⟨_, rfl⟩
  have hnc : ∀ s, (rec s).isCells = false := fun s => by rw [← hrec]; rfl
  obtain ⟨W0, hW0⟩ : ∃ W0, w.alloc (.deferred (some [])) = W0 := ⟨_, rfl⟩
  have hs0 : W0.heap.size = D + 1 := by rw [← hW0, World.size_alloc, hD]
  have hd0 : W0.heap[D]? = some (.deferred (some [])) := by rw [← hW0, ← hD]; exact World.alloc_heap_new w _
  have hi0 : I [] W0 := by rw [← hW0]; exact hI.alloc _ h0
  have hb0 : Below w.heap.size w W0 := by rw [← hW0]; exact (Below.refl _ w).alloc (Nat.le_refl _) _
  have hent := run_enterLoop_outer (P := P) (w := w) fn a.tmps ps assign body
  rw [hW0, hD] at hent
  change _ = Result.ok _ (W0.alloc (recOf fn a.tmps ps assign body D .ready)) at hent
  rw [hrec] at hent
  have hl1 : (W0.alloc (rec .ready)).heap[D + 1]? = some (rec .ready) := by rw [← hs0]; exact World.alloc_heap_new W0 _
  have hd1 : (W0.alloc (rec .ready)).heap[D]? = some (.deferred (some [])) := (Below.heap_alloc _ _ _ (by omega)).trans hd0
  have hi1 : I [] (W0.alloc (rec .ready)) := hI.alloc _ hi0
  have hb1 : Below w.heap.size w (W0.alloc (rec .ready)) := hb0.alloc (by omega) _
  generalize W0.alloc (rec .ready) = W1 at hent hl1 hd1 hi1 hb1
  refine ⟨D + 1, _, W1, { target := .fn (.func gf) lb, args := #[.func (.yield (D + 1)) #[] #[]] }, W1, gf, #[.func (.yield (D + 1)) #[] #[]] ++ lb, W1, hent, ?_, ?_, ?_, fun _ => h1, ?_⟩
  · simp only [resolve, hg]
    simp [go_sem]
  · intro f' hf'
    simp [Target.leads] at hf'
    subst hf'
    exact hFg
  · simp [invoke, go_sem, eg]
  · refine (hseq (D + 1) (fun pre W => I pre W ∧ W.heap[D + 1]? = some (rec .ready) ∧ W.heap[D]? = some (.deferred (some []))) W1 hb1 ?_ ⟨hi1, hl1, hd1⟩).mono ?_
    · -- a round
      rintro pre x V W ⟨hi, hl, hd⟩ hV hR hlen
      have hlV := (Array.getElem?_eq_some_iff.1 hl).1
      replace hl := (hV.block _ hlV).trans hl
      replace hd := (hV.block _ (by omega)).trans hd
      rw [← hrec] at hl
      refine yield_round hfn (hps x) hl ?_
      rw [hrec] at hl ⊢
      refine htake _ pre x V W _ hi hV hR hlen fun a' W' hkf hkp hax => ?_
      have hl' := hkf.same _ _ (by omega) hl (hnc _)
      have hd' := hkf.same _ _ (by omega) hd rfl
      refine ⟨hl', ?_⟩
      have hax2 := (hAx _ pre x a').putObj (s := ()) (rec .busy) hax (by omega) hl' (hnc _)
      have hkp2 := hKb V.heap.size W' (D + 1) _ (rec .busy) (by omega) hlV hl' (hnc _)
      have hl2 : (W'.putObj (D + 1) (rec .busy)).heap[D + 1]? = some (rec .busy) := World.putObj_heap_same (Array.getElem?_eq_some_iff.1 hl').1
      have hd2 : (W'.putObj (D + 1) (rec .busy)).heap[D]? = some (.deferred (some [])) := (World.putObj_heap_other (by omega)).trans hd'
      refine wpIn_mono (hbody (D + 1) _ pre x a' _ hax2 hlen) ?_
      rintro e a3 W3 hp
      cases e with
      | normal =>
        obtain ⟨hkf3, hkp3, hi3⟩ := hp
        have hl3 := hkf3.same _ _ (by omega) hl2 (hnc _)
        have hd3 := hkf3.same _ _ (by omega) hd2 rfl
        refine ⟨hl3, rfl, ⟨hI.putObj _ hi3 (by omega) hl3 (hnc _), World.putObj_heap_same (Array.getElem?_eq_some_iff.1 hl3).1, (World.putObj_heap_other (by omega)).trans hd3⟩, ?_⟩
        exact hKt hkp (hKt (hKt hkp2 hkp3) (hKb _ W3 (D + 1) _ _ (by omega) hlV hl3 (hnc _)))
      | _ => exact (show False from hp).elim
    · -- behind it
      rintro e W2 ⟨⟨v, rfl⟩, xs, V, hS, ⟨hi, hl, hd⟩, hV⟩
      have hlV := (Array.getElem?_eq_some_iff.1 hl).1
      replace hl := (hV.block _ hlV).trans hl
      replace hd := (hV.block _ (by omega)).trans hd
      have hi' := hI.putObj (.loop { state := .exhausted, pending := none, fn := fn, tmps := a.tmps, params := ps, assign := assign, body := body, defers := D }) (ownFrom_below' hI hi hV) (by omega) hl (hnc _)
      rw [← hrec] at hl
      exact ⟨none, _, run_endLoop hl (by simp), hdone D xs _ (by omega) hS hi' ((World.putObj_heap_other (by omega)).trans hd)⟩
end Go.Proofs.YtimihhcidbeonaaGreat
namespace Go.Proofs.YtimihhcidbeonaaGreat
open Go.RowKit
/-- What lay in A lies in B, but what is no cells and lies at or beyond m. -/
structure Calm (m : Nat) (A B : World) : Prop where
  os : B.os = A.os
  tape : B.tape = A.tape
  output : B.output = A.output
  size : A.heap.size ≤ B.heap.size
  low : ∀ k, k < m → k < A.heap.size → B.heap[k]? = A.heap[k]?
  cells : ∀ (k : Nat) (o : Obj), A.heap[k]? = some o → o.isCells = true → B.heap[k]? = some o
theorem Calm.mono {m m' : Nat} {A B : World} (h : Calm m' A B) (hm : m ≤ m') : Calm m A B := ⟨h.os, h.tape, h.output, h.size, fun k h1 h2 => h.low k (by omega) h2, h.cells⟩
theorem Calm.of_below {m : Nat} {A B : World} (h : Below A.heap.size A B) : Calm m A B :=
  ⟨h.os, h.tape, h.output, h.size, fun k _ h2 => h.block k h2, fun k _ h1 _ => (h.block k (Array.getElem?_eq_some_iff.1 h1).1).trans h1⟩
theorem Calm.alloc (m : Nat) (A : World) (o : Obj) : Calm m A (A.alloc o) := Calm.of_below ((Below.refl _ _).alloc (Nat.le_refl _) _)
theorem Calm.putObj {m l : Nat} {A : World} {o : Obj} (o' : Obj) (hl : A.heap[l]? = some o) (ho : o.isCells = false) (hm : m ≤ l) : Calm m A (A.putObj l o') := by
  have hg := grownBy_putObj' A l o'
  refine ⟨hg.os, hg.tape, hg.output, hg.size, fun k h1 h2 => World.putObj_heap_other (by omega), fun k c h1 h2 => (World.putObj_heap_other (fun e => ?_)).trans h1⟩
  subst e
  rw [hl] at h1
  injection h1 with h1
  rw [← h1, ho] at h2
  cases h2
/-- What is said of a world abides what leaves it calm. -/
def Abides {β : Type} (m : Nat) (J : β → World → Prop) : Prop := ∀ s A B, J s A → Calm m A B → J s B
theorem abides_below {β : Type} {m B : Nat} {w0 : World} (hB : B ≤ m) (h0 : B ≤ w0.heap.size) : Abides m (fun (_ : β) W => Below B w0 W) := fun _ A X hs hc =>
  ⟨hc.os.trans hs.os, hc.tape.trans hs.tape, hc.output.trans hs.output, Nat.le_trans hs.size hc.size, fun k hk => (hc.low k (by omega) (by have := hs.size; omega)).trans (hs.block k hk)⟩
theorem Calm.held {m b : Nat} {A B : World} {t : TypeId} {c : Array Value} (h : Calm m A B) (hb : Held A b t c) : Held B b t c := h.cells b _ hb rfl
theorem Calm.boxed {m b : Nat} {A B : World} {t : TypeId} {v : Value} (h : Calm m A B) (hb : Boxed A b t v) : Boxed B b t v := h.cells b _ hb rfl
variable {F : Fence} {n : Nat} {P : Program}
/-- What may be ranged over hands on x's, of each of which R holds; it goes on till a round says no more. Kp m: what a round keeps, m being how many blocks there are where it begins; lv: that a round may leave the loop. -/
def Gives {α : Type} (F : Fence) (n : Nat) (P : Program) (gf : Nat) (lb : Array Value) (encs : α → Array Value) (R : List α → α → Prop) (Kp : Nat → World → World → Prop) (S Sp : List α → Prop) (lv : Prop) (w : World) : Prop :=
  ∀ (l : Nat) (J Jx : List α → World → Prop) (W : World), Below w.heap.size w W → Abides W.heap.size J → Abides W.heap.size Jx →
    (∀ pre x W1, J pre W1 → R pre x → W.heap.size ≤ W1.heap.size → YieldAt F (n - 1) P l (encs x) W1 fun e W' => (e = .returned (.bool true) ∧ J (pre ++ [x]) W' ∧ Kp W.heap.size W1 W') ∨ (lv ∧ e = .returned (.bool false) ∧ Jx (pre ++ [x]) W')) →
    J [] W → CallsIn F n P gf (#[.func (.yield l) #[] #[]] ++ lb) W fun e W' => (∃ v, e = .returned v) ∧ ((∃ xs, S xs ∧ J xs W') ∨ (∃ pre, Sp pre ∧ Jx pre W'))
/-- The record of a loop: its state, what is to be done behind it. -/
def recJ (fn : FuncId) (tmps : Array Value) (ps : Array Tmp) (assign body : Code) (D : Nat) (s : LoopState) (j : Option Code) : Obj :=
  .loop { state := s, pending := j, fn := fn, tmps := tmps, params := ps, assign := assign, body := body, defers := D }
/-- How a round's body ends: it goes on, or it returns. -/
def RoundEnds (G : World → Prop) (X : World → Prop) : Exit → Act → World → Prop
  | .normal, _, W' => G W'
  | .ret, _, W' => X W'
  | _, _, _ => False
/-- One round. -/
theorem yield_round2 {l D : Nat} {fn : FuncId} {tmps args : Array Value} {ps : Array Tmp} {assign body : Code} {W : World} {E : Ending → World → Prop} (hfn : F.fn fn) (hps : args.size = ps.size)
    (hl : W.heap[l]? = some (recJ fn tmps ps assign body D .ready none))
    (h : assign.wpIn (F.inRound l) n P (Exit.then (fun a1 W1 => W1.heap[l]? = some (recJ fn tmps ps assign body D .ready none) ∧
        body.wpIn (F.inRound l) n P (RoundEnds (fun W3 => W3.heap[l]? = some (recJ fn tmps ps assign body D .busy none) ∧ E (.returned (.bool true)) (W3.putObj l (recJ fn tmps ps assign body D .ready none)))
          (fun W3 => W3.heap[l]? = some (recJ fn tmps ps assign body D .busy none) ∧ E (.returned (.bool false)) (W3.putObj l (recJ fn tmps ps assign body D .done (some .ret))))) a1 (W1.putObj l (recJ fn tmps ps assign body D .busy none))) (fun _ _ _ => False))
      { tmps := (ps.zip args).foldl (fun t (p, v) => t.setIfInBounds p v) tmps, defers := [] } W) :
    YieldAt F n P l args W E := by
  refine ⟨fn, _, assign, body, run_yield hl hps, roundIn_of_wpIn hfn (wpIn_mono h ?_)⟩
  rintro e a1 W1 hp
  cases e with
  | normal =>
    refine ⟨_, run_beginRound hp.1 rfl, wpIn_mono hp.2 ?_⟩
    rintro e a3 W3 hq
    cases e with
    | normal => exact ⟨_, _, run_endRound none hq.1, hq.2⟩
    | ret => exact ⟨_, _, run_endRound (some .ret) hq.1, hq.2⟩
    | _ => exact (show False from hq).elim
  | _ => exact (show False from hp).elim
/-- The loop. -/
theorem range_gives {α : Type} {g : Operand} {ps : Array Tmp} {assign body : Code} {Q : Exit → Act → World → Prop} {a : Act} {w : World}
    (hro : F.round = none) (h1 : 1 ≤ n) {gf : Nat} {lb : Array Value} (hg : a.eval g = .func (.func gf) #[] lb) (hFg : F.fn gf) (eg : ∀ args w, (callFunc gf args).run P w = .ok (.enter gf args) w)
    {encs : α → Array Value} {R : List α → α → Prop} {Kp : Nat → World → World → Prop} {S Sp : List α → Prop} {lv : Prop} (hseq : Gives F (n - 1) P gf lb encs R Kp S Sp lv w) (hps : ∀ x, (encs x).size = ps.size)
    (hKt : ∀ {m : Nat} {A B C : World}, Kp m A B → Kp m B C → Kp m A C) (hKb : ∀ (m : Nat) (W : World) (l : Nat) (o o' : Obj), w.heap.size ≤ l → l < m → W.heap[l]? = some o → o.isCells = false → Kp m W (W.putObj l o'))
    (I Ix : List α → World → Prop) (hI : Abides w.heap.size I) (hIx : Abides w.heap.size Ix) (h0 : I [] w) (Ax : List α → α → Act → World → Prop) (hAx : ∀ pre x a', Abides w.heap.size (fun (_ : Unit) W => Ax pre x a' W))
    (htake : ∀ (l m : Nat) (pre : List α) (x : α) (W : World) (K : Act → World → Prop), w.heap.size < m → m ≤ W.heap.size → I pre W → R pre x → (∀ a' W', KeepsFrom w.heap.size W W' → Kp m W W' → Ax pre x a' W' → K a' W') →
      assign.wpIn (F.inRound l) (n - 1 - 1) P (Exit.then K (fun _ _ _ => False)) { tmps := (ps.zip (encs x)).foldl (fun t (p, v) => t.setIfInBounds p v) a.tmps, defers := [] } W)
    (hbody : ∀ (l m : Nat) (pre : List α) (x : α) (a' : Act) (W : World), w.heap.size < m → m ≤ W.heap.size → Ax pre x a' W →
      body.wpIn (F.inRound l) (n - 1 - 1) P (RoundEnds (fun W' => KeepsFrom w.heap.size W W' ∧ Kp m W W' ∧ I (pre ++ [x]) W') (fun W' => lv ∧ KeepsFrom w.heap.size W W' ∧ Ix (pre ++ [x]) W')) a' W)
    (hdone : ∀ (D : Nat) (xs : List α) (W : World), w.heap.size ≤ D → S xs → I xs W → W.heap[D]? = some (.deferred (some [])) → Q .normal { a with defers := { target := .collected D, args := #[] } :: a.defers } W)
    (hstop : ∀ (D : Nat) (pre : List α) (W : World), w.heap.size ≤ D → Sp pre → Ix pre W → W.heap[D]? = some (.deferred (some [])) → Code.ret.wpIn F n P Q { a with defers := { target := .collected D, args := #[] } :: a.defers } W) :
    (Code.rangeFunc g ps assign body).wpIn F n P Q a w := by
  refine wpIn_rangeFunc fun fn hfn => ?_
  rw [hro]
  obtain ⟨D, hD⟩ : ∃ D, w.heap.size = D := ⟨_, rfl⟩
  obtain ⟨rec, hrec⟩ : ∃ rec, recJ fn a.tmps ps assign body D = rec := ⟨_, rfl⟩
  have hnc : ∀ s j, (rec s j).isCells = false := fun s j => by rw [← hrec]; rfl
  obtain ⟨W0, hW0⟩ : ∃ W0, w.alloc (.deferred (some [])) = W0 := ⟨_, rfl⟩
  have hs0 : W0.heap.size = D + 1 := by rw [← hW0, World.size_alloc, hD]
  have hd0 : W0.heap[D]? = some (.deferred (some [])) := by rw [← hW0, ← hD]; exact World.alloc_heap_new w _
  have hi0 : I [] W0 := by rw [← hW0]; exact hI _ _ _ h0 (Calm.alloc _ _ _)
  have hb0 : Below w.heap.size w W0 := by rw [← hW0]; exact (Below.refl _ w).alloc (Nat.le_refl _) _
  have hent := run_enterLoop_outer (P := P) (w := w) fn a.tmps ps assign body
  rw [hW0, hD] at hent
  change _ = Result.ok _ (W0.alloc (recJ fn a.tmps ps assign body D .ready none)) at hent
  rw [hrec] at hent
  have hl1 : (W0.alloc (rec .ready none)).heap[D + 1]? = some (rec .ready none) := by rw [← hs0]; exact World.alloc_heap_new W0 _
  have hd1 : (W0.alloc (rec .ready none)).heap[D]? = some (.deferred (some [])) := (Below.heap_alloc _ _ _ (by omega)).trans hd0
  have hi1 : I [] (W0.alloc (rec .ready none)) := hI _ _ _ hi0 (Calm.alloc _ _ _)
  have hb1 : Below w.heap.size w (W0.alloc (rec .ready none)) := hb0.alloc (by omega) _
  have hs1 : (W0.alloc (rec .ready none)).heap.size = D + 2 := by rw [World.size_alloc, hs0]
  generalize W0.alloc (rec .ready none) = W1 at hent hl1 hd1 hi1 hb1 hs1
  refine ⟨D + 1, _, W1, { target := .fn (.func gf) lb, args := #[.func (.yield (D + 1)) #[] #[]] }, W1, gf, #[.func (.yield (D + 1)) #[] #[]] ++ lb, W1, hent, ?_, ?_, ?_, fun _ => h1, ?_⟩
  · simp only [resolve, hg]
    simp [go_sem]
  · intro f' hf'
    simp [Target.leads] at hf'
    subst hf'
    exact hFg
  · simp [invoke, go_sem, eg]
  · refine (hseq (D + 1) (fun pre W => I pre W ∧ W.heap[D + 1]? = some (rec .ready none) ∧ W.heap[D]? = some (.deferred (some [])))
      (fun pre W => Ix pre W ∧ W.heap[D + 1]? = some (rec .done (some .ret)) ∧ W.heap[D]? = some (.deferred (some []))) W1 hb1 ?_ ?_ ?_ ⟨hi1, hl1, hd1⟩).mono ?_
    · rintro pre A B ⟨h1, h2, h3⟩ hc
      have hlt := (Array.getElem?_eq_some_iff.1 h2).1
      exact ⟨hI _ _ _ h1 (hc.mono (by omega)), (hc.low _ (by omega) hlt).trans h2, (hc.low _ (by omega) (by omega)).trans h3⟩
    · rintro pre A B ⟨h1, h2, h3⟩ hc
      have hlt := (Array.getElem?_eq_some_iff.1 h2).1
      exact ⟨hIx _ _ _ h1 (hc.mono (by omega)), (hc.low _ (by omega) hlt).trans h2, (hc.low _ (by omega) (by omega)).trans h3⟩
    · -- a round
      rintro pre x W ⟨hi, hl, hd⟩ hR hsz
      have hlV := (Array.getElem?_eq_some_iff.1 hl).1
      rw [← hrec] at hl
      refine yield_round2 hfn (hps x) hl ?_
      rw [hrec] at hl ⊢
      refine htake _ W1.heap.size pre x W _ (by omega) hsz hi hR fun a' W' hkf hkp hax => ?_
      have hl' := hkf.same _ _ (by omega) hl (hnc _ _)
      have hd' := hkf.same _ _ (by omega) hd rfl
      refine ⟨hl', ?_⟩
      have hax2 := (hAx pre x a') () _ _ hax (Calm.putObj (rec .busy none) hl' (hnc _ _) (by omega))
      have hkp2 := hKb W1.heap.size W' (D + 1) _ (rec .busy none) (by omega) (by omega) hl' (hnc _ _)
      have hl2 : (W'.putObj (D + 1) (rec .busy none)).heap[D + 1]? = some (rec .busy none) := World.putObj_heap_same (Array.getElem?_eq_some_iff.1 hl').1
      have hd2 : (W'.putObj (D + 1) (rec .busy none)).heap[D]? = some (.deferred (some [])) := (World.putObj_heap_other (by omega)).trans hd'
      have hz2 : (W'.putObj (D + 1) (rec .busy none)).heap.size = W'.heap.size := by simp [World.putObj]
      refine wpIn_mono (hbody (D + 1) W1.heap.size pre x a' _ (by omega) (by have := hkf.size; omega) hax2) ?_
      rintro e a3 W3 hp
      cases e with
      | normal =>
        obtain ⟨hkf3, hkp3, hi3⟩ := hp
        have hl3 := hkf3.same _ _ (by omega) hl2 (hnc _ _)
        have hd3 := hkf3.same _ _ (by omega) hd2 rfl
        exact ⟨hl3, .inl ⟨rfl, ⟨hI _ _ _ hi3 (Calm.putObj _ hl3 (hnc _ _) (by omega)), World.putObj_heap_same (Array.getElem?_eq_some_iff.1 hl3).1, (World.putObj_heap_other (by omega)).trans hd3⟩,
          hKt hkp (hKt (hKt hkp2 hkp3) (hKb _ W3 (D + 1) _ _ (by omega) (by omega) hl3 (hnc _ _)))⟩⟩
      | ret =>
        obtain ⟨hlv, hkf3, hi3⟩ := hp
        have hl3 := hkf3.same _ _ (by omega) hl2 (hnc _ _)
        have hd3 := hkf3.same _ _ (by omega) hd2 rfl
        exact ⟨hl3, .inr ⟨hlv, rfl, hIx _ _ _ hi3 (Calm.putObj _ hl3 (hnc _ _) (by omega)), World.putObj_heap_same (Array.getElem?_eq_some_iff.1 hl3).1, (World.putObj_heap_other (by omega)).trans hd3⟩⟩
      | _ => exact (show False from hp).elim
    · -- behind it
      rintro e W2 ⟨⟨v, rfl⟩, ⟨xs, hS, hi, hl, hd⟩ | ⟨pre, hS, hi, hl, hd⟩⟩
      · have hi' := hI _ _ _ hi (Calm.putObj (recJ fn a.tmps ps assign body D .exhausted none) hl (hnc _ _) (by omega))
        rw [← hrec] at hl
        exact ⟨none, _, run_endLoop hl (by simp), hdone D xs _ (by omega) hS hi' ((World.putObj_heap_other (by omega)).trans hd)⟩
      · have hi' := hIx _ _ _ hi (Calm.putObj (recJ fn a.tmps ps assign body D .exhausted (some .ret)) hl (hnc _ _) (by omega))
        rw [← hrec] at hl
        exact ⟨some .ret, _, run_endLoop hl (by simp), hstop D pre _ (by omega) hS hi' ((World.putObj_heap_other (by omega)).trans hd)⟩
end Go.Proofs.YtimihhcidbeonaaGreat
namespace Go.Proofs.YtimihhcidbeonaaGreat
open Go.RowKit
variable {P : Program} {ops : Array Oper} {Q : Exit → Act → World → Prop} {md : Region.Mode} {n l : Nat}
/-- No operation is a deferred call. -/
def noDefer (ops : Array Oper) : Bool := ops.all fun o => match o.op with | .defer _ => false | _ => true
theorem noDefer_spec {ops : Array Oper} (h : noDefer ops = true) {i : Nat} {o : Oper} (ho : ops[i]? = some o) : ∀ c, o.op ≠ .defer c := by
  intro c e
  have := Array.all_eq_true.1 h i (Array.getElem?_eq_some_iff.1 ho).1
  rw [(Array.getElem?_eq_some_iff.1 ho).2, e] at this
  cases this
theorem wpOp_round (hd : noDefer ops = true) (hl : ¬ LetsOut Q) {i : Nat} {a : Act} {w : World} {K : Act → World → Prop} (h : wpOp P ops Q i K a w) : wpOpIn (Fence.wide.inRound l) n P ops Q i K a w := by
  unfold wpOp at h
  unfold wpOpIn
  cases ho : ops[i]? with
  | none => rw [ho] at h; exact h
  | some o =>
    rw [ho] at h
    dsimp only at h ⊢
    by_cases hw : Region.wanted o (yielded ops a.tmps) = true
    · rw [if_pos hw] at h ⊢
      rcases h with h | ⟨_, h⟩
      · refine ⟨fun _ _ => trivial, ?_⟩
        rw [Oper.semAt_eq _ _ _ (noDefer_spec hd ho)]
        unfold Oper.wp at h
        generalize (execOp a.eval o).run P w = r at h ⊢
        cases r with
        | ok x w' =>
          cases x <;> simp only [Oper.upon] at h <;> simp only [Oper.uponIn] <;> first
            | exact h
            | exact h.elim
            | exact ⟨fun h => (by cases h), (show CallsIn Fence.wide _ _ _ _ _ _ from callsIn_wide.2 h)⟩
            | (refine ⟨fun h => (by cases h), fun c cs _ => ?_⟩; obtain ⟨v, w2, r, s⟩ := h c cs; exact ⟨v, w2, r, stepsIn_wide.2 s⟩)
        | halt x w' => cases x <;> simp only [Oper.upon] at h <;> simp only [Oper.uponIn] <;> first | exact h | exact h.elim
      · exact absurd h hl
    · rw [if_neg hw] at h ⊢
      exact ⟨fun _ _ => trivial, h⟩
theorem wpAny_round (hd : noDefer ops = true) (hl : ¬ LetsOut Q) : ∀ (fuel : Nat) (listed : Array Bool) (a : Act) (w : World), wpAny P md ops Q fuel listed a w → wpAnyIn (Fence.wide.inRound l) n P md ops Q fuel listed a w
  | 0, _, _, _, h => h
  | fuel + 1, _, _, _, h => ⟨h.1, fun i hi => wpOpIn_mono (fun a' w' h' => wpAny_round hd hl fuel _ a' w' h') (wpOp_round hd hl (h.2 i hi))⟩
/-- The region, by a condition on its worlds. -/
theorem wpIn_region_round {id : Nat} {a : Act} {w : World} {S : World → Prop} (hm : P.follows .mixedOrders = true) (hd : noDefer ops = true) (hl : ¬ LetsOut Q) (hS : S w.drew)
    (h : S w.drew → wpAnyH P .any ops Q S ops.size (Array.replicate ops.size false) a w.drew) : (Code.region id ops true).wpIn (Fence.wide.inRound l) n P Q a w :=
  wpIn_region_any hm (wpAny_round hd hl _ _ _ _ (wpAny_of_held _ _ _ _ (h hS)))
end Go.Proofs.YtimihhcidbeonaaGreat

namespace Go.Proofs.YtimihhcidbeonaaGreat
open Go.RowKit
/-- The first entry whose key is the same as k, by s. -/
def findE (s : Value → Bool) : List MapEntry → Nat → Option (Nat × Value)
  | [], _ => none
  | e :: es, i => if s e.key then some (i, e.val) else findE s es (i + 1)
section
variable {P : Program} {w : World} {kt : TypeId} {k : Value} {s : Value → Bool}
theorem run_findAsking : ∀ (es : List MapEntry) (i : Nat), (∀ e ∈ es, (Op.equal kt k e.key).run P w = .ok (s e.key) w) → (Instr.findAsking kt k es i).run P w = .ok (findE s es i) w
  | [], i, _ => by simp [Instr.findAsking, findE]
  | e :: es, i, h => by
    have h1 := h e (List.mem_cons_self ..)
    have h2 := run_findAsking es (i + 1) (fun e' he => h e' (List.mem_cons_of_mem _ he))
    simp only [Instr.findAsking, Sem.run_bind, h1, Result.andThen_ok, findE]
    cases s e.key
    · simpa using h2
    · simp
theorem findNow_struct {fs : Array Field} : ∀ (es : List MapEntry) (i : Nat), Instr.findNow (.struct fs) k es i = if es = [] then some none else none
  | [], i => by simp [Instr.findNow]
  | e :: es, i => by simp [Instr.findNow, Instr.sameNow]
theorem run_findKey_struct {fs : Array Field} (hk : P.underlying kt = some (.struct fs)) (es : List MapEntry) (h : ∀ e ∈ es, (Op.equal kt k e.key).run P w = .ok (s e.key) w) : (Instr.findKey kt k es).run P w = .ok (findE s es 0) w := by
  unfold Instr.findKey
  rw [Sem.run_bind, run_underlying hk, Result.andThen_ok, findNow_struct]
  cases es with
  | nil => simp [findE]
  | cons e es =>
    simp only [reduceCtorEq, if_false]
    exact run_findAsking _ 0 h
/-- m[k] (ok: with 'ok'). -/
theorem run_lookup_struct {fs : Array Field} {t et : TypeId} {r : Nat} {es : Array MapEntry} {clock : Nat} {zero : Value} (hk : P.underlying kt = some (.struct fs)) (ht : P.underlying t = some (.map kt et)) (hb : w.heap[r]? = some (.map es clock))
    (hc : ∀ b, (Instr.checkKey b 10000 kt k).run P w = .ok () w) (hz : (zeroValue et).run P w = .ok zero w) (h : ∀ e ∈ es.toList, (Op.equal kt k e.key).run P w = .ok (s e.key) w) (ok : Bool) :
    (Instr.lookup t (.map (some r)) k ok).run P w = .ok (match findE s es.toList 0 with
      | some (_, v) => if ok then .tuple #[v, .bool true] else v
      | none => if ok then .tuple #[zero, .bool false] else zero) w := by
  have hf := run_findKey_struct hk es.toList h
  have hg : (getObj r).run P w = .ok (.map es clock) w := by simp [getObj, Sem.run, hb]
  unfold Instr.lookup
  simp only [Sem.run_bind, run_underlying ht, Result.andThen_ok, hg, Sem.run_pure, hc, hf]
  cases findE s es.toList 0 with
  | none => cases ok <;> simp [hz]
  | some p => obtain ⟨i, v⟩ := p; cases ok <;> simp
/-- m[k] = v. -/
theorem run_mapUpdate_struct {fs : Array Field} {t et : TypeId} {r : Nat} {es : Array MapEntry} {clock : Nat} {v : Value} (hk : P.underlying kt = some (.struct fs)) (ht : P.underlying t = some (.map kt et)) (hb : w.heap[r]? = some (.map es clock))
    (hc : ∀ b, (Instr.checkKey b 10000 kt k).run P w = .ok () w) (h : ∀ e ∈ es.toList, (Op.equal kt k e.key).run P w = .ok (s e.key) w) (hn : findE s es.toList 0 = none) :
    (Instr.mapUpdate t (.map (some r)) k v).run P w = .ok () (w.putObj r (.map (es.push { key := k, val := v, born := clock }) (clock + 1))) := by
  have hf := run_findKey_struct hk es.toList h
  rw [hn] at hf
  have hg : (getObj r).run P w = .ok (.map es clock) w := by simp [getObj, Sem.run, hb]
  have hs : ∀ o, (setObj r o).run P w = .ok () (w.putObj r o) := fun o => by simp [setObj, Sem.run, hb, World.putObj]
  unfold Instr.mapUpdate
  simp only [Sem.run_bind, run_underlying ht, Result.andThen_ok, hg, hc, hf]
  rw [hs]
end
end Go.Proofs.YtimihhcidbeonaaGreat
