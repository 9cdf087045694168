/-
  find.At: the frame that begins at a place of bytes, how many bytes it has, or why there is none.
-/
import Derived.Test.YtpphgmddancocaaFrameGet
import Derived.Test.YtpphgmddancocaaPlainFrames
namespace Go.Proofs.Ytpphgmddancocaa
open Go.RowKit

/-- A row of bytes is one still, behind a store into a block that holds no byte. -/
theorem Row.past_put {w : World} {B g : Nat} {t : TypeId} {cs : Array Value} {v : Value} {xs : List Int} (h : Row w B v xs) (hg : Held w g t cs) (hcs : ∀ (i : Nat) (n : Int), cs[i]? ≠ some (.int .u8 n)) (i : Nat) (u : Value) :
    Row (w.setCell ⟨g, i, none⟩ u) B v xs :=
  h.keep_but (g := g) (fun k _ hn => Below.heap_setCell _ ⟨g, i, none⟩ _ k (by simp only; exact hn)) (fun j n => by rw [hg.cell j]; exact hcs j n)
theorem two_nob {x : Int} {v : Value} (hv : ∀ n, v ≠ .int .u8 n) (i : Nat) (n : Int) : (#[Value.int .i64 x, v] : Array Value)[i]? ≠ some (.int .u8 n) := by
  match i with
  | 0 => simp
  | 1 => simpa using hv n
  | i + 2 => simp

set_option maxRecDepth 100000 in
set_option maxHeartbeats 1000000 in
theorem at_in (A : Option Addr) (c : Nat) (xs : List Int) (hsm : xs.length ≤ 9223372036854775807) (w : World) (hrow : Row w w.heap.size (.slice A xs.length c) xs) (hb : ∀ x ∈ xs, 0 ≤ x ∧ x < 256) (k : Nat) (hk : k ≤ xs.length) :
    Calls Try.prog 29 #[.slice A xs.length c, .int .i64 k] w (FGot w (getFr (xs.drop k))) := by
  have hcs : xs.length ≤ c ∧ c ≤ 9223372036854775807 := by
    obtain ⟨_, _, hv, q1, q2, _⟩ := hrow
    injection hv with _ _ e3
    subst e3
    unfold maxLen at q2
    exact ⟨q1, by omega⟩
  obtain ⟨hlc, hcm⟩ := hcs
  have hrr := hrow.drop hk
  have hrow0 := hrow
  have hbr : ∀ x ∈ xs.drop k, 0 ≤ x ∧ x < 256 := drop_bytes hb k
  have hrl : (xs.drop k).length = xs.length - k := by simp
  have hget := fun W (h : Row W W.heap.size (.slice (if c = k then A else A.map (·.add k)) (xs.drop k).length (c - k)) (xs.drop k)) => fget_any (if c = k then A else A.map (·.add k)) (c - k) (xs.drop k) (by omega) W h hbr
  rw [hrl] at hrr hget
  clear hrow hb hbr hrl
  generalize getFr (xs.drop k) = t at hget ⊢
  have k0 : (0 : Int) ≤ k := by omega
  have k1 : (k : Int) ≤ (xs.length : Int) := by omega
  by_cases hck : c = k
  · subst hck
    rw [if_pos rfl, Nat.sub_self, show xs.length - c = 0 by omega] at hrr hget
    have HG := Lib.hid hget
    have HR := Lib.hid hrr
    clear hrr hget
    have HR0 := Lib.hid ((HR.out.below ((Below.refl _ _).alloc (Nat.le_refl _) (.cells #[.int .i64 0, .slice none 0 0] 33))).more (by simp : w.heap.size ≤ (w.alloc (.cells #[.int .i64 0, .slice none 0 0] 33)).heap.size))
    go_enter Try.func29, Try.ntmps29
    go_wp2_with fail
    refine (HG.out _ HR0.out).mono ?_
    rintro e w1 ⟨A1, c1, rfl, hrow1, hb1⟩
    have hz1 : w.heap.size + 1 ≤ w1.heap.size := by simpa using hb1.size
    have hres : Held w1 w.heap.size 33 #[.int .i64 0, .slice none 0 0] := (hb1.block w.heap.size (by simp)).trans (heap_alloc_new w _)
    have bw1 : Below w.heap.size w w1 := ((Below.refl _ _).alloc (Nat.le_refl _) _).trans (hb1.mono (by simp))
    have hf0 := hres.frozen 0
    have hf1 := hres.frozen 1
    have hr0 := hres.cell 0
    have hr1 := hres.cell 1
    simp at hr0 hr1
    have HROW1 := Lib.hid hrow1
    have HB1 := Lib.hid bw1
    have HRES := Lib.hid hres
    clear hb1 hrow1 bw1 hres
    go_wp2_with fail
    have hfin := (HRES.out.put 0 (.int .i64 t.1.1)).put 1 (.slice A1 t.1.2.length c1)
    have e0 := hfin.cell 0
    have e1 := hfin.cell 1
    simp at e0 e1
    refine bodyPost_ret (v := .tuple #[.agg #[.int .i64 t.1.1, .slice A1 t.1.2.length c1], .int .i64 t.2.1, .int .i64 t.2.2]) (by simp [results, Try.results29, go_sem, e0, e1]) rfl ?_
    refine ⟨A1, c1, rfl, ?_, ?_⟩
    · have h1 := HROW1.out.past_put HRES.out (two_nob (by simp)) 0 (.int .i64 t.1.1)
      have h2 := h1.past_put (by simpa using HRES.out.put 0 (.int .i64 t.1.1)) (two_nob (by simp)) 1 (.slice A1 t.1.2.length c1)
      exact h2.more (by simp)
    · exact (HB1.out.setCell (p := ⟨w.heap.size, 0, none⟩) (Nat.le_refl _) _).setCell (p := ⟨w.heap.size, 1, none⟩) (Nat.le_refl _) _
  · rw [if_neg hck] at hrr hget
    have hkc : k < c := by omega
    have hnil : A ≠ none := fun e => by
      obtain ⟨_, _, hv, _, _, q3, _⟩ := hrow0
      injection hv with e1 _ e3
      have := q3 (e1.symm.trans e)
      omega
    obtain ⟨ad, rfl⟩ := Option.ne_none_iff_exists'.1 hnil
    rw [Option.map_some] at hrr hget
    have HG := Lib.hid hget
    have HR := Lib.hid hrr
    clear hrr hget hnil hrow0
    have HR0 := Lib.hid ((HR.out.below ((Below.refl _ _).alloc (Nat.le_refl _) (.cells #[.int .i64 0, .slice none 0 0] 33))).more (by simp : w.heap.size ≤ (w.alloc (.cells #[.int .i64 0, .slice none 0 0] 33)).heap.size))
    go_enter Try.func29, Try.ntmps29
    go_wp2_with fail
    refine (HG.out _ HR0.out).mono ?_
    rintro e w1 ⟨A1, c1, rfl, hrow1, hb1⟩
    have hz1 : w.heap.size + 1 ≤ w1.heap.size := by simpa using hb1.size
    have hres : Held w1 w.heap.size 33 #[.int .i64 0, .slice none 0 0] := (hb1.block w.heap.size (by simp)).trans (heap_alloc_new w _)
    have bw1 : Below w.heap.size w w1 := ((Below.refl _ _).alloc (Nat.le_refl _) _).trans (hb1.mono (by simp))
    have hf0 := hres.frozen 0
    have hf1 := hres.frozen 1
    have hr0 := hres.cell 0
    have hr1 := hres.cell 1
    simp at hr0 hr1
    have HROW1 := Lib.hid hrow1
    have HB1 := Lib.hid bw1
    have HRES := Lib.hid hres
    clear hb1 hrow1 bw1 hres
    go_wp2_with fail
    have hfin := (HRES.out.put 0 (.int .i64 t.1.1)).put 1 (.slice A1 t.1.2.length c1)
    have e0 := hfin.cell 0
    have e1 := hfin.cell 1
    simp at e0 e1
    refine bodyPost_ret (v := .tuple #[.agg #[.int .i64 t.1.1, .slice A1 t.1.2.length c1], .int .i64 t.2.1, .int .i64 t.2.2]) (by simp [results, Try.results29, go_sem, e0, e1]) rfl ?_
    refine ⟨A1, c1, rfl, ?_, ?_⟩
    · have h1 := HROW1.out.past_put HRES.out (two_nob (by simp)) 0 (.int .i64 t.1.1)
      have h2 := h1.past_put (by simpa using HRES.out.put 0 (.int .i64 t.1.1)) (two_nob (by simp)) 1 (.slice A1 t.1.2.length c1)
      exact h2.more (by simp)
    · exact (HB1.out.setCell (p := ⟨w.heap.size, 0, none⟩) (Nat.le_refl _) _).setCell (p := ⟨w.heap.size, 1, none⟩) (Nat.le_refl _) _

set_option maxRecDepth 100000 in
theorem at_out (A : Option Addr) (c n : Nat) (hn : n ≤ 9223372036854775807) (w : World) (k : Int) (h1 : -9223372036854775808 ≤ k) (h2 : k ≤ 9223372036854775807) (hk : k < 0 ∨ (n : Int) < k) :
    Calls Try.prog 29 #[.slice A n c, .int .i64 k] w (FGot w (noFr 1)) := by
  rcases hk with hk | hk
  · go_enter Try.func29, Try.ntmps29
    go_wp2_with fail
    refine bodyPost_ret (v := .tuple #[.agg #[.int .i64 0, .slice none 0 0], .int .i64 0, .int .i64 1]) (by simp [results, Try.results29, go_sem]) rfl ?_
    exact ⟨none, 0, rfl, Row.nil _ _, (Below.refl _ _).alloc (Nat.le_refl _) _⟩
  · have hk0 : 0 ≤ k := by omega
    go_enter Try.func29, Try.ntmps29
    go_wp2_with fail
    refine bodyPost_ret (v := .tuple #[.agg #[.int .i64 0, .slice none 0 0], .int .i64 0, .int .i64 1]) (by simp [results, Try.results29, go_sem]) rfl ?_
    exact ⟨none, 0, rfl, Row.nil _ _, (Below.refl _ _).alloc (Nat.le_refl _) _⟩
#print axioms at_in
#print axioms at_out
end Go.Proofs.Ytpphgmddancocaa
