/-
  The document's own cursor, its other calls: what each answers.
-/
import Derived.Test.YtbbcbhecppnboaaCurRef
namespace Go.Proofs.Ytbbcbhecppnboaa
open Go.RowKit

set_option maxRecDepth 100000 in
set_option maxHeartbeats 1000000 in
theorem rnumber_any (ys : List Int) (p : Nat) (e most : Int) (hp : p + ys.length ≤ 1000000000) (hb : ∀ x ∈ ys, 0 ≤ x ∧ x < 256) (w : World) :
    Calls Try.prog 34 #[.agg #[.string (strOfNums ys), .int .i64 p, .int .i64 e], .int .u64 most] w (RTook u64V w ys p (tk 0 p e (getN most ys))) := by
  by_cases he : e = 0
  · subst he
    have hget := fun W => rget_any ys hb (by omega) W
    have hfit := getI_fits ys hb
    have hss : (strOfNums ys).size = ys.length := strOfNums_size _
    by_cases her : (getI ys).2.2 = 0
    · by_cases hlt : most < (getI ys).1
      · have hg : getN most ys = ((getI ys).1, (getI ys).2.1, 6) := by unfold getN; rw [if_pos ⟨her, hlt⟩]
        rw [hg, tk_err (by simp)]
        have HR : Ends u64V w ys p (0, p, 6) (.tuple #[.agg #[.string (strOfNums ys), .int .i64 p, .int .i64 6], .int .u64 0]) := ends_of (by simp [u64V])
        clear hg hfit
        generalize getI ys = t at hget her hlt
        obtain ⟨n, s, er⟩ := t
        simp only at hget her hlt
        subst her
        have HG := Lib.hid hget; clear hget hb
        generalize strOfNums ys = S at *
        go_enter Try.func34, Try.ntmps34
        go_wp2_with fail
        refine (HG.out _).mono ?_
        rintro r w0 ⟨rfl, rfl⟩
        go_wp2_with fail
        refine (on_err S p 0 6 0 (by omega) _).mono ?_
        rintro r w1 ⟨rfl, hb1⟩
        obtain ⟨hc, hf⟩ := old_cells hb1
        have hz : w.heap.size + 1 < w1.heap.size := by have := hb1.size; simp at this; omega
        have hB : Below w.heap.size w w1 := by
          refine Below.trans ?_ (hb1.mono (by simp; omega))
          repeat' (first | exact Below.refl _ _ | refine Below.setCell ?_ (by simp) _ | refine Below.alloc ?_ (by simp) _ | refine Below.drew ?_)
        go_wp2_with fail
        refine bodyPost_ret (v := .tuple #[.agg #[.string S, .int .i64 p, .int .i64 6], .int .u64 0]) (by simp [results, Try.results34, go_sem, hc]) rfl (HR _ _ rfl ?_)
        repeat' (first | exact hB | exact Below.refl _ _ | refine Below.setCell ?_ (by simp) _ | refine Below.alloc ?_ (by simp) _ | refine Below.drew ?_)
      · have hg : getN most ys = getI ys := by unfold getN; rw [if_neg (fun h => hlt h.2)]
        rw [hg, tk_ok her]
        have hs := hfit.1 her
        have HR : Ends u64V w ys p ((getI ys).1, p + (getI ys).2.1, 0) (.tuple #[.agg #[.string (strOfNums (ys.drop (getI ys).2.1)), .int .i64 ((p + (getI ys).2.1 : Nat) : Int), .int .i64 0], .int .u64 (getI ys).1]) := ends_of (by simp [u64V])
        have hcut := str_drop ys (k := (getI ys).2.1) rfl
        clear hg hfit
        generalize getI ys = t at hget her hlt hs HR hcut
        obtain ⟨n, s, er⟩ := t
        simp only at hget her hlt hs hcut
        subst her
        have HG := Lib.hid hget; clear hget hb
        generalize strOfNums ys = S at *
        simp only at HR
        generalize strOfNums (ys.drop s) = S' at *
        have HON := Lib.hid (fun W => on_ok S S' p 0 s ys.length hss hs hcut (by omega) W)
        clear hcut hss
        go_enter Try.func34, Try.ntmps34
        go_wp2_with fail
        refine (HG.out _).mono ?_
        rintro r w0 ⟨rfl, rfl⟩
        go_wp2_with fail
        refine (HON.out _).mono ?_
        rintro r w1 ⟨rfl, hb1⟩
        obtain ⟨hc, hf⟩ := old_cells hb1
        have hz : w.heap.size + 1 < w1.heap.size := by have := hb1.size; simp at this; omega
        have hB : Below w.heap.size w w1 := by
          refine Below.trans ?_ (hb1.mono (by simp; omega))
          repeat' (first | exact Below.refl _ _ | refine Below.setCell ?_ (by simp) _ | refine Below.alloc ?_ (by simp) _ | refine Below.drew ?_)
        go_wp2_with fail
        refine bodyPost_ret (v := .tuple #[.agg #[.string S', .int .i64 ((p + s : Nat) : Int), .int .i64 0], .int .u64 n]) (by simp [results, Try.results34, go_sem, hc]) rfl (HR _ _ rfl ?_)
        repeat' (first | exact hB | exact Below.refl _ _ | refine Below.setCell ?_ (by simp) _ | refine Below.alloc ?_ (by simp) _ | refine Below.drew ?_)
    · have hg : getN most ys = getI ys := by unfold getN; rw [if_neg (fun h => her h.1)]
      rw [hg, tk_err her]
      have HR : Ends u64V w ys p (0, p, (getI ys).2.2) (.tuple #[.agg #[.string (strOfNums ys), .int .i64 p, .int .i64 (getI ys).2.2], .int .u64 0]) := ends_of (by simp [u64V])
      clear hg hfit
      generalize getI ys = t at hget her HR
      obtain ⟨n, s, er⟩ := t
      simp only at hget her HR
      have HG := Lib.hid hget; clear hget hb
      generalize strOfNums ys = S at *
      have q1 : (er == 0) = false := beq_eq_false_iff_ne.2 her
      have q2 : (er != 0) = true := by simpa using her
      go_enter Try.func34, Try.ntmps34
      go_wp2_with fail
      refine (HG.out _).mono ?_
      rintro r w0 ⟨rfl, rfl⟩
      go_wp2_with fail
      refine (on_err S p 0 er 0 her _).mono ?_
      rintro r w1 ⟨rfl, hb1⟩
      obtain ⟨hc, hf⟩ := old_cells hb1
      have hz : w.heap.size + 1 < w1.heap.size := by have := hb1.size; simp at this; omega
      have hB : Below w.heap.size w w1 := by
        refine Below.trans ?_ (hb1.mono (by simp; omega))
        repeat' (first | exact Below.refl _ _ | refine Below.setCell ?_ (by simp) _ | refine Below.alloc ?_ (by simp) _ | refine Below.drew ?_)
      go_wp2_with fail
      refine bodyPost_ret (v := .tuple #[.agg #[.string S, .int .i64 p, .int .i64 er], .int .u64 0]) (by simp [results, Try.results34, go_sem, hc]) rfl (HR _ _ rfl ?_)
      repeat' (first | exact hB | exact Below.refl _ _ | refine Below.setCell ?_ (by simp) _ | refine Below.alloc ?_ (by simp) _ | refine Below.drew ?_)
  · rw [tk_stopped he]
    have hne : (e != 0) = true := by simpa using he
    have HR : Ends u64V w ys p (0, p, e) (.tuple #[.agg #[.string (strOfNums ys), .int .i64 p, .int .i64 e], .int .u64 0]) := ends_of (by simp [u64V])
    clear he hb
    generalize strOfNums ys = S at HR
    go_enter Try.func34, Try.ntmps34
    go_wp2_with fail
    refine bodyPost_ret (v := .tuple #[.agg #[.string S, .int .i64 p, .int .i64 e], .int .u64 0]) (by simp [results, Try.results34, go_sem]) rfl (HR _ _ rfl ?_)
    repeat' (first | exact hB | exact Below.refl _ _ | refine Below.setCell ?_ (by simp) _ | refine Below.alloc ?_ (by simp) _ | refine Below.drew ?_)
#print axioms rnumber_any

set_option maxRecDepth 100000 in
set_option maxHeartbeats 1000000 in
theorem rtext_any (ys : List Int) (p : Nat) (e most : Int) (hm0 : -9223372036854775808 ≤ most) (hm1 : most ≤ 9223372036854775807) (hp : p + ys.length ≤ 1000000000) (hb : ∀ x ∈ ys, 0 ≤ x ∧ x < 256) (w : World) :
    Calls Try.prog 38 #[.agg #[.string (strOfNums ys), .int .i64 p, .int .i64 e], .int .i64 most] w (RTook txtV w ys p (tk [] p e (getT most ys))) := by
  by_cases he : e = 0
  · subst he
    have hget := fun W => rbget_any ys most hm0 hm1 W hb (by omega)
    have hfit := getT_fits most ys hb
    have hss : (strOfNums ys).size = ys.length := strOfNums_size _
    by_cases her : (getT most ys).2.2 = 0
    · rw [tk_ok her]
      have hs := hfit.1 her
      have HR : Ends txtV w ys p ((getT most ys).1, p + (getT most ys).2.1, 0) (.tuple #[.agg #[.string (strOfNums (ys.drop (getT most ys).2.1)), .int .i64 ((p + (getT most ys).2.1 : Nat) : Int), .int .i64 0], .string (strOfNums (getT most ys).1)]) := ends_of (by simp [txtV])
      have hcut := str_drop ys (k := (getT most ys).2.1) rfl
      clear hfit
      generalize getT most ys = t at hget her hs HR hcut
      obtain ⟨n, s, er⟩ := t
      simp only at hget her hs hcut
      subst her
      have HG := Lib.hid hget; clear hget hb
      generalize strOfNums ys = S at *
      simp only at HR
      generalize strOfNums (ys.drop s) = S' at *
      have HON := Lib.hid (fun W => on_ok S S' p 0 s ys.length hss hs hcut (by omega) W)
      clear hcut hss
      go_enter Try.func38, Try.ntmps38
      go_wp2_with fail
      refine (HG.out _).mono ?_
      rintro r w0 ⟨rfl, rfl⟩
      go_wp2_with fail
      refine (HON.out _).mono ?_
      rintro r w1 ⟨rfl, hb1⟩
      obtain ⟨hc, hf⟩ := old_cells hb1
      have hz : w.heap.size + 1 < w1.heap.size := by have := hb1.size; simp at this; omega
      have hB : Below w.heap.size w w1 := by
        refine Below.trans ?_ (hb1.mono (by simp; omega))
        repeat' (first | exact Below.refl _ _ | refine Below.setCell ?_ (by simp) _ | refine Below.alloc ?_ (by simp) _ | refine Below.drew ?_)
      go_wp2_with fail
      refine bodyPost_ret (v := .tuple #[.agg #[.string S', .int .i64 ((p + s : Nat) : Int), .int .i64 0], .string (strOfNums n)]) (by simp [results, Try.results38, go_sem, hc]) rfl (HR _ _ rfl ?_)
      repeat' (first | exact hB | exact Below.refl _ _ | refine Below.setCell ?_ (by simp) _ | refine Below.alloc ?_ (by simp) _ | refine Below.drew ?_)
    · rw [tk_err her]
      have hz0 := (getT_zero most ys her).1
      have HR : Ends txtV w ys p ([], p, (getT most ys).2.2) (.tuple #[.agg #[.string (strOfNums ys), .int .i64 p, .int .i64 (getT most ys).2.2], .string (strOfNums (getT most ys).1)]) := ends_of (by simp [txtV, hz0])
      clear hfit hz0
      generalize getT most ys = t at hget her HR
      obtain ⟨n, s, er⟩ := t
      simp only at hget her HR
      have HG := Lib.hid hget; clear hget hb
      generalize strOfNums ys = S at *
      have q1 : (er == 0) = false := beq_eq_false_iff_ne.2 her
      have q2 : (er != 0) = true := by simpa using her
      go_enter Try.func38, Try.ntmps38
      go_wp2_with fail
      refine (HG.out _).mono ?_
      rintro r w0 ⟨rfl, rfl⟩
      go_wp2_with fail
      refine (on_err S p 0 er s her _).mono ?_
      rintro r w1 ⟨rfl, hb1⟩
      obtain ⟨hc, hf⟩ := old_cells hb1
      have hz : w.heap.size + 1 < w1.heap.size := by have := hb1.size; simp at this; omega
      have hB : Below w.heap.size w w1 := by
        refine Below.trans ?_ (hb1.mono (by simp; omega))
        repeat' (first | exact Below.refl _ _ | refine Below.setCell ?_ (by simp) _ | refine Below.alloc ?_ (by simp) _ | refine Below.drew ?_)
      go_wp2_with fail
      refine bodyPost_ret (v := .tuple #[.agg #[.string S, .int .i64 p, .int .i64 er], .string (strOfNums n)]) (by simp [results, Try.results38, go_sem, hc]) rfl (HR _ _ rfl ?_)
      repeat' (first | exact hB | exact Below.refl _ _ | refine Below.setCell ?_ (by simp) _ | refine Below.alloc ?_ (by simp) _ | refine Below.drew ?_)
  · rw [tk_stopped he]
    have hne : (e != 0) = true := by simpa using he
    have HR : Ends txtV w ys p ([], p, e) (.tuple #[.agg #[.string (strOfNums ys), .int .i64 p, .int .i64 e], .string ⟨#[]⟩]) := ends_of (by simp [txtV]; rfl)
    clear he hb
    generalize strOfNums ys = S at HR
    go_enter Try.func38, Try.ntmps38
    go_wp2_with fail
    refine bodyPost_ret (v := .tuple #[.agg #[.string S, .int .i64 p, .int .i64 e], .string ⟨#[]⟩]) (by simp [results, Try.results38, go_sem]) rfl (HR _ _ rfl ?_)
    repeat' (first | exact hB | exact Below.refl _ _ | refine Below.setCell ?_ (by simp) _ | refine Below.alloc ?_ (by simp) _ | refine Below.drew ?_)
#print axioms rtext_any

set_option maxRecDepth 100000 in
set_option maxHeartbeats 1000000 in
theorem rstop_any (S : ByteArray) (p : Nat) (e q : Int) (w : World) :
    Calls Try.prog 43 #[.agg #[.string S, .int .i64 p, .int .i64 e], .int .i64 q] w fun r w' => r = .returned (.agg #[.string S, .int .i64 p, .int .i64 (stopI e q)]) ∧ Below w.heap.size w w' := by
  by_cases he : e = 0
  · subst he
    rw [stopI_zero]
    by_cases hq : q = 0
    · subst hq
      go_enter Try.func43, Try.ntmps43
      go_wp2_with fail
      refine bodyPost_ret (v := .agg #[.string S, .int .i64 p, .int .i64 0]) (by simp [results, Try.results43, go_sem]) rfl ⟨rfl, ?_⟩
      repeat' (first | exact hB | exact Below.refl _ _ | refine Below.setCell ?_ (by simp) _ | refine Below.alloc ?_ (by simp) _ | refine Below.drew ?_)
    · have q2 : (q != 0) = true := by simpa using hq
      go_enter Try.func43, Try.ntmps43
      go_wp2_with fail
      refine (on_err S p 0 q 0 hq _).mono ?_
      rintro r w1 ⟨rfl, hb1⟩
      obtain ⟨hc, hf⟩ := old_cells hb1
      have hz : w.heap.size + 1 < w1.heap.size := by have := hb1.size; simp at this; omega
      have hB : Below w.heap.size w w1 := by
        refine Below.trans ?_ (hb1.mono (by simp; omega))
        repeat' (first | exact Below.refl _ _ | refine Below.setCell ?_ (by simp) _ | refine Below.alloc ?_ (by simp) _ | refine Below.drew ?_)
      go_wp2_with fail
      refine bodyPost_ret (v := .agg #[.string S, .int .i64 p, .int .i64 q]) (by simp [results, Try.results43, go_sem, hc]) rfl ⟨rfl, ?_⟩
      repeat' (first | exact hB | exact Below.refl _ _ | refine Below.setCell ?_ (by simp) _ | refine Below.alloc ?_ (by simp) _ | refine Below.drew ?_)
  · rw [stopI_kept he]
    have q1 : (e == 0) = false := beq_eq_false_iff_ne.2 he
    go_enter Try.func43, Try.ntmps43
    go_wp2_with fail
    refine bodyPost_ret (v := .agg #[.string S, .int .i64 p, .int .i64 e]) (by simp [results, Try.results43, go_sem]) rfl ⟨rfl, ?_⟩
    repeat' (first | exact hB | exact Below.refl _ _ | refine Below.setCell ?_ (by simp) _ | refine Below.alloc ?_ (by simp) _ | refine Below.drew ?_)
#print axioms rstop_any
end Go.Proofs.Ytbbcbhecppnboaa
