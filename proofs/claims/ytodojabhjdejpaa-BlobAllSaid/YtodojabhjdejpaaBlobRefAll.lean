/-
  The document's own All (the texts of a text, or why it is none's), and its Same at equal lists.
-/
import Derived.Test.YtodojabhjdejpaaBlobRefGet
import Derived.Test.YtodojabhjdejpaaBlobAllCall
import Derived.Deep.QuietTactic
import Derived.BigQuiet
namespace Go.Proofs.Ytodojabhjdejpaa
open Go.RowKit

/-- A slice of no elements, newly made. -/
theorem own_empty (w : World) (base : Nat) (e : TypeId) (hb : base ≤ w.heap.size) : (w.alloc (.cells #[] e)).ownsRow base e 1 (.slice (some ⟨w.heap.size, 0, none⟩) 0 0) 0 [] :=
  ⟨rfl, .inr ⟨w.heap.size, 0, #[], rfl, hb, heap_alloc_new w _, Nat.le_refl _, Nat.zero_le _, rfl, rfl⟩⟩

set_option maxRecDepth 100000 in
set_option maxHeartbeats 1000000 in
/-- The document's All. -/
theorem rball_any (xs : List Int) (most : Int) (hm0 : -9223372036854775808 ≤ most) (hm1 : most ≤ 9223372036854775807) (w : World) (hb : ∀ x ∈ xs, 0 ≤ x ∧ x < 256) (hl : xs.length ≤ 1000000000) :
    Calls Try.prog 26 #[.string (strOfNums xs), .int .i64 most] w fun e W' => ∃ v, e = .returned (.tuple #[v, .int .i64 (allT most xs).2]) ∧ W'.ownsRow w.heap.size 9 1 v (allT most xs).1.length (strVs (allT most xs).1) ∧ Below w.heap.size w W' := by
  obtain ⟨i0, hi, hz0, hz1, hz2⟩ := info_parts Try.infoStr
  have HB := Lib.hid hb; clear hb
  go_enter Try.func26, Try.ntmps26
  go_wp2_with fail
  go_loopg [0, 6] xs.length (fun g s0 v0 wr => ∃ (v : Value) (ys : List Int) (pre : List (List Int)), v = v0 ∧ s0 = .string (strOfNums ys) ∧ Hid (ys.length = g) ∧ pre.length + ys.length ≤ xs.length ∧ Hid (∀ x ∈ ys, 0 ≤ x ∧ x < 256) ∧ Hid (glue pre (allT most ys) = allT most xs) ∧
    wr.ownsRow w.heap.size 9 1 v pre.length (strVs pre) ∧ Below w.heap.size w wr)
  case atStart => exact ⟨_, xs, [], rfl, rfl, Lib.hid rfl, by simp, HB, Lib.hid (glue_nil _ (allT_none most xs)), own_empty _ _ _ (Nat.le_refl _), (Below.refl _ _).alloc (Nat.le_refl _) _⟩
  case round =>
    obtain ⟨v, ys, pre, rfl, rfl, HG0, hlen, HYB, HGL, hown, hbw⟩ := hrel
    have hss : (strOfNums ys).size = ys.length := strOfNums_size ys
    by_cases h0 : ys.length = 0
    · obtain rfl : ys = [] := List.eq_nil_of_length_eq_zero h0
      have hfin : allT most xs = (pre, 0) := by rw [← HGL.out, allT_nil]; simp [glue]
      have HF := Lib.hid hfin; clear hfin
      have hs0 : (strOfNums []).size = 0 := rfl
      go_wp2_with fail
      go_ret2
      rw [HF.out]
      exact ⟨v, rfl, hown, hbw⟩
    · have hpos : 0 < ys.length := by omega
      have hne : ys ≠ [] := fun h => by subst h; simp at h0
      have HNE := Lib.hid hne; clear hne h0
      have hg := rbget_any ys most hm0 hm1 wr HYB.out (by omega)
      by_cases he : (getT most ys).2.2 = 0
      · have hok := allT_ok HYB.out HNE.out he
        obtain ⟨k1, k2, _, k4, _⟩ := getT_back ys HYB.out he
        rw [he] at hg
        generalize (getT most ys).1 = t at hg hok k4
        generalize (getT most ys).2.1 = s at hg hok k1 k2
        have HOK := Lib.hid hok; clear hok he
        have HG := Lib.hid hg; clear hg
        have i1 : (0 : Int) ≤ (s : Int) := by omega
        have i2 : (s : Int) ≤ (ys.length : Int) := by omega
        have hcut : (strOfNums ys).extract s ys.length = strOfNums (ys.drop s) := by rw [str_cut, List.take_of_length_le (Nat.le_refl _)]
        have hdl : (ys.drop s).length = ys.length - s := by simp
        have HDL := Lib.hid hdl; clear hdl
        have hsz1 := hbw.size
        go_wp2_with (first
          | (go_at_call 24; refine HG.out.mono ?_; rintro e w1 ⟨rfl, rfl⟩)
          | (at_builtin; refine wpList_append_own _ rfl _ _ 46 rfl w.heap.size 9 i0 (.string ⟨#[]⟩) 1 16 Try.underlying46 hi hz0 hz1 hz2 rfl (by decide) _ _ _ rfl (hown.alloc _) ⟨wr.heap.size, 0, none⟩ 1 1 [.string (strOfNums t)] rfl rfl (cell_one_new _ _ _) (by simp [Value.oneCell']) (by simp only [maxLen]; omega) (by omega) (by simp; omega) ?_; intro v2 w2 hown2 hg2 hn2))
        go_roundg (ys.length - s)
        case measure => have := HG0.out; omega
        case rel =>
          have hb2 : Below w.heap.size w w2 := by
            refine (hbw.alloc hsz1 _).grown hg2 (by simp; omega) (fun j ej => ?_)
            exact (hown.lt j ej).1
          refine ⟨_, ys.drop s, pre ++ [t], rfl, rfl, Lib.hid HDL.out, by rw [HDL.out]; simp; omega, Lib.hid (fun x hx => HYB.out x (List.mem_of_mem_drop hx)), Lib.hid ?_, ?_, hb2⟩
          · rw [← HGL.out, HOK.out, glue_glue]
          · rw [strVs_snoc]
            simpa using hown2
      · have HE := Lib.hid (allT_err HNE.out he)
        generalize (getT most ys).2.2 = er at hg he HE
        have HG := Lib.hid hg; clear hg
        have hne1 : (er != 0) = true := by simpa using he
        have hfin : allT most xs = ([], er) := by
          rw [← HGL.out, HE.out]
          simp [glue, he]
        have HF := Lib.hid hfin
        clear he hfin
        have hsz1 := hbw.size
        go_wp2_with (go_at_call 24; refine HG.out.mono ?_; rintro e w1 ⟨rfl, rfl⟩)
        go_ret2
        rw [HF.out]
        exact ⟨_, rfl, own_empty _ _ _ hsz1, hbw.alloc hsz1 _⟩
#print axioms rball_any

set_option maxRecDepth 100000 in
set_option maxHeartbeats 1000000 in
/-- The document's Same, at two slices that read as the same texts. -/
theorem same_any (A A' : Option Addr) (c c' B B' : Nat) (us : List Value) (n : Nat) (hn : us.length = n) (hstr : ∀ u ∈ us, ∃ s, u = .string s) (w : World) (h1 : VRow w B (.slice A n c) us) (h2 : VRow w B' (.slice A' n c') us) :
    Calls Try.prog 27 #[.slice A n c, .slice A' n c'] w fun e W' => e = .returned (.bool true) ∧ Below w.heap.size w W' := by
  have hb1 := h1.length
  have hb2 := h2.length
  obtain ⟨e1, e2, e3⟩ := hb1
  obtain ⟨_, e4, e5⟩ := hb2
  clear e1
  have HN := Lib.hid hn
  rw [hn] at e2 e4
  clear hn
  have H1 := Lib.hid h1; clear h1
  have H2 := Lib.hid h2; clear h2
  have HS := Lib.hid hstr; clear hstr
  go_enter Try.func27, Try.ntmps27
  go_wp2_with fail
  go_loopg [5] n (fun g i wr => ∃ k : Nat, k + g = n ∧ i = .int .i64 k ∧ Below w.heap.size w wr ∧ (∀ p, wr.cell? p = w.cell? p))
  case atStart => exact ⟨0, by omega, rfl, Below.refl _ _, fun _ => rfl⟩
  case round =>
    obtain ⟨k, hk, rfl, hbw, hce⟩ := hrel
    have HCE := Lib.hid hce; clear hce
    by_cases hlt : k < n
    · obtain ⟨u, hu⟩ : ∃ u, us[k]? = some u := ⟨_, List.getElem?_eq_getElem (by rw [HN.out]; exact hlt)⟩
      obtain ⟨s, rfl⟩ := HS.out u (List.mem_of_getElem? hu)
      obtain ⟨X, d, hv, _, _, _, hcl⟩ := H1.out
      injection hv with q1 q2 q3
      subst q1
      obtain ⟨b, o, rfl, _, hc⟩ := hcl (by rw [HN.out]; omega)
      have hc1 := (HCE.out _).trans (hc k _ hu)
      clear hcl hc q2 q3
      obtain ⟨X, d', hv, _, _, _, hcl⟩ := H2.out
      injection hv with q1 q2 q3
      subst q1
      obtain ⟨b', o', rfl, _, hc⟩ := hcl (by rw [HN.out]; omega)
      have hc2 := (HCE.out _).trans (hc k _ hu)
      clear hcl hc q2 q3 hu
      have i1 : (k : Int) < (n : Int) := by omega
      go_wp2_with fail
      go_quiet (fail)
      go_wp2_with fail
      go_roundg (gk - 1)
      case measure => omega
      case rel => exact ⟨k + 1, by omega, by go_num, below_drewN hbw _, fun p => (HCE.out p)⟩
    · go_wp2_with fail
      go_ret
      exact ⟨rfl, hbw⟩
#print axioms same_any
end Go.Proofs.Ytodojabhjdejpaa
