/-
  The calls of dict on a dictionary: New, Find, Text, All, Put.
-/
import Derived.Test.YtlmedebhkkiagaaDictAt
import Derived.WalkKit
import Derived.LoopTactic
import Derived.Lib.Strings
import Derived.Deep.LoopGhost
namespace Go.Proofs.Ytlmedebhkkiagaa
open Go.RowKit Go.ChangeShapes Go.WideShapes

theorem Try.infoTxt : (Try.prog.info? 9).map (fun i => (i.zero, i.size, i.bytes)) = some (some (.string ⟨#[]⟩), 1, 16) := by kernel_rfl

set_option maxRecDepth 100000 in
theorem dnew_any (w : World) : Calls Try.prog 16 #[] w fun e w' => ∃ D r v, e = .returned (.pointer (some ⟨D, 0, none⟩)) ∧ DictAt w' w.heap.size D r v [] ∧ v.ownBlock = none ∧ Below w.heap.size w w' := by
  have hmm := @run_makeMap Try.prog
  obtain ⟨r, hr⟩ : ∃ r, w.heap.size = r := ⟨_, rfl⟩
  have hm0 : MapK strV (w.alloc (.map #[] 0)) r ([] : List (List Int)) := by rw [← hr]; exact MapK.new strV w
  have hb0 : Below r w (w.alloc (.map #[] 0)) := (Below.refl _ _).alloc (by omega) _
  have s0 : (w.alloc (.map #[] 0)).heap.size = r + 1 := by rw [World.size_alloc, hr]
  rw [hr]
  go_enter Try.func16, Try.ntmps16
  go_wp2_with fail
  go_ret
  have hb1 := (Below.refl (r + 1) (w.alloc (.map #[] 0))).alloc (by omega) (.cells #[.slice none 0 0, .map (some r)] 81)
  refine ⟨_, r, .slice none 0 0, rfl, ⟨?_, own_nil _ _ _, hm0.below hb1 (by omega), ?_, Nat.le_refl _, fun t h => by simp at h⟩, rfl, ?_⟩
  · rw [← s0]
    exact heap_alloc_new _ _
  · omega
  · exact hb0.trans (hb1.mono (by omega))
#print axioms dnew_any

section
variable {w : World} {base D r : Nat} {v : Value} {L : List (List Int)}
set_option maxRecDepth 100000 in
theorem dfind_any (h : DictAt w base D r v L) (s : List Int) (hs : TxB s) :
    Calls Try.prog 21 #[.pointer (some ⟨D, 0, none⟩), .string (strOfNums s)] w fun e w' => e = .returned (.tuple #[.int .i64 (if placeD L s < 0 then 0 else placeD L s), .bool (decide (0 ≤ placeD L s))]) ∧ w = w' := by
  have x1 := h.held.cell 1
  simp at x1
  have hlk := h.map.look text_way h.tx.b hs (t := 79) Try.underlying79 (zero_int13 w)
  unfold strV at hlk
  obtain ⟨n, hn⟩ : ∃ n, (if placeD L s < 0 then 0 else placeD L s) = n := ⟨_, rfl⟩
  obtain ⟨b, hb⟩ : ∃ b, decide (0 ≤ placeD L s) = b := ⟨_, rfl⟩
  rw [hn, hb] at hlk ⊢
  clear h hn hb
  go_enter Try.func21, Try.ntmps21
  go_wp2_with fail
  exact bodyPost_ret (v := .tuple #[.int .i64 n, .bool b]) (by simp [results, Try.results21, go_sem]) rfl ⟨rfl, rfl⟩
#print axioms dfind_any

set_option maxRecDepth 100000 in
theorem dtext_in (h : DictAt w base D r v L) (k : Nat) (t : List Int) (ht : L[k]? = some t) :
    Calls Try.prog 23 #[.pointer (some ⟨D, 0, none⟩), .int .i64 k] w fun e w' => e = .returned (.tuple #[.string (strOfNums t), .bool true]) ∧ w = w' := by
  have hlt := (List.getElem?_eq_some_iff.1 ht).1
  have x0 := h.held.cell 0
  simp at x0
  obtain ⟨A, c, rfl, hc1, hc2⟩ := h.form
  obtain ⟨b, o, rfl, _, hcl⟩ := (ERow.of_own h.own).block (by omega)
  have x1 := hcl k _ (strVs_at L ht)
  obtain ⟨n, hn⟩ : ∃ n, L.length = n := ⟨_, rfl⟩
  rw [hn] at hlt hc1 x0
  clear h ht hcl hn
  have hneg : ¬ (k : Int) < 0 := by omega
  have hge : ¬ (n : Int) ≤ (k : Int) := by omega
  go_enter Try.func23, Try.ntmps23
  go_wp2_with fail
  exact bodyPost_ret (v := .tuple #[.string (strOfNums t), .bool true]) (by simp [results, Try.results23, go_sem]) rfl ⟨rfl, rfl⟩
#print axioms dtext_in

set_option maxRecDepth 100000 in
theorem dtext_out (h : DictAt w base D r v L) (i : Int) (hi : i < 0 ∨ (L.length : Int) ≤ i) :
    Calls Try.prog 23 #[.pointer (some ⟨D, 0, none⟩), .int .i64 i] w fun e w' => e = .returned (.tuple #[.string ⟨#[]⟩, .bool false]) ∧ w = w' := by
  have x0 := h.held.cell 0
  simp at x0
  obtain ⟨A, c, rfl, hc1, hc2⟩ := h.form
  obtain ⟨n, hn⟩ : ∃ n, L.length = n := ⟨_, rfl⟩
  rw [hn] at hi hc1 x0
  clear h hn
  by_cases hneg : i < 0
  · go_enter Try.func23, Try.ntmps23
    go_wp2_with fail
    exact bodyPost_ret (v := .tuple #[.string ⟨#[]⟩, .bool false]) (by simp [results, Try.results23, go_sem]) rfl ⟨rfl, rfl⟩
  · have hge : (n : Int) ≤ i := by omega
    go_enter Try.func23, Try.ntmps23
    go_wp2_with fail
    exact bodyPost_ret (v := .tuple #[.string ⟨#[]⟩, .bool false]) (by simp [results, Try.results23, go_sem]) rfl ⟨rfl, rfl⟩
#print axioms dtext_out

set_option maxRecDepth 100000 in
theorem dall_any (h : DictAt w base D r v L) (hn : L.length ≤ 1000000000) :
    Calls Try.prog 19 #[.pointer (some ⟨D, 0, none⟩)] w fun e w' => ∃ A c, e = .returned (.slice A L.length c) ∧ w'.ownsRow w.heap.size 9 1 (.slice A L.length c) L.length (strVs L) ∧ Below w.heap.size w w' := by
  obtain ⟨i0, hi, hz0, hz1, hz2⟩ := info_parts Try.infoTxt
  have x0 := h.held.cell 0
  simp at x0
  have HER := Lib.hid (ERow.of_own h.own)
  have hl : (strVs L).length = L.length * 1 := by rw [strVs_length, Nat.mul_one]
  have HON := Lib.hid (strVs_one L)
  clear h
  obtain ⟨n, hn'⟩ : ∃ n, L.length = n := ⟨_, rfl⟩
  rw [hn'] at HER hl hn ⊢
  clear hn'
  go_enter Try.func19, Try.ntmps19
  go_wp2_with (at_builtin; refine wpList_append_erow _ rfl _ _ 46 9 rfl w.heap.size i0 (.string ⟨#[]⟩) 1 16 Try.underlying46 hi hz0 hz1 hz2 rfl (by decide) (.slice none 0 0) 0 [] rfl (own_nil _ _ _) w.heap.size v n (strVs L) (by rfl) HER.out hl HON.out (by simp only [maxLen]; omega) (by omega) (Nat.le_refl _) n (Nat.zero_add n) (strVs L) rfl ?_; intro A c w2 hown2 hg2 _)
  go_ret
  refine ⟨A, c, rfl, hown2, (Below.refl _ _).grown hg2 (Nat.le_refl _) (fun k hk => ?_)⟩
  simp [Value.ownBlock] at hk
#print axioms dall_any
end
end Go.Proofs.Ytlmedebhkkiagaa
