/-
  What block's check, Size, Put and Frame answer.
-/
import Derived.Test.YtlmpicfhbpnpbaaBlockWriteP
import Derived.Test.YtlmpicfhbpnpbaaBlockWriteS
import Derived.Test.YtlmpicfhbpnpbaaPlainBlock
import Derived.Test.YtlmpicfhbpnpbaaTraceCode
import Derived.Test.YtlmpicfhbpnpbaaAppRow
import Derived.Lib.SmallJoins
import Derived.Deep.RegionHeld3
import Derived.Deep.RegionLaw
namespace Go.Proofs.Ytlmpicfhbpnpbaa
open Go.RowKit Go.ChangeShapes Go.WideShapes
set_option linter.unusedVariables false

section
variable (A : Option Addr) (c : Nat) (ds : List Pd) (T : Option Addr) (ct : Nat) (ps : List Pm) (w : World)
set_option maxRecDepth 100000 in
set_option maxHeartbeats 1000000 in
theorem bcheck_any (hrow : PredRow w w.heap.size (.slice A ds.length c) ds) (ht : TrRow w w.heap.size (.slice T ps.length ct) ps) :
    Calls Try.prog 37 #[.slice A ds.length c, .slice T ps.length ct] w fun e w' => e = .returned (.int .i64 (checkB (ds.map (·.p)) ps)) ∧ Below w.heap.size w w' := by
  obtain ⟨-, hc1, hc2⟩ := ht.1.len
  have HCK := Lib.hid (tcheck_any A c ds T ct ps w hrow ht)
  clear hrow ht
  unfold checkB
  by_cases h0 : ps.length = 0
  · rw [if_pos h0]
    rw [h0] at HCK hc1 ⊢
    clear h0
    go_enter Try.func37, Try.ntmps37
    go_wp2_with fail
    go_ret
    exact ⟨rfl, Below.refl _ _⟩
  · rw [if_neg h0]
    have hn0 : ¬ (ps.length : Int) = 0 := by omega
    have hne0 : ((ps.length : Int) == 0) = false := beq_eq_false_iff_ne.2 hn0
    generalize checkT (ds.map (·.p)) (ps.map (·.p)) = C at HCK ⊢
    obtain ⟨n, hn⟩ : ∃ n, ps.length = n := ⟨_, rfl⟩
    rw [hn] at HCK hc1 h0 hn0 hne0 ⊢
    clear hn
    by_cases h1 : C.1 = 0
    · rw [if_neg (fun h => h h1)]
      rw [h1] at HCK
      by_cases h2 : 1024 < n
      · rw [if_pos h2]
        have h2' : (1024 : Int) < (n : Int) := by omega
        go_enter Try.func37, Try.ntmps37
        go_wp2_with fail
        refine HCK.out.mono ?_
        rintro e w1 ⟨rfl, hb1⟩
        go_wp2_with fail
        go_ret
        exact ⟨rfl, hb1⟩
      · rw [if_neg h2]
        have h2' : ¬ (1024 : Int) < (n : Int) := by omega
        have h2'' : (n : Int) ≤ 1024 := by omega
        go_enter Try.func37, Try.ntmps37
        go_wp2_with fail
        refine HCK.out.mono ?_
        rintro e w1 ⟨rfl, hb1⟩
        go_wp2_with fail
        go_ret
        exact ⟨rfl, hb1⟩
    · rw [if_pos h1]
      have hne : (C.1 != 0) = true := bne_iff_ne.2 h1
      go_enter Try.func37, Try.ntmps37
      go_wp2_with fail
      refine HCK.out.mono ?_
      rintro e w1 ⟨rfl, hb1⟩
      go_wp2_with fail
      go_ret
      exact ⟨rfl, hb1⟩
#print axioms bcheck_any

set_option maxRecDepth 100000 in
set_option maxHeartbeats 1000000 in
theorem bsize_any (hrow : PredRow w w.heap.size (.slice A ds.length c) ds) (ht : TrRow w w.heap.size (.slice T ps.length ct) ps) :
    Calls Try.prog 20 #[.slice A ds.length c, .slice T ps.length ct] w fun e w' => e = .returned (.tuple #[.int .i64 ((wholeB (ds.map (·.p)) ps).1.length : Nat), .int .i64 (wholeB (ds.map (·.p)) ps).2]) ∧ Below w.heap.size w w' := by
  have HCK := Lib.hid (bcheck_any A c ds T ct ps w hrow ht)
  unfold wholeB
  by_cases h0 : checkB (ds.map (·.p)) ps = 0
  · rw [if_pos h0]
    have hbo := ht.bok h0
    have hpl := payB_len hbo
    have hp0 := (checkB_zero h0).1
    rw [h0] at HCK
    obtain ⟨B, hB⟩ : ∃ B, w.heap.size = B := ⟨_, rfl⟩
    rw [hB] at HCK ht ⊢
    have HT := Lib.hid ht
    have HBO := Lib.hid hbo
    clear hrow ht hbo h0
    go_enter Try.func20, Try.ntmps20
    go_wp2_with fail
    refine HCK.out.mono ?_
    rintro e w1 ⟨rfl, hb1⟩
    have z1 := hb1.size
    rw [hB] at z1
    obtain ⟨N, hN⟩ : ∃ N, w1.heap.size = N := ⟨_, rfl⟩
    obtain ⟨w2, hw2⟩ : ∃ w2, w1.alloc (.cells #[.int .i64 0] 3) = w2 := ⟨_, rfl⟩
    have b2 : Below w1.heap.size w1 w2 := by rw [← hw2]; exact (Below.refl _ _).alloc (Nat.le_refl _) _
    have s2 : w2.heap.size = N + 1 := by rw [← hw2, World.size_alloc, hN]
    have h2 : Held w2 N 3 #[.int .i64 0] := by rw [← hw2, ← hN]; exact heap_alloc_new w1 _
    obtain ⟨w3, q0, q1, h3, b3, s3⟩ := lay_writer w2 (N + 1) (.func (.func 38) #[] #[.pointer (some ⟨N, 0, none⟩)]) (.func (.func 40) #[] #[.pointer (some ⟨N, 0, none⟩)]) rfl rfl s2
    have hs3 : SnkS w3 B N (.slice none 0 0) [] := ⟨by simpa using h2.below b3 (Nat.lt_succ_self N), by omega, own_nil _ _ _⟩
    have hB3 : Below B w w3 := (hb1.trans (b2.mono (by omega))).trans (b3.mono (by omega))
    have HP := pointsS hs3 T ct ps (HT.out.below hB3) HBO.out hp0 (by simp; omega) (by omega)
    rw [List.nil_append] at HP
    have HP := Lib.hid HP
    have HB3 := Lib.hid hB3
    have HS3 := Lib.hid hs3
    have x0 := h3.cell 0
    have x1 := h3.cell 1
    simp at x0 x1
    clear h2 h3 b2 b3 hs3 hB3 hb1 HT HBO
    subst hw2
    go_wp2_with fail
    refine HP.out.mono ?_
    rintro e w4 ⟨rfl, hk4⟩
    have hB4 := HB3.out.trans (hk4.low HS3.out (by omega))
    obtain ⟨v4, hs4, _, _⟩ := hk4
    have y0 := hs4.held.cell 0
    simp at y0
    clear x0 x1 q0 q1
    go_wp2_with fail
    go_ret2
    exact ⟨rfl, hB4⟩
  · rw [if_neg h0]
    have hne : (checkB (ds.map (·.p)) ps != 0) = true := bne_iff_ne.2 h0
    generalize checkB (ds.map (·.p)) ps = C at HCK hne ⊢
    clear hrow ht h0
    go_enter Try.func20, Try.ntmps20
    go_wp2_with fail
    refine HCK.out.mono ?_
    rintro e w1 ⟨rfl, hb1⟩
    go_wp2_with fail
    go_ret2
    exact ⟨rfl, hb1⟩
#print axioms bsize_any

/-- What Put and Frame answer, and where. -/
def BGot (w : World) (r : List Int × Int) (e : Ending) (W' : World) : Prop :=
  ∃ A c, e = .returned (.tuple #[.slice A r.1.length c, .int .i64 r.2]) ∧ W'.ownsRow w.heap.size 5 1 (.slice A r.1.length c) r.1.length (r.1.map (.int .u8)) ∧ Below w.heap.size w W'

set_option maxRecDepth 100000 in
set_option maxHeartbeats 1000000 in
theorem blput_any (hrow : PredRow w w.heap.size (.slice A ds.length c) ds) (ht : TrRow w w.heap.size (.slice T ps.length ct) ps) :
    Calls Try.prog 16 #[.slice A ds.length c, .slice T ps.length ct] w (BGot w (putB (ds.map (·.p)) ps)) := by
  have HSZ := bsize_any A c ds T ct ps w hrow ht
  unfold wholeB at HSZ
  unfold putB
  by_cases h0 : checkB (ds.map (·.p)) ps = 0
  · rw [if_pos h0] at HSZ ⊢
    have hbo := ht.bok h0
    have hpl := payB_len hbo
    have hp0 := (checkB_zero h0).1
    have HSZ := Lib.hid HSZ
    by_cases h1 : 4096 < (payB ps).length
    · rw [if_pos h1]
      have h1' : (4096 : Int) < ((payB ps).length : Nat) := by omega
      generalize payB ps = P at HSZ h1 h1' hpl
      clear hrow ht hbo h0
      go_enter Try.func16, Try.ntmps16
      go_wp2_with fail
      refine HSZ.out.mono ?_
      rintro e w1 ⟨rfl, hb1⟩
      go_wp2_with fail
      go_ret2
      exact ⟨none, 0, rfl, World.ownsRow_nil _ _ _ _, hb1⟩
    · rw [if_neg h1]
      have h1' : ¬ (4096 : Int) < ((payB ps).length : Nat) := by omega
      obtain ⟨i0, hi, hz0, hz1, hz2⟩ := info_parts Try.infoU8
      obtain ⟨B, hB⟩ : ∃ B, w.heap.size = B := ⟨_, rfl⟩
      unfold BGot
      rw [hB] at HSZ ht ⊢
      have HT := Lib.hid ht
      have HBO := Lib.hid hbo
      obtain ⟨n, hn⟩ : ∃ n, (payB ps).length = n := ⟨_, rfl⟩
      rw [hn] at HSZ h1 h1' hpl
      have HN := Lib.hid hn
      have HPT := Lib.hid (fun (w3 : World) (g : Nat) (v : Value) (hs3 : SnkP w3 B g v []) (hB3 : Below B w w3) (hbs : B ≤ w3.heap.size) => pointsP hs3 T ct ps (HT.out.below hB3) HBO.out hp0 (by rw [HN.out]; simp; omega) hbs)
      clear hrow ht hbo h0 hn
      go_enter Try.func16, Try.ntmps16
      go_wp2_with fail
      refine HSZ.out.mono ?_
      rintro e w1 ⟨rfl, hb1⟩
      have z1 := hb1.size
      rw [hB] at z1
      obtain ⟨M, hM⟩ : ∃ M, w1.heap.size = M := ⟨_, rfl⟩
      go_wp2_with (at_make; refine wpList_make_own _ rfl _ _ 46 rfl B 5 i0 (.int .u8 0) 1 Try.underlying46 hi hz0 hz1 .i64 .i64 _ n rfl rfl (by simp) (by rw [hz2]; omega) (by simp only [maxLen]; omega) (by omega) ?_; intro w2 hown2 hg2; obtain ⟨N, hN⟩ : ∃ N, w2.heap.size = N := ⟨_, rfl⟩; obtain ⟨w3, hw3⟩ : ∃ w3, w2.alloc (.cells #[.slice (some ⟨M, 0, none⟩) 0 n] 46) = w3 := ⟨_, rfl⟩; have s3 : w3.heap.size = N + 1 := (by rw [← hw3, World.size_alloc, hN]); obtain ⟨w4, q0, q1, h4, b4, s4⟩ := lay_writer w3 (N + 1) (.func (.func 30) #[] #[.pointer (some ⟨N, 0, none⟩)]) (.func (.func 32) #[] #[.pointer (some ⟨N, 0, none⟩)]) rfl rfl s3; have x0 := h4.cell 0; have x1 := h4.cell 1; simp at x0 x1)
      have z2 := hg2.size
      have b3 : Below w2.heap.size w2 w3 := by rw [← hw3]; exact (Below.refl _ _).alloc (Nat.le_refl _) _
      have h3 : Held w3 N 46 #[.slice (some ⟨M, 0, none⟩) 0 n] := by rw [← hw3, ← hN]; exact heap_alloc_new w2 _
      rw [hM] at hown2
      have b2 : Below B w w2 := hb1.grown hg2 (by omega) (fun j e => by cases e)
      have hB4 : Below B w w4 := (b2.trans (b3.mono (by omega))).trans (b4.mono (by omega))
      have hs4 : SnkP w4 B N (.slice (some ⟨M, 0, none⟩) 0 n) [] := ⟨h3.below b4 (Nat.lt_succ_self N), by omega, by
        have := own_below (own_below hown2 b3) (by rw [s3]; exact b4)
        simpa using this⟩
      have HP := HPT.out w4 N _ hs4 hB4 (by omega)
      rw [List.nil_append] at HP
      have HP := Lib.hid HP
      have HB4 := Lib.hid hB4
      have HS4 := Lib.hid hs4
      clear h3 h4 b2 b3 b4 hs4 hB4 hb1 HT HBO HPT hown2 hg2 q0 q1 hw3
      refine HP.out.mono ?_
      rintro e w5 ⟨rfl, hk5⟩
      have hB5 := HB4.out.trans (hk5.low HS4.out (by omega))
      obtain ⟨v5, hs5, _, _⟩ := hk5
      have y0 := hs5.held.cell 0
      simp at y0
      obtain ⟨A5, c5, rfl⟩ := own_form hs5.own
      have HO5 := Lib.hid hs5.own
      clear hs5 x0 x1
      go_wp2_with fail
      go_ret2
      exact ⟨A5, c5, rfl, HO5.out, hB5⟩
  · rw [if_neg h0] at HSZ ⊢
    have hne : (checkB (ds.map (·.p)) ps != 0) = true := bne_iff_ne.2 h0
    generalize checkB (ds.map (·.p)) ps = C at HSZ hne ⊢
    have HSZ := Lib.hid HSZ
    clear hrow ht h0
    go_enter Try.func16, Try.ntmps16
    go_wp2_with fail
    refine HSZ.out.mono ?_
    rintro e w1 ⟨rfl, hb1⟩
    go_wp2_with fail
    go_ret2
    exact ⟨none, 0, rfl, World.ownsRow_nil _ _ _ _, hb1⟩
#print axioms blput_any
end
end Go.Proofs.Ytlmpicfhbpnpbaa
