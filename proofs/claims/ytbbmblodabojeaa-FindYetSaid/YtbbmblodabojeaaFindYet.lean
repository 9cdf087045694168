/-
  At every two slices of bytes the law on what begins with more bytes behind answers true, and nothing that lay in memory has changed. No condition.
-/
import Derived.Test.YtbbmblodabojeaaRows
import Derived.WalkKit
import Derived.ProofKit
import Derived.OpenShut
import Derived.ShutString
import Derived.ChangeOld
import Derived.Below
import Derived.Deep.LoopGhost
import Derived.Test.YtbbmblodabojeaaFindFixed
import Derived.Test.YtbbmblodabojeaaFindRef
import Derived.Test.YtbbmblodabojeaaArg
namespace Go.Proofs.Ytbbmblodabojeaa.findYet
open Go.Proofs.Ytbbmblodabojeaa
open Go.ChangeShapes Go.WideShapes Go.ChangeAt Go.RowKit
open Go.ChangeMaps (open_string shut_string)
set_option linter.unusedVariables false

theorem own : ownKnob Try.prog.godebug = none := by kernel_rfl
theorem laidOut : laidOutB Try.prog = true := by kernel_rfl

set_option maxRecDepth 100000 in
set_option maxHeartbeats 1000000 in
theorem walk (a0 : Option Addr) (len0 cap0 : Nat) (z0 : List Int) (a1 : Option Addr) (len1 cap1 : Nat) (z1 : List Int) (w : World) (w0 : IsRow .u8 w a0 len0 cap0 z0) (w1 : IsRow .u8 w a1 len1 cap1 z1) :
    Calls Try.prog 8 #[.slice a0 len0 cap0, .slice a1 len1 cap1] w fun e w' => e = .returned (.bool true) ∧ Below w.heap.size w w' := by
  obtain ⟨xs, rfl, hrow, hbx⟩ := Row.of_arg w0
  obtain ⟨ys, rfl, hrow2, hby⟩ := Row.of_arg w1
  clear w0 w1
  by_cases hgt : 400 < xs.length
  · have hgi : (400 : Int) < (xs.length : Int) := by omega
    go_enter Try.func8, Try.ntmps8
    go_wp2_with fail
    refine (nfix_any _).mono ?_
    rintro e w3 ⟨rfl, hb3⟩
    go_wp2_with fail
    go_ret
    exact ⟨rfl, hb3⟩
  by_cases hgt2 : 200 < ys.length
  · have hgi : (200 : Int) < (ys.length : Int) := by omega
    have hle : (xs.length : Int) ≤ 400 := by omega
    go_enter Try.func8, Try.ntmps8
    go_wp2_with fail
    refine (nfix_any _).mono ?_
    rintro e w3 ⟨rfl, hb3⟩
    go_wp2_with fail
    go_ret
    exact ⟨rfl, hb3⟩
  have hle : xs.length ≤ 400 := by omega
  have hle2 : ys.length ≤ 200 := by omega
  obtain ⟨i0, hi, hz0, hz1, hz2⟩ := info_parts Try.infoU8
  have HBX := Lib.hid hbx; clear hbx
  have HBY := Lib.hid hby; clear hby
  have hbb : ∀ x ∈ xs ++ ys, 0 ≤ x ∧ x < 256 := fun x hx => by
    rcases List.mem_append.1 hx with h | h
    · exact HBX.out x h
    · exact HBY.out x h
  have HBB := Lib.hid hbb; clear hbb
  have hla : (xs ++ ys).length = xs.length + ys.length := List.length_append
  have HLA := Lib.hid hla; clear hla
  obtain ⟨L, hL⟩ : ∃ L, (xs ++ ys).length = L := ⟨_, rfl⟩
  have hsum : xs.length + ys.length = L := by rw [← hL]; exact List.length_append.symm
  have hall := fun A c W h k hk => at_in A c (xs ++ ys) (by have := HLA.out; omega) W h HBB.out k hk
  rw [hL] at hall
  have HALL := Lib.hid hall
  have HSUM := Lib.hid hsum
  clear hall hsum hL
  have HLONG := Lib.hid (fun k (hk : k ≤ xs.length) h => drop_longer (b := xs) (at_ := k) ys hk HBX.out h)
  have HAT := Lib.hid (fun W h k hk => at_in a0 cap0 xs (by omega) W h HBX.out k hk)
  have HROW := Lib.hid hrow; clear hrow
  have HROW2 := Lib.hid hrow2; clear hrow2
  go_enter Try.func8, Try.ntmps8
  go_wp2_with (first
    | (at_builtin; refine wpList_append_row _ rfl _ _ 22 rfl w.heap.size 5 i0 (.int .u8 0) Try.underlying22 hi hz0 hz1 hz2 rfl (.slice (some ⟨w.heap.size, 0, none⟩) 0 0) 0 [] (by rfl) (own_none _ _ _ (Nat.le_refl _)) w.heap.size _ xs rfl (HROW.out.below ((Below.refl _ _).alloc (Nat.le_refl _) _)) (by omega) (by simp) ?_; intro v2 w2 hown2 hg2 hn2; have hne2 : v2 ≠ .slice none 0 0 := (fun h => by have := (hn2.1 h).1; simp at this); rw [Nat.zero_add, List.nil_append] at hown2; obtain ⟨g2, cap2, hv2⟩ := ownsRow_some hown2 hne2; subst hv2; have hb2 := ((Below.refl w.heap.size w).alloc (Nat.le_refl _) _).grown hg2 (by simp) (fun k hk => by simp [Value.ownBlock] at hk; omega); have HOWN2 := Lib.hid hown2; have HB2 := Lib.hid hb2; clear hown2 hg2 hn2 hne2 hb2)
    | (at_builtin; refine wpList_append_row _ rfl _ _ 22 rfl w.heap.size 5 i0 (.int .u8 0) Try.underlying22 hi hz0 hz1 hz2 rfl _ xs.length _ (by rfl) HOWN2.out w.heap.size _ ys rfl (HROW2.out.below HB2.out) (by omega) HB2.out.size ?_; intro v3 w3 hown3 hg3 hn3; have hne3 : v3 ≠ .slice none 0 0 := (fun h => by have := (hn3.1 h).1; simp at this); obtain ⟨g3, cap3, hv3⟩ := ownsRow_some hown3 hne3; subst hv3; have hb3 := HB2.out.grown hg3 HB2.out.size (fun k hk => by have := HOWN2.out.lt k hk; omega); have HB3 := Lib.hid hb3; have hr3 := Row.of_own (xs := xs ++ ys) (by rw [List.map_append]; exact hown3); have HR3 := Lib.hid hr3; clear hown3 hg3 hn3 hne3 hb3 hr3))
  rw [HSUM.out] at HR3 ⊢
  go_loopg [29] xs.length (fun g i wr => ∃ k : Nat, i = .int .i64 k ∧ k ≤ xs.length ∧ Hid (xs.length - k = g) ∧ Below w3.heap.size w3 wr)
  case atStart => exact ⟨0, rfl, Nat.zero_le _, Lib.hid rfl, Below.refl _ _⟩
  case round =>
    obtain ⟨k, rfl, hk, HG, hbw⟩ := hrel
    have HBW := Lib.hid hbw
    clear hbw
    by_cases hlt : k < xs.length
    · have h1 := HAT.out wr ((HROW.out.below (HB3.out.trans (HBW.out.mono HB3.out.size))).more (Nat.le_trans HB3.out.size HBW.out.size)) k (by omega)
      have h2 := fun W (h : Below w3.heap.size w3 W) => HALL.out _ _ W ((HR3.out.below h).more h.size) k (by have := HSUM.out; omega)
      have hlong := HLONG.out k (by omega)
      generalize getFr (xs.drop k) = t1 at h1 hlong
      generalize getFr ((xs ++ ys).drop k) = t2 at h2 hlong
      have H1 := Lib.hid h1
      have H2 := Lib.hid h2
      have HLG := Lib.hid hlong
      clear h1 h2 hlong
      go_wp2_with fail
      refine H1.out.mono ?_
      rintro e w4 ⟨A4, c4, rfl, _, hb4⟩
      have HB4 := Lib.hid ((HBW.out.trans (hb4.mono HBW.out.size)).alloc (Nat.le_trans HBW.out.size hb4.size) (.cells #[.int .i64 t1.1.1, .slice A4 t1.1.2.length c4] 36))
      clear hb4
      go_wp2_with fail
      refine (H2.out _ HB4.out).mono ?_
      rintro e w5 ⟨A5, c5, rfl, _, hb5⟩
      have HB5 := Lib.hid ((HB4.out.trans (hb5.mono HB4.out.size)).alloc (Nat.le_trans HB4.out.size hb5.size) (.cells #[.int .i64 t2.1.1, .slice A5 t2.1.2.length c5] 36))
      clear hb5
      by_cases he2 : t1.2.2 = 2
      · rw [he2]
        clear he2
        generalize t2.2.2 = er2
        go_wp2_with fail
        go_roundg (xs.length - (k + 1))
        case measure => have := HG.out; omega
        case rel => exact ⟨k + 1, by go_num, by omega, Lib.hid rfl, HB5.out⟩
      · have heq := HLG.out he2
        subst heq
        by_cases he0 : t2.2.2 = 0
        · rw [he0]
          clear he2 he0
          go_wp2_with fail
          go_roundg (xs.length - (k + 1))
          case measure => have := HG.out; omega
          case rel => exact ⟨k + 1, by go_num, by omega, Lib.hid rfl, HB5.out⟩
        · clear HLG
          generalize t2.2.2 = er at he2 he0
          have q1 : (er == 0) = false := beq_eq_false_iff_ne.2 he0
          have q2 : (er != 0) = true := bne_iff_ne.2 he0
          have q3 : (er != 2) = true := bne_iff_ne.2 he2
          clear he2 he0
          go_wp2_with fail
          go_roundg (xs.length - (k + 1))
          case measure => have := HG.out; omega
          case rel => exact ⟨k + 1, by go_num, by omega, Lib.hid rfl, HB5.out⟩
    · obtain rfl : k = xs.length := by omega
      have HB4 := Lib.hid (HB3.out.trans (HBW.out.mono HB3.out.size))
      go_wp2_with fail
      refine (nfix_any _).mono ?_
      rintro e w6 ⟨rfl, hb6⟩
      have HB6 := Lib.hid (HB4.out.trans (hb6.mono HB4.out.size))
      clear hb6
      go_wp2_with fail
      go_ret
      exact ⟨rfl, HB6.out⟩

set_option maxRecDepth 100000 in
theorem lifted (os : Os) (started : os.Started) (H : Type) (enc : TypeId × Value → H) :
    ReturnsInHanded {} Try.checked os 8 .any (Rows.findYetSpec.pre6 enc Try.prog Try.f8 Rows.findYetRow.domain false) (Rows.findYetSpec.post enc Try.prog Try.f8 false true false false) := by
  refine returnsInHanded_of_change (C := Try.checked) own started (by kernel_rfl) Try.func8
    (ChangeSpec.witness6 (enc := enc) (C := Try.checked) false ⟨#[], #[.slice none 0 0, .slice none 0 0], []⟩ 8 (by kernel_rfl) (by kernel_rfl) (by kernel_rfl) (by kernel_rfl)) ?_
  intro W base args ds gs before hval0 hW hcnd _
  have hval : ∀ (j : Nat) t v, Try.f8.params[j]? = some t → args[j]? = some v → Value.okWide Try.prog W .any base t v := hval0
  have hW' := hW
  obtain ⟨p, q, hA0, hV, rfl, hfz, hnd⟩ := hW
  have hA : DataW.TrodAll enc Try.prog W 0 (fun _ => true) true Try.f8.params.toList args.toList ds p := hA0
  rw [Try.params8] at hA hval
  obtain ⟨v0, vs0, d0, ds0, p0, q0, hargs, rfl, rfl, h0, r0⟩ := trodAll_cons hA
  obtain ⟨v1, vs1, d1, ds1, p1, q1, rfl, rfl, rfl, h1, r1⟩ := trodAll_cons r0
  obtain ⟨rfl, rfl, rfl⟩ := trodAll_nil r1
  obtain rfl : args = #[v0, v1] := by cases args; simp_all
  obtain ⟨rfl, rfl⟩ := trodVars_none hV
  obtain ⟨a0, len0, cap0, rfl⟩ := okWide_slice Try.underlying22 (hval 0 22 v0 rfl rfl)
  have k0 := h0
  have lt0 : ∀ x ∈ p0, x.block < W.heap.size := by obtain ⟨m, hm⟩ := k0; exact DataW.trod_lt m _ _ _ hm
  obtain ⟨z0, w0⟩ : ∃ zs, IsRow .u8 W a0 len0 cap0 zs := by
    obtain ⟨fuel, hf⟩ := h0
    rcases open_ints Try.underlying22 Try.underlying5 (by kernel_rfl) hf with ⟨hcs, _⟩ | ⟨x, l, c, zs, hcs, _, hl, hm, hz, _, hcell, hwz⟩
    · simp [Value.cells] at hcs
      obtain ⟨rfl, rfl, rfl⟩ := hcs
      exact ⟨[], .inl ⟨rfl, rfl, rfl, rfl⟩⟩
    · simp [Value.cells] at hcs
      obtain ⟨rfl, rfl, rfl⟩ := hcs
      exact ⟨zs, .inr ⟨_, rfl, hl, hm, by simpa using hz, hcell, hwz⟩⟩
  obtain ⟨a1, len1, cap1, rfl⟩ := okWide_slice Try.underlying22 (hval 1 22 v1 rfl rfl)
  have k1 := h1
  have lt1 : ∀ x ∈ p1, x.block < W.heap.size := by obtain ⟨m, hm⟩ := k1; exact DataW.trod_lt m _ _ _ hm
  obtain ⟨z1, w1⟩ : ∃ zs, IsRow .u8 W a1 len1 cap1 zs := by
    obtain ⟨fuel, hf⟩ := h1
    rcases open_ints Try.underlying22 Try.underlying5 (by kernel_rfl) hf with ⟨hcs, _⟩ | ⟨x, l, c, zs, hcs, _, hl, hm, hz, _, hcell, hwz⟩
    · simp [Value.cells] at hcs
      obtain ⟨rfl, rfl, rfl⟩ := hcs
      exact ⟨[], .inl ⟨rfl, rfl, rfl, rfl⟩⟩
    · simp [Value.cells] at hcs
      obtain ⟨rfl, rfl, rfl⟩ := hcs
      exact ⟨zs, .inr ⟨_, rfl, hl, hm, by simpa using hz, hcell, hwz⟩⟩
  clear hA0 hval0
  refine (walk a0 len0 cap0 z0 a1 len1 cap1 z1 W w0 w1).mono fun e W' ⟨he, bel⟩ => ?_
  subst he
  exact ⟨_, rfl, _, _, _, [], _, [], hW', trodAll_mk1 (shut_bool Try.underlying4 _), (trodAll_cons_mk (Below.trod laidOut (by kernel_rfl) (of_decide_eq_true (by kernel_rfl)) k0 bel lt0) (trodAll_cons_mk (Below.trod laidOut (by kernel_rfl) (of_decide_eq_true (by kernel_rfl)) k1 bel lt1) trodAll_mk0)), rfl, bel.frame _, fun h => by cases h⟩

theorem over : Rows.findYetRow.holds Try.pinned (OpenSpec.ofChange Rows.findYetSpec) :=
  OpenClaim.holds_of_wide 8 Try.f8 rfl rfl rfl rfl rfl rfl rfl ⟨rfl, rfl, rfl, rfl, rfl⟩ rfl rfl rfl rfl rfl (by kernel_rfl) Try.func8 (by kernel_rfl)
    (of_decide_eq_true (by kernel_rfl)) (by unfold Func.isWrapper; first | (rw [if_pos (by decide +kernel)]; kernel_rfl) | (rw [if_neg (by decide +kernel)]; exact ⟨rfl, rfl⟩))
    (fun os started H enc _ => lifted os started H enc)

theorem proved : Rows.FindYetSaid := over
#print axioms proved
end Go.Proofs.Ytbbmblodabojeaa.findYet

