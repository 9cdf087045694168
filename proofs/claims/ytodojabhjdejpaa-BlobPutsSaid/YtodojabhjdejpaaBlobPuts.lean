/-
  At every slice of bytes, every text and every number the law on what is put answers true, and nothing that lay in memory has changed. No condition.
-/
import Derived.Test.YtodojabhjdejpaaRows
import Derived.WalkKit
import Derived.ProofKit
import Derived.OpenShut
import Derived.ShutString
import Derived.ChangeOld
import Derived.Below
import Derived.Test.YtodojabhjdejpaaBlobPut
import Derived.Test.YtodojabhjdejpaaBlobGet
import Derived.Test.YtodojabhjdejpaaArg
namespace Go.Proofs.Ytodojabhjdejpaa.blobPuts
open Go.Proofs.Ytodojabhjdejpaa
open Go.ChangeShapes Go.WideShapes Go.ChangeAt Go.RowKit
open Go.ChangeMaps (open_string shut_string)
set_option linter.unusedVariables false

theorem own : ownKnob Try.prog.godebug = none := by kernel_rfl
theorem laidOut : laidOutB Try.prog = true := by kernel_rfl

set_option maxRecDepth 100000 in
set_option maxHeartbeats 1000000 in
theorem walk (a0 : Option Addr) (len0 cap0 : Nat) (z0 : List Int) (a1 : ByteArray) (a2 : Int) (w : World) (w0 : IsRow .u8 w a0 len0 cap0 z0) (w1 : a1.size ≤ maxLen) (w2 : (Lit.int .i64 a2).wf = true) :
    Calls Try.prog 7 #[.slice a0 len0 cap0, .string a1, .int .i64 a2] w fun e w' => e = .returned (.bool true) ∧ Below w.heap.size w w' := by
  obtain ⟨b21, b22⟩ := bounds_i64 w2
  clear w2
  obtain ⟨s, rfl, hsl, hbs⟩ := text_of a1
  obtain ⟨xs, rfl, hrow, hbx⟩ := Row.of_arg w0
  clear w0
  unfold maxLen at w1
  rw [strOfNums_size] at w1
  clear hsl
  have hss : (strOfNums s).size = s.length := strOfNums_size s
  by_cases hgt : 600 < xs.length
  · have hgi : (600 : Int) < (xs.length : Int) := by omega
    go_enter Try.func7, Try.ntmps7
    go_wp2_with (go_at_call 20; refine (bfixed_any _).mono ?_; rintro e w3 ⟨rfl, hb3⟩)
    go_ret
    exact ⟨rfl, hb3⟩
  · by_cases hgs : 600 < s.length
    · have hgi : (600 : Int) < (s.length : Int) := by omega
      go_enter Try.func7, Try.ntmps7
      go_wp2_with (go_at_call 20; refine (bfixed_any _).mono ?_; rintro e w3 ⟨rfl, hb3⟩)
      go_ret
      exact ⟨rfl, hb3⟩
    · have hle : xs.length ≤ 600 := by omega
      have hles : s.length ≤ 600 := by omega
      have hn : s.length < 18446744073709551616 := by omega
      obtain ⟨l1, l2⟩ := encI_ten hn
      have hel := encT_length s
      obtain ⟨L, hL⟩ : ∃ L, (encT s).length = L := ⟨_, rfl⟩
      have hLb : 1 ≤ L ∧ L ≤ 700 := by omega
      clear hel
      obtain ⟨hL1, hL2⟩ := hLb
      have hby := encT_bytes hn hbs
      obtain ⟨M, hM, hMb⟩ : ∃ M : Nat, max a2 0 = M ∧ M ≤ 9223372036854775807 := ⟨(max a2 0).toNat, by omega, by omega⟩
      have hcv := hrow.convert (P := Try.prog) 22 5 9 Try.underlying22 Try.underlying5 Try.underlying9
      have HROW := Lib.hid hrow; clear hrow
      have hadd1 := fun W => add_strs (P := Try.prog) W (encT s) xs (by omega)
      have hadd2 := fun W => add_strs (P := Try.prog) W xs (encT s) (by omega)
      have hp := fun W => rbput s (by omega) W
      have HP := Lib.hid hp; clear hp
      have hyb : ∀ x ∈ encT s ++ xs, 0 ≤ x ∧ x < 256 := fun x hx => by
        rcases List.mem_append.1 hx with h | h
        · exact hby x h
        · exact hbx x h
      have hyl : (encT s ++ xs).length ≤ 1300 := by rw [List.length_append]; omega
      have hgg : getT a2 (encT s ++ xs) = if M < s.length then ([], 0, 6) else (s, L, 0) := by
        by_cases h : M < s.length
        · rw [if_pos h, getT_over hn (by omega)]
        · rw [if_neg h, getT_enc hn (by omega), hL]
      have hbp := bput_any a0 cap0 xs s hbs (by omega) (by omega) w HROW.out
      have HBP := Lib.hid hbp; clear hbp
      have HGG := Lib.hid hgg; clear hgg
      have HYB := Lib.hid hyb; clear hyb hby hbx hbs
      have hesz : (strOfNums (encT s)).size = L := by rw [strOfNums_size, hL]
      clear hL
      generalize encT s ++ xs = ys at hadd1 HGG HYB hyl
      generalize strOfNums (encT s) = es at hadd1 hadd2 HP hesz
      go_enter Try.func7, Try.ntmps7
      go_wp2_with fail
      clear hcv
      refine HBP.out.mono ?_
      rintro e w1 ⟨v1, rfl, hown1, hb1⟩
      have hr1 := Row.of_own hown1
      have HR1 := Lib.hid hr1; clear hr1 hown1
      generalize xs ++ encT s = zs at hadd2 HR1
      go_wp2_with fail
      refine (HP.out _).mono ?_
      rintro e w2 ⟨rfl, hb2⟩
      obtain ⟨A3, c3, w3, hcv3, hrow3, hb3⟩ := conv_bytes (P := Try.prog) w2 9 22 5 Try.underlying9 Try.underlying22 Try.underlying5 ys HYB.out (by omega)
      have hg := bget_any A3 c3 ys a2 b21 b22 w3 hrow3 HYB.out
      rw [HGG.out] at hg
      have HG := Lib.hid hg; clear hg hrow3
      go_wp2_with fail
      clear hcv3
      refine HG.out.mono ?_
      rintro e w4 ⟨rfl, hb4⟩
      have b2 : Below w.heap.size w w2 := hb1.trans (hb2.mono hb1.size)
      have b3 : Below w.heap.size w w3 := b2.trans (hb3.mono b2.size)
      have b4 : Below w.heap.size w w4 := b3.trans (hb4.mono b3.size)
      have c3' : Below w1.heap.size w1 w3 := hb2.trans (hb3.mono hb2.size)
      have c4 : Below w1.heap.size w1 w4 := c3'.trans (hb4.mono c3'.size)
      have hall : ∀ W, Below w.heap.size w W → Below w1.heap.size w1 W → (convert 22 9 v1).run Try.prog W = .ok (.string (strOfNums zs)) W ∧ (convert 22 9 (.slice a0 xs.length cap0)).run Try.prog W = .ok (.string (strOfNums xs)) W := fun W h1 h2 =>
        ⟨(HR1.out.below h2).convert (P := Try.prog) 22 5 9 Try.underlying22 Try.underlying5 Try.underlying9,
         (HROW.out.below h1).convert (P := Try.prog) 22 5 9 Try.underlying22 Try.underlying5 Try.underlying9⟩
      have HALL := Lib.hid hall; clear hall
      clear hb2 hb3 hb4 b2 b3 c3' HG HYB HGG
      have hnil : strOfNums [] = ⟨#[]⟩ := rfl
      by_cases hlim : M < s.length
      · simp only [if_pos hlim, hnil]
        clear hnil
        go_wp2_with fail
        go_region_held (fun W => Below w.heap.size w W ∧ Below w1.heap.size w1 W ∧ (convert 22 9 v1).run Try.prog W = .ok (.string (strOfNums zs)) W ∧ (convert 22 9 (.slice a0 xs.length cap0)).run Try.prog W = .ok (.string (strOfNums xs)) W)
          (first | exact ⟨b4, c4, HALL.out _ b4 c4⟩ | exact ⟨b4.drew, c4.drew, HALL.out _ b4.drew c4.drew⟩ | exact ⟨b5, c5, HALL.out _ b5 c5⟩)
          (first | (go_at_call 23; refine (HP.out _).mono ?_; rintro e w5 ⟨rfl, hb5⟩; have b5 : Below w.heap.size w w5 := b4.drew.trans (hb5.mono b4.size); have c5 : Below w1.heap.size w1 w5 := c4.drew.trans (hb5.mono c4.size)))
        go_wp2_with fail
        refine (bfixed_any _).mono ?_
        rintro e w6 ⟨rfl, hb6⟩
        go_wp2_with fail
        go_ret
        exact ⟨rfl, b5.trans (hb6.mono b5.size)⟩
      · simp only [if_neg hlim]
        clear hnil
        go_wp2_with fail
        go_region_held (fun W => Below w.heap.size w W ∧ Below w1.heap.size w1 W ∧ (convert 22 9 v1).run Try.prog W = .ok (.string (strOfNums zs)) W ∧ (convert 22 9 (.slice a0 xs.length cap0)).run Try.prog W = .ok (.string (strOfNums xs)) W)
          (first | exact ⟨b4, c4, HALL.out _ b4 c4⟩ | exact ⟨b4.drew, c4.drew, HALL.out _ b4.drew c4.drew⟩ | exact ⟨b5, c5, HALL.out _ b5 c5⟩)
          (first | (go_at_call 23; refine (HP.out _).mono ?_; rintro e w5 ⟨rfl, hb5⟩; have b5 : Below w.heap.size w w5 := b4.drew.trans (hb5.mono b4.size); have c5 : Below w1.heap.size w1 w5 := c4.drew.trans (hb5.mono c4.size)))
        go_wp2_with fail
        refine (bfixed_any _).mono ?_
        rintro e w6 ⟨rfl, hb6⟩
        go_wp2_with fail
        refine (HP.out _).mono ?_
        rintro e w7 ⟨rfl, hb7⟩
        go_wp2_with fail
        go_ret
        have b6 : Below w.heap.size w w6 := b5.trans (hb6.mono b5.size)
        exact ⟨rfl, b6.trans (hb7.mono b6.size)⟩

set_option maxRecDepth 100000 in
theorem lifted (os : Os) (started : os.Started) (H : Type) (enc : TypeId × Value → H) :
    ReturnsInHanded {} Try.checked os 7 .any (Rows.blobPutsSpec.pre6 enc Try.prog Try.f7 Rows.blobPutsRow.domain false) (Rows.blobPutsSpec.post enc Try.prog Try.f7 false true false false) := by
  refine returnsInHanded_of_change (C := Try.checked) own started (by kernel_rfl) Try.func7
    (ChangeSpec.witness6 (enc := enc) (C := Try.checked) false ⟨#[], #[.slice none 0 0, .string ByteArray.empty, .int .i64 0], []⟩ 8 (by kernel_rfl) (by kernel_rfl) (by kernel_rfl) (by kernel_rfl)) ?_
  intro W base args ds gs before hval0 hW hcnd _
  have hval : ∀ (j : Nat) t v, Try.f7.params[j]? = some t → args[j]? = some v → Value.okWide Try.prog W .any base t v := hval0
  have hW' := hW
  obtain ⟨p, q, hA0, hV, rfl, hfz, hnd⟩ := hW
  have hA : DataW.TrodAll enc Try.prog W 0 (fun _ => true) true Try.f7.params.toList args.toList ds p := hA0
  rw [Try.params7] at hA hval
  obtain ⟨v0, vs0, d0, ds0, p0, q0, hargs, rfl, rfl, h0, r0⟩ := trodAll_cons hA
  obtain ⟨v1, vs1, d1, ds1, p1, q1, rfl, rfl, rfl, h1, r1⟩ := trodAll_cons r0
  obtain ⟨v2, vs2, d2, ds2, p2, q2, rfl, rfl, rfl, h2, r2⟩ := trodAll_cons r1
  obtain ⟨rfl, rfl, rfl⟩ := trodAll_nil r2
  obtain rfl : args = #[v0, v1, v2] := by cases args; simp_all
  obtain ⟨rfl, rfl⟩ := trodVars_none hV
  obtain ⟨a0, len0, cap0, rfl⟩ := okWide_slice Try.underlying22 (hval 0 22 v0 rfl rfl)
  have k0 := h0
  have lt0 : ∀ x ∈ p0, x.block < W.heap.size := by obtain ⟨m, hm⟩ := k0; exact DataW.trod_lt m _ _ _ hm
  obtain ⟨z0, w0⟩ : ∃ zs, IsRow .u8 W a0 len0 cap0 zs := by
    obtain ⟨fuel, hf⟩ := h0
    rcases open_ints Try.underlying22 Try.underlying5 (by kernel_rfl) hf with ⟨hcs, _⟩ | ⟨x, l, c, zs, hcs, _, hl, hm, hz, _, hcell, hwz⟩
    · simp [Value.cells] at hcs
      obtain ⟨rfl, rfl, rfl⟩ := hcs
      exact ⟨[], .inl ⟨rfl, rfl, rfl, rfl⟩⟩
    · simp [Value.cells] at hcs
      obtain ⟨rfl, rfl, rfl⟩ := hcs
      exact ⟨zs, .inr ⟨_, rfl, hl, hm, by simpa using hz, hcell, hwz⟩⟩
  obtain ⟨a1, rfl, rfl, rfl, w1⟩ := open_string Try.underlying9 (hval 1 9 v1 rfl rfl) h1
  obtain ⟨a2, rfl, rfl, rfl, w2⟩ := open_int Try.underlying3 (hval 2 3 v2 rfl rfl) h2
  clear hA0 hval0
  refine (walk a0 len0 cap0 z0 a1 a2 W w0 w1 w2).mono fun e W' ⟨he, bel⟩ => ?_
  subst he
  exact ⟨_, rfl, _, _, _, [], _, [], hW', trodAll_mk1 (shut_bool Try.underlying4 _), (trodAll_cons_mk (Below.trod laidOut (by kernel_rfl) (of_decide_eq_true (by kernel_rfl)) k0 bel lt0) (trodAll_cons_mk (shut_string Try.underlying9 w1) (trodAll_cons_mk (shut_int Try.underlying3 w2) trodAll_mk0))), rfl, bel.frame _, fun h => by cases h⟩

theorem over : Rows.blobPutsRow.holds Try.pinned (OpenSpec.ofChange Rows.blobPutsSpec) :=
  OpenClaim.holds_of_wide 7 Try.f7 rfl rfl rfl rfl rfl rfl rfl ⟨rfl, rfl, rfl, rfl, rfl⟩ rfl rfl rfl rfl rfl (by kernel_rfl) Try.func7 (by kernel_rfl)
    (of_decide_eq_true (by kernel_rfl)) (by unfold Func.isWrapper; first | (rw [if_pos (by decide +kernel)]; kernel_rfl) | (rw [if_neg (by decide +kernel)]; exact ⟨rfl, rfl⟩))
    (fun os started H enc _ => lifted os started H enc)

theorem proved : Rows.BlobPutsSaid := over
#print axioms proved
end Go.Proofs.Ytodojabhjdejpaa.blobPuts

