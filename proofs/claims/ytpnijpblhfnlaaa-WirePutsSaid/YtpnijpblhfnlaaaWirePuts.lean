/-
  At every slice of bytes and every number the law on what is put answers true, and nothing that lay in memory has changed. No condition.
-/
import Derived.Test.YtpnijpblhfnlaaaRows
import Derived.WalkKit
import Derived.ProofKit
import Derived.OpenShut
import Derived.ShutString
import Derived.ChangeOld
import Derived.Below
import Derived.Test.YtpnijpblhfnlaaaFixed
import Derived.Test.YtpnijpblhfnlaaaGet
import Derived.Test.YtpnijpblhfnlaaaRef
import Derived.Test.YtpnijpblhfnlaaaArg
namespace Go.Proofs.Ytpnijpblhfnlaaa.wirePuts
open Go.Proofs.Ytpnijpblhfnlaaa
open Go.ChangeShapes Go.WideShapes Go.ChangeAt Go.RowKit
open Go.ChangeMaps (open_string shut_string)
set_option linter.unusedVariables false

theorem own : ownKnob Try.prog.godebug = none := by kernel_rfl
theorem laidOut : laidOutB Try.prog = true := by kernel_rfl

set_option maxRecDepth 100000 in
set_option maxHeartbeats 1000000 in
theorem walk (a0 : Option Addr) (len0 cap0 : Nat) (z0 : List Int) (a1 : Int) (w : World) (w0 : IsRow .u8 w a0 len0 cap0 z0) (w1 : (Lit.int .u64 a1).wf = true) :
    Calls Try.prog 3 #[.slice a0 len0 cap0, .int .u64 a1] w fun e w' => e = .returned (.bool true) ∧ Below w.heap.size w w' := by
  obtain ⟨b11, b12⟩ := bounds_u64 w1
  clear w1
  obtain ⟨n, rfl⟩ := Int.eq_ofNat_of_zero_le b11
  have hn : n < 18446744073709551616 := by omega
  obtain ⟨xs, rfl, hrow, hbx⟩ := Row.of_arg w0
  clear w0
  by_cases hgt : 300 < xs.length
  · have hgi : (300 : Int) < (xs.length : Int) := by omega
    go_enter Try.func3, Try.ntmps3
    go_wp2_with (go_at_call 7; refine (fixed_any _).mono ?_; rintro e w3 ⟨rfl, hb3⟩)
    go_ret
    exact ⟨rfl, hb3⟩
  · have hle : xs.length ≤ 300 := by omega
    obtain ⟨l1, l2⟩ := encI_ten hn
    have hby := encI_bytes hn
    have hcv := hrow.convert (P := Try.prog) 22 5 9 Try.underlying22 Try.underlying5 Try.underlying9
    have HROW := Lib.hid hrow; clear hrow
    have HBX := Lib.hid hbx; clear hbx
    have HBY := Lib.hid hby; clear hby
    go_enter Try.func3, Try.ntmps3
    go_wp2_with fail
    refine (put_any a0 cap0 xs n hn (by omega) _ HROW.out).mono ?_
    rintro e w1 ⟨v1, rfl, hown1, hb1⟩
    have hr1 := Row.of_own hown1
    have HR1 := Lib.hid hr1; clear hr1 hown1
    go_wp2_with fail
    refine (rput n hn _).mono ?_
    rintro e w2 ⟨rfl, hb2⟩
    have hadd1 := fun W => add_strs (P := Try.prog) W (encI n) xs (by omega)
    have hadd2 := fun W => add_strs (P := Try.prog) W xs (encI n) (by omega)
    have hget := getI_enc hn xs
    have hby : ∀ x ∈ encI n ++ xs, 0 ≤ x ∧ x < 256 := fun x hx => by
      rcases List.mem_append.1 hx with h | h
      · exact HBY.out x h
      · exact HBX.out x h
    have hyl : (encI n ++ xs).length ≤ 310 := by simp; omega
    generalize encI n ++ xs = ys at hadd1 hget hby hyl
    obtain ⟨A3, c3, w3, hcv3, hrow3, hb3⟩ := conv_bytes (P := Try.prog) w2 9 22 5 Try.underlying9 Try.underlying22 Try.underlying5 ys hby (by omega)
    have hg := get_any A3 c3 ys w3 hrow3 hby
    rw [hget] at hg
    have HG := Lib.hid hg; clear hg hrow3 hby hget
    generalize hz : xs ++ encI n = zs at hadd2 HR1
    clear hz
    generalize hL : (encI n).length = L at HG
    have hss : (strOfNums (encI n)).size = L := by rw [strOfNums_size, hL]
    have hsz := fun W => size_any n hn W
    rw [hL] at hsz
    have HSZ := Lib.hid hsz; clear hsz
    generalize strOfNums (encI n) = es at hss hadd1 hadd2 ⊢
    clear hL
    go_wp2_with fail
    refine HG.out.mono ?_
    rintro e w4 ⟨rfl, hb4⟩
    go_wp2_with fail
    refine (fixed_any _).mono ?_
    rintro e w5 ⟨rfl, hb5⟩
    have b2 : Below w.heap.size w w2 := hb1.trans (hb2.mono hb1.size)
    have b3 : Below w.heap.size w w3 := b2.trans (hb3.mono b2.size)
    have b4 : Below w.heap.size w w4 := b3.trans (hb4.mono b3.size)
    have b5 : Below w.heap.size w w5 := b4.trans (hb5.mono b4.size)
    have c3' : Below w1.heap.size w1 w3 := hb2.trans (hb3.mono hb2.size)
    have c4 : Below w1.heap.size w1 w4 := c3'.trans (hb4.mono c3'.size)
    have c5 : Below w1.heap.size w1 w5 := c4.trans (hb5.mono c4.size)
    have q1 := (HR1.out.below c5).convert (P := Try.prog) 22 5 9 Try.underlying22 Try.underlying5 Try.underlying9
    have q2 := (HROW.out.below b5).convert (P := Try.prog) 22 5 9 Try.underlying22 Try.underlying5 Try.underlying9
    go_wp2_with fail
    refine (HSZ.out _).mono ?_
    rintro e w6 ⟨rfl, hb6⟩
    go_wp2_with fail
    go_ret
    exact ⟨rfl, b5.trans (hb6.mono b5.size)⟩

set_option maxRecDepth 100000 in
theorem lifted (os : Os) (started : os.Started) (H : Type) (enc : TypeId × Value → H) :
    ReturnsInHanded {} Try.checked os 3 .any (Rows.wirePutsSpec.pre6 enc Try.prog Try.f3 Rows.wirePutsRow.domain false) (Rows.wirePutsSpec.post enc Try.prog Try.f3 false true false false) := by
  refine returnsInHanded_of_change (C := Try.checked) own started (by kernel_rfl) Try.func3
    (ChangeSpec.witness6 (enc := enc) (C := Try.checked) false ⟨#[], #[.slice none 0 0, .int .u64 0], []⟩ 8 (by kernel_rfl) (by kernel_rfl) (by kernel_rfl) (by kernel_rfl)) ?_
  intro W base args ds gs before hval0 hW hcnd _
  have hval : ∀ (j : Nat) t v, Try.f3.params[j]? = some t → args[j]? = some v → Value.okWide Try.prog W .any base t v := hval0
  have hW' := hW
  obtain ⟨p, q, hA0, hV, rfl, hfz, hnd⟩ := hW
  have hA : DataW.TrodAll enc Try.prog W 0 (fun _ => true) true Try.f3.params.toList args.toList ds p := hA0
  rw [Try.params3] at hA hval
  obtain ⟨v0, vs0, d0, ds0, p0, q0, hargs, rfl, rfl, h0, r0⟩ := trodAll_cons hA
  obtain ⟨v1, vs1, d1, ds1, p1, q1, rfl, rfl, rfl, h1, r1⟩ := trodAll_cons r0
  obtain ⟨rfl, rfl, rfl⟩ := trodAll_nil r1
  obtain rfl : args = #[v0, v1] := by cases args; simp_all
  obtain ⟨rfl, rfl⟩ := trodVars_none hV
  obtain ⟨a0, len0, cap0, rfl⟩ := okWide_slice Try.underlying22 (hval 0 22 v0 rfl rfl)
  have k0 := h0
  have lt0 : ∀ x ∈ p0, x.block < W.heap.size := by obtain ⟨m, hm⟩ := k0; exact DataW.trod_lt m _ _ _ hm
  obtain ⟨z0, w0⟩ : ∃ zs, IsRow .u8 W a0 len0 cap0 zs := by
    obtain ⟨fuel, hf⟩ := h0
    rcases open_ints Try.underlying22 Try.underlying5 (by kernel_rfl) hf with ⟨hcs, _⟩ | ⟨x, l, c, zs, hcs, _, hl, hm, hz, _, hcell, hwz⟩
    · simp [Value.cells] at hcs
      obtain ⟨rfl, rfl, rfl⟩ := hcs
      exact ⟨[], .inl ⟨rfl, rfl, rfl, rfl⟩⟩
    · simp [Value.cells] at hcs
      obtain ⟨rfl, rfl, rfl⟩ := hcs
      exact ⟨zs, .inr ⟨_, rfl, hl, hm, by simpa using hz, hcell, hwz⟩⟩
  obtain ⟨a1, rfl, rfl, rfl, w1⟩ := open_int Try.underlying23 (hval 1 23 v1 rfl rfl) h1
  clear hA0 hval0
  refine (walk a0 len0 cap0 z0 a1 W w0 w1).mono fun e W' ⟨he, bel⟩ => ?_
  subst he
  exact ⟨_, rfl, _, _, _, [], _, [], hW', trodAll_mk1 (shut_bool Try.underlying4 _), (trodAll_cons_mk (Below.trod laidOut (by kernel_rfl) (of_decide_eq_true (by kernel_rfl)) k0 bel lt0) (trodAll_cons_mk (shut_int Try.underlying23 w1) trodAll_mk0)), rfl, bel.frame _, fun h => by cases h⟩

theorem over : Rows.wirePutsRow.holds Try.pinned (OpenSpec.ofChange Rows.wirePutsSpec) :=
  OpenClaim.holds_of_wide 3 Try.f3 rfl rfl rfl rfl rfl rfl rfl ⟨rfl, rfl, rfl, rfl, rfl⟩ rfl rfl rfl rfl rfl (by kernel_rfl) Try.func3 (by kernel_rfl)
    (of_decide_eq_true (by kernel_rfl)) (by unfold Func.isWrapper; first | (rw [if_pos (by decide +kernel)]; kernel_rfl) | (rw [if_neg (by decide +kernel)]; exact ⟨rfl, rfl⟩))
    (fun os started H enc _ => lifted os started H enc)

theorem proved : Rows.WirePutsSaid := over
#print axioms proved
end Go.Proofs.Ytpnijpblhfnlaaa.wirePuts

