/-
  tachographlaw15.UnblockGets answers true at every input: as which points any payload is read, or why it is not, is what the document says; what is read is of the signature, and has that payload. Conditions: none beyond the statement's own.
-/
import Derived.Test.YtfknibjejnmghaaGreatRows
import Derived.WalkKit
import Derived.ProofKit
import Derived.OpenShut
import Derived.ShutString
import Derived.ChangeOld
import Derived.Below
import Derived.Lib.SmallJoins
import Derived.Deep.LoopGhost
import Derived.Test.YtfknibjejnmghaaGreatUnblockFix
import Derived.Test.YtfknibjejnmghaaGreatUnblockRefGet
import Derived.Test.YtfknibjejnmghaaGreatUnblockBase
import Derived.Test.YtfknibjejnmghaaGreatTraceRefEq
import Derived.Test.YtfknibjejnmghaaGreatSigGreat
import Derived.Test.YtfknibjejnmghaaGreatTraceIn
namespace Go.Proofs.YtfknibjejnmghaaGreat.unblockGets
open Go.Proofs.YtfknibjejnmghaaGreat
open Go.ChangeShapes Go.WideShapes Go.ChangeAt Go.RowKit
open Go.ChangeMaps (open_string shut_string)
set_option linter.unusedVariables false

theorem own : ownKnob Tryz.prog.godebug = none := by kernel_rfl
theorem laidOut : laidOutB Tryz.prog = true := by kernel_rfl

set_option maxRecDepth 100000 in
set_option maxHeartbeats 2000000 in
theorem walk (a0 : Option Addr) (len0 cap0 : Nat) (l0 : List Pd) (a1 : Option Addr) (len1 cap1 : Nat) (z1 : List Int) (w : World) (w0 : l0.length = len0 ∧ PredRow w w.heap.size (.slice a0 len0 cap0) l0) (w1 : IsRow .u8 w a1 len1 cap1 z1) :
    Calls Tryz.prog 3 #[.slice a0 len0 cap0, .slice a1 len1 cap1] w fun e w' => e = .returned (.bool true) ∧ Below w.heap.size w w' := by
  obtain ⟨rfl, hrow⟩ := w0
  obtain ⟨xs, rfl, hx, hxb⟩ := Row.of_arg w1
  clear w1
  obtain ⟨hd1, hd2⟩ : l0.length ≤ cap0 ∧ cap0 ≤ 9223372036854775807 := by
    obtain ⟨A', c', hv, q1, q2⟩ := hrow.form
    injection hv with _ _ e3
    exact ⟨by omega, by omega⟩
  have hss : ∀ q ∈ l0.map (·.p), ∀ t ∈ q.args, -9223372036854775808 ≤ t ∧ t ≤ 9223372036854775807 := fun q hq => by
    obtain ⟨d, hd, rfl⟩ := List.mem_map.1 hq
    obtain ⟨A', c', hv, h1, h2, h3, h4, h5⟩ := hrow
    exact (h5 d hd).2.2.2
  have HROW := Lib.hid hrow
  have HX := Lib.hid hx
  have HFX := Lib.hid (fun W => fix15_any W)
  have hgr := great_any a0 cap0 l0 w hrow
  clear hrow hx
  cases hg : greatP (l0.map (·.p)) with
  | true =>
    rw [hg] at hgr
    have HG := Lib.hid hgr
    clear hg hgr hss hxb
    go_enter Tryz.func3, Tryz.ntmps3
    go_wp2_with fail
    refine HG.out.mono ?_
    rintro e w2 ⟨rfl, hb2⟩
    have HB2 := Lib.hid hb2
    clear hb2
    go_wp2_with fail
    refine (HFX.out _).mono ?_
    rintro e w3 ⟨rfl, hb3⟩
    have HB3 := Lib.hid (HB2.out.trans (hb3.mono HB2.out.size))
    clear hb3
    go_wp2_with fail
    go_ret
    exact ⟨rfl, HB3.out⟩
  | false =>
    rw [hg] at hgr
    have HG := Lib.hid hgr
    clear hg hgr
    by_cases h5 : 5000 < xs.length
    · have h5i : (5000 : Int) < (xs.length : Int) := by omega
      clear h5 hss hxb
      go_enter Tryz.func3, Tryz.ntmps3
      go_wp2_with fail
      refine HG.out.mono ?_
      rintro e w2 ⟨rfl, hb2⟩
      have HB2 := Lib.hid hb2
      clear hb2
      go_wp2_with fail
      refine (HFX.out _).mono ?_
      rintro e w3 ⟨rfl, hb3⟩
      have HB3 := Lib.hid (HB2.out.trans (hb3.mono HB2.out.size))
      clear hb3
      go_wp2_with fail
      go_ret
      exact ⟨rfl, HB3.out⟩
    · have h5i : ¬ (5000 : Int) < (xs.length : Int) := by omega
      have HUG := Lib.hid (fun (W : World) (h : Below w.heap.size w W) => uget_any a0 cap0 l0 a1 cap1 xs hxb (by omega) W ((HROW.out.below h).more h.size) ((HX.out.below h).more h.size))
      have HRG := Lib.hid (fun (W : World) (h : Below w.heap.size w W) => rget15_any a0 cap0 l0 xs hxb (by omega) W ((HROW.out.below h).more h.size))
      have HUB := Lib.hid (fun (W : World) (h : Below w.heap.size w W) => ubase_any a1 cap1 xs W ((HX.out.below h).more h.size) hxb)
      have HR1 := Lib.hid (fun W => rget_any xs hxb (by omega) W)
      have HBK := Lib.hid (fun h => getU_back (sig := l0.map (·.p)) (xs := xs) hxb hss h)
      clear h5 hxb hss
      generalize getU (l0.map (·.p)) xs = R at HUG HRG HBK
      generalize getI xs = T at HUB HR1
      obtain ⟨L, k⟩ := R
      obtain ⟨t1, t2, t3⟩ := T
      have HCV := Lib.hid (fun (W : World) (h : Below w.heap.size w W) => (HX.out.below h).convert (P := Tryz.prog) 23 5 9 Tryz.underlying23 Tryz.underlying5 Tryz.underlying9)
      have hkk : (k != k) = false := by simp
      have htt : (t1 != t1) = false := by simp
      have htt3 : (t3 != t3) = false := by simp
      go_enter Tryz.func3, Tryz.ntmps3
      go_wp2_with fail
      refine HG.out.mono ?_
      rintro e w2 ⟨rfl, hb2⟩
      have HB2 := Lib.hid hb2
      clear hb2 HG
      go_wp2_with fail
      refine (HUG.out _ HB2.out).mono ?_
      rintro e w3 ⟨A3, c3, ps, rfl, hown, hps, hb3⟩
      simp only at hps
      have HB3 := Lib.hid (HB2.out.trans (hb3.mono HB2.out.size))
      have HT3 := Lib.hid hown.row
      have HPS := Lib.hid hps
      have hcv := HCV.out _ HB3.out
      clear hown hps hb3 HUG
      go_wp2_with fail
      refine (HRG.out _ HB3.out).mono ?_
      rintro e w4 ⟨A4, c4, ps4, rfl, ht4, hps4, hb4⟩
      simp only at hps4
      have HB4 := Lib.hid (HB3.out.trans (hb4.mono HB3.out.size))
      have HT34 := Lib.hid ((HT3.out.below hb4).more hb4.size)
      have HT4 := Lib.hid ht4
      have HPS4 := Lib.hid hps4
      clear ht4 hps4 hb4 HRG hcv
      go_wp2_with fail
      refine (HUB.out _ HB4.out).mono ?_
      rintro e w5 ⟨rfl, hb5⟩
      have HB5 := Lib.hid (HB4.out.trans (hb5.mono HB4.out.size))
      have HT35 := Lib.hid ((HT34.out.below hb5).more hb5.size)
      have HT45 := Lib.hid ((HT4.out.below hb5).more hb5.size)
      have hcv := HCV.out _ HB5.out
      clear hb5 HUB
      go_wp2_with fail
      refine (HR1.out _).mono ?_
      rintro e w6 ⟨rfl, rfl⟩
      have HSM := Lib.hid (rtsame_any A3 c3 ps A4 c4 ps4 w5 HT35.out HT45.out)
      rw [HPS.out, HPS4.out, decide_eq_true rfl] at HSM
      clear hcv
      go_wp2_with fail
      refine HSM.out.mono ?_
      rintro e w7 ⟨rfl, hb7⟩
      have HB7 := Lib.hid (HB5.out.trans (hb7.mono HB5.out.size))
      have HT7 := Lib.hid ((HT35.out.below hb7).more hb7.size)
      clear hb7 HSM
      by_cases hk0 : k = 0
      · subst hk0
        obtain ⟨-, hput, -, -⟩ := HBK.out rfl
        have hput : putB (l0.map (·.p)) (L.map bareP) = (xs, 0) := hput
        rw [← HPS.out, putB_plain] at hput
        obtain ⟨hcb, -, -⟩ := putB_ok (sig := l0.map (·.p)) (l := ps) (by rw [hput])
        obtain ⟨-, hct, -⟩ := checkB_zero hcb
        have hch := fun (W : World) (h : Below w.heap.size w W) (ht : TrRow W W.heap.size (.slice A3 ps.length c3) ps) => tcheck_any a0 cap0 l0 A3 c3 ps W ((HROW.out.below h).more h.size) ht
        rw [hct] at hch
        have HCH := Lib.hid hch
        have hpu := fun (W : World) (h : Below w.heap.size w W) (ht : TrRow W W.heap.size (.slice A3 ps.length c3) ps) => blput_any a0 cap0 l0 A3 c3 ps W ((HROW.out.below h).more h.size) ht
        rw [hput] at hpu
        unfold BGot at hpu
        dsimp only at hpu
        have HPU := Lib.hid hpu
        generalize (checkT (l0.map (·.p)) (ps.map (·.p))).2 = ct at HCH
        clear hput hcb hct hch hpu HBK
        go_wp2_with fail
        refine (HCH.out _ HB7.out HT7.out).mono ?_
        rintro e w8 ⟨rfl, hb8⟩
        have HB8 := Lib.hid (HB7.out.trans (hb8.mono HB7.out.size))
        have HT8 := Lib.hid ((HT7.out.below hb8).more hb8.size)
        clear hb8
        go_wp2_with fail
        refine (HPU.out _ HB8.out HT8.out).mono ?_
        rintro e w9 ⟨A9, c9, rfl, hown9, hb9⟩
        have HB9 := Lib.hid (HB8.out.trans (hb9.mono HB8.out.size))
        have HR9 := Lib.hid (Row.of_own hown9)
        clear hown9 hb9
        go_wp2_with fail
        refine (HFX.out _).mono ?_
        rintro e w10 ⟨rfl, hb10⟩
        have HB10 := Lib.hid (HB9.out.trans (hb10.mono HB9.out.size))
        have hcv2 := ((HR9.out.below hb10).convert (P := Tryz.prog) 23 5 9 Tryz.underlying23 Tryz.underlying5 Tryz.underlying9)
        have hcv3 := HCV.out _ HB10.out
        clear hb10
        go_wp2_with fail
        go_ret
        exact ⟨rfl, HB10.out⟩
      · have hne : (k != 0) = true := bne_iff_ne.2 hk0
        clear hk0
        go_wp2_with fail
        refine (HFX.out _).mono ?_
        rintro e w8 ⟨rfl, hb8⟩
        have HB8 := Lib.hid (HB7.out.trans (hb8.mono HB7.out.size))
        clear hb8
        go_wp2_with fail
        go_ret
        exact ⟨rfl, HB8.out⟩

set_option maxRecDepth 100000 in
theorem lifted (os : Os) (started : os.Started) (H : Type) (enc : TypeId × Value → H) :
    ReturnsInHanded {} Tryz.checked os 3 .any (Rows.unblockGetsSpec.pre6 enc Tryz.prog Tryz.f3 Rows.unblockGetsRow.domain false) (Rows.unblockGetsSpec.post enc Tryz.prog Tryz.f3 false true false false) := by
  refine returnsInHanded_of_change (C := Tryz.checked) own started (by kernel_rfl) Tryz.func3
    (ChangeSpec.witness6 (enc := enc) (C := Tryz.checked) false ⟨#[], #[.slice none 0 0, .slice none 0 0], []⟩ 8 (by kernel_rfl) (by kernel_rfl) (by kernel_rfl) (by kernel_rfl)) ?_
  intro W base args ds gs before hval0 hW hcnd _
  have hval : ∀ (j : Nat) t v, Tryz.f3.params[j]? = some t → args[j]? = some v → Value.okWide Tryz.prog W .any base t v := hval0
  have hW' := hW
  obtain ⟨p, q, hA0, hV, rfl, hfz, hnd⟩ := hW
  have hA : DataW.TrodAll enc Tryz.prog W 0 (fun _ => true) true Tryz.f3.params.toList args.toList ds p := hA0
  rw [Tryz.params3] at hA hval
  obtain ⟨v0, vs0, d0, ds0, p0, q0, hargs, rfl, rfl, h0, r0⟩ := trodAll_cons hA
  obtain ⟨v1, vs1, d1, ds1, p1, q1, rfl, rfl, rfl, h1, r1⟩ := trodAll_cons r0
  obtain ⟨rfl, rfl, rfl⟩ := trodAll_nil r1
  obtain rfl : args = #[v0, v1] := by cases args; simp_all
  obtain ⟨rfl, rfl⟩ := trodVars_none hV
  obtain ⟨a0, len0, cap0, rfl⟩ := okWide_slice Tryz.underlying22 (hval 0 22 v0 rfl rfl)
  have k0 := h0
  have lt0 : ∀ x ∈ p0, x.block < W.heap.size := by obtain ⟨m, hm⟩ := k0; exact DataW.trod_lt m _ _ _ hm
  obtain ⟨l0, w0⟩ : ∃ ds : List Pd, ds.length = len0 ∧ PredRow W W.heap.size (.slice a0 len0 cap0) ds := by
    obtain ⟨fuel, hf⟩ := h0
    exact preds_of hf
  obtain ⟨a1, len1, cap1, rfl⟩ := okWide_slice Tryz.underlying23 (hval 1 23 v1 rfl rfl)
  have k1 := h1
  have lt1 : ∀ x ∈ p1, x.block < W.heap.size := by obtain ⟨m, hm⟩ := k1; exact DataW.trod_lt m _ _ _ hm
  obtain ⟨z1, w1⟩ : ∃ zs, IsRow .u8 W a1 len1 cap1 zs := by
    obtain ⟨fuel, hf⟩ := h1
    rcases open_ints Tryz.underlying23 Tryz.underlying5 (by kernel_rfl) hf with ⟨hcs, _⟩ | ⟨x, l, c, zs, hcs, _, hl, hm, hz, _, hcell, hwz⟩
    · simp [Value.cells] at hcs
      obtain ⟨rfl, rfl, rfl⟩ := hcs
      exact ⟨[], .inl ⟨rfl, rfl, rfl, rfl⟩⟩
    · simp [Value.cells] at hcs
      obtain ⟨rfl, rfl, rfl⟩ := hcs
      exact ⟨zs, .inr ⟨_, rfl, hl, hm, by simpa using hz, hcell, hwz⟩⟩
  clear hA0 hval0
  refine (walk a0 len0 cap0 l0 a1 len1 cap1 z1 W w0 w1).mono fun e W' ⟨he, bel⟩ => ?_
  subst he
  exact ⟨_, rfl, _, _, _, [], _, [], hW', trodAll_mk1 (shut_bool Tryz.underlying4 _), (trodAll_cons_mk (Below.trod laidOut (by kernel_rfl) (of_decide_eq_true (by kernel_rfl)) k0 bel lt0) (trodAll_cons_mk (Below.trod laidOut (by kernel_rfl) (of_decide_eq_true (by kernel_rfl)) k1 bel lt1) (trodAll_mk0))), rfl, bel.frame _, fun h => by cases h⟩

theorem over : Rows.unblockGetsRow.holds Tryz.pinned (OpenSpec.ofChange Rows.unblockGetsSpec) :=
  OpenClaim.holds_of_wide 3 Tryz.f3 rfl rfl rfl rfl rfl rfl rfl ⟨rfl, rfl, rfl, rfl, rfl⟩ rfl rfl rfl rfl rfl (by kernel_rfl) Tryz.func3 (by kernel_rfl)
    (of_decide_eq_true (by kernel_rfl)) (by unfold Func.isWrapper; first | (rw [if_pos (by decide +kernel)]; kernel_rfl) | (rw [if_neg (by decide +kernel)]; exact ⟨rfl, rfl⟩))
    (fun os started H enc _ => lifted os started H enc)

theorem proved : Rows.UnblockGetsSaid := over
#print axioms proved
end Go.Proofs.YtfknibjejnmghaaGreat.unblockGets
