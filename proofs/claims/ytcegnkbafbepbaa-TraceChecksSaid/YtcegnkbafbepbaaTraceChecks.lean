/-
  Why a trace isn't of a signature, where, and how much it has.
-/
import Derived.Test.YtcegnkbafbepbaaRows
import Derived.WalkKit
import Derived.ProofKit
import Derived.OpenShut
import Derived.ShutString
import Derived.ChangeOld
import Derived.Below
import Derived.Lib.SmallJoins
import Derived.Deep.LoopGhost
import Derived.Test.YtcegnkbafbepbaaTraceChk
import Derived.Test.YtcegnkbafbepbaaTraceRefChk
import Derived.Test.YtcegnkbafbepbaaTraceRefCnt
import Derived.Test.YtcegnkbafbepbaaThree
import Derived.Test.YtcegnkbafbepbaaTraceGreat
import Derived.Test.YtcegnkbafbepbaaTraceGfix
import Derived.Test.YtcegnkbafbepbaaTraceIn
import Derived.Test.YtcegnkbafbepbaaSigGreat
import Derived.Test.YtcegnkbafbepbaaTraceEvent
namespace Go.Proofs.Ytcegnkbafbepbaa.traceChecks
open Go.Proofs.Ytcegnkbafbepbaa
open Go.ChangeShapes Go.WideShapes Go.ChangeAt Go.RowKit
open Go.ChangeMaps (open_string shut_string)
set_option linter.unusedVariables false

theorem own : ownKnob Try.prog.godebug = none := by kernel_rfl
theorem laidOut : laidOutB Try.prog = true := by kernel_rfl

set_option maxRecDepth 100000 in
set_option maxHeartbeats 2000000 in
theorem walk (a0 : Option Addr) (len0 cap0 : Nat) (l0 : List Pd) (a1 : Option Addr) (len1 cap1 : Nat) (l1 : List Pm) (w : World) (w0 : l0.length = len0 ∧ PredRow w w.heap.size (.slice a0 len0 cap0) l0) (w1 : l1.length = len1 ∧ TrRow w w.heap.size (.slice a1 len1 cap1) l1) :
    Calls Try.prog 3 #[.slice a0 len0 cap0, .slice a1 len1 cap1] w fun e w' => e = .returned (.bool true) ∧ Below w.heap.size w w' := by
  obtain ⟨rfl, hrow⟩ := w0
  obtain ⟨rfl, htr⟩ := w1
  obtain ⟨-, hc1, hc2⟩ := htr.1.len
  obtain ⟨hd1, hd2⟩ : l0.length ≤ cap0 ∧ cap0 ≤ 9223372036854775807 := by
    obtain ⟨A', c', hv, q1, q2⟩ := hrow.form
    injection hv with _ _ e3
    exact ⟨by omega, by omega⟩
  have HROW := Lib.hid hrow
  have HTR := Lib.hid htr
  have HFX := Lib.hid (fun W => tfix12_any W)
  have hgr := great_any a0 cap0 l0 w hrow
  clear hrow htr
  cases hg : greatP (l0.map (·.p)) with
  | true =>
    rw [hg] at hgr
    have HG := Lib.hid hgr
    clear hg hgr
    go_enter Try.func3, Try.ntmps3
    go_wp2_with fail
    refine HG.out.mono ?_
    rintro e w2 ⟨rfl, hb2⟩
    have HB2 := Lib.hid hb2
    clear hb2
    go_wp2_with fail
    refine (HFX.out _).mono ?_
    rintro e w3 ⟨rfl, hb3⟩
    have HB3 := Lib.hid (HB2.out.trans (hb3.mono HB2.out.size))
    clear hb3
    go_wp2_with fail
    go_ret
    exact ⟨rfl, HB3.out⟩
  | false =>
    rw [hg] at hgr
    have HG := Lib.hid hgr
    clear hg hgr
    go_enter Try.func3, Try.ntmps3
    go_wp2_with fail
    refine HG.out.mono ?_
    rintro e w2 ⟨rfl, hb2⟩
    have HB2 := Lib.hid hb2
    clear hb2
    have HGT := Lib.hid (tgreat_any a1 cap1 l1 3000 w2 ((HTR.out.below HB2.out).more HB2.out.size))
    go_wp2_with fail
    refine HGT.out.mono ?_
    rintro e w3 ⟨⟨g, rfl⟩, hb3⟩
    have HB3 := Lib.hid (HB2.out.trans (hb3.mono HB2.out.size))
    clear hb3
    cases g with
    | true =>
      go_wp2_with fail
      refine (HFX.out _).mono ?_
      rintro e w4 ⟨rfl, hb4⟩
      have HB4 := Lib.hid (HB3.out.trans (hb4.mono HB3.out.size))
      clear hb4
      go_wp2_with fail
      go_ret
      exact ⟨rfl, HB4.out⟩
    | false =>
      have hck := fun W (h : Below w.heap.size w W) => tcheck_any a0 cap0 l0 a1 cap1 l1 W ((HROW.out.below h).more h.size) ((HTR.out.below h).more h.size)
      have hrk := fun W (h : Below w.heap.size w W) => rtcheck_any a0 cap0 l0 a1 cap1 l1 W ((HROW.out.below h).more h.size) ((HTR.out.below h).more h.size)
      have hct := fun W (h : Below w.heap.size w W) => count_any a1 cap1 l1 W ((HTR.out.below h).more h.size)
      have hrt := fun W (h : Below w.heap.size w W) => rtcount_any a1 cap1 l1 W ((HTR.out.below h).more h.size)
      generalize checkT (l0.map (·.p)) (l1.map (·.p)) = C at hck hrk
      generalize wrap64 ((evsOf l1).length : Int) = X at hct hrt
      generalize wrap64 ((agsOf (evsOf l1)).length : Int) = Y at hct hrt
      generalize wrap64 ((sumS (agsOf (evsOf l1)) : Nat) : Int) = Z at hct hrt
      obtain ⟨C1, C2⟩ := C
      dsimp only at hck hrk
      have HCK := Lib.hid hck
      have HRK := Lib.hid hrk
      have HCT := Lib.hid hct
      have HRT := Lib.hid hrt
      clear hck hrk hct hrt
      go_wp2_with fail
      refine (HCK.out _ HB3.out).mono ?_
      rintro e w4 ⟨rfl, hb4⟩
      have HB4 := Lib.hid (HB3.out.trans (hb4.mono HB3.out.size))
      clear hb4
      go_wp2_with fail
      refine (HRK.out _ HB4.out).mono ?_
      rintro e w5 ⟨rfl, hb5⟩
      have HB5 := Lib.hid (HB4.out.trans (hb5.mono HB4.out.size))
      clear hb5
      go_wp2_with fail
      refine (HCT.out _ HB5.out).mono ?_
      rintro e w6 ⟨rfl, hb6⟩
      have HB6 := Lib.hid (HB5.out.trans (hb6.mono HB5.out.size))
      clear hb6
      go_wp2_with fail
      refine (HRT.out _ HB6.out).mono ?_
      rintro e w7 ⟨rfl, hb7⟩
      have HB7 := Lib.hid (HB6.out.trans (hb7.mono HB6.out.size))
      clear hb7
      simp only []
      go_step
      refine wpList_step (fun _ _ => ?_)
      rw [if_pos (by kernel_rfl)]
      unfold Oper.wp
      rw [exec_neq_three w7 _ _ 53 55 X Y Z rfl rfl rfl]
      go_wp2_with fail
      go_loopg [60] l1.length (fun gk i wr => ∃ k : Nat, k ≤ l1.length ∧ i = .int .i64 k ∧ Hid (l1.length - k = gk) ∧ Hid (Below w.heap.size w wr))
      case atStart => exact ⟨0, Nat.zero_le _, rfl, Lib.hid rfl, HB7⟩
      case round =>
        obtain ⟨k, hk, rfl, HGK, HB⟩ := hrel
        by_cases hlt : k < l1.length
        · obtain ⟨d, hd⟩ : ∃ d, l1[k]? = some d := ⟨_, List.getElem?_eq_getElem hlt⟩
          have hz := HB.out.size
          obtain ⟨b, o, rfl, hb, x0, x1, hok, hl1, hl2⟩ := (HTR.out.below HB.out).at hd
          obtain ⟨w8, hw8⟩ : ∃ w8, wr.alloc (.cells #[.int .u64 d.tm, .slice d.A d.evs.length d.c] 39) = w8 := ⟨_, rfl⟩
          have s8 : w8.heap.size = wr.heap.size + 1 := by rw [← hw8, World.size_alloc]
          have hb8 : Below wr.heap.size wr w8 := by rw [← hw8]; exact (Below.refl _ _).alloc (Nat.le_refl _) _
          have hh8 : Held w8 wr.heap.size 39 #[.int .u64 d.tm, .slice d.A d.evs.length d.c] := by rw [← hw8]; exact heap_alloc_new wr _
          have y1 := hh8.cell 1
          simp at y1
          have HB8 := Lib.hid (HB.out.trans (hb8.mono hz))
          have hgr := (hok.below (hb8.mono hz)).1
          obtain ⟨dA, hdA⟩ : ∃ dA, d.A = dA := ⟨_, rfl⟩
          rw [hdA] at hgr y1 x1 hw8
          have HGR := Lib.hid hgr
          clear hok hd hh8 hgr hdA
          obtain ⟨wx, hwx⟩ : ∃ wx, wx = wr := ⟨_, rfl⟩
          subst hwx
          go_wp2_with fail
          clear hw8 x0 x1 y1
          go_loopg [67] d.evs.length (fun gm i wr2 => ∃ m : Nat, m ≤ d.evs.length ∧ i = .int .i64 m ∧ Hid (d.evs.length - m = gm) ∧ Hid (Below w8.heap.size w8 wr2))
          case atStart => exact ⟨0, Nat.zero_le _, rfl, Lib.hid rfl, Lib.hid (Below.refl _ _)⟩
          case round =>
            obtain ⟨m, hm, rfl, HGM, HB9⟩ := hrel
            by_cases hml : m < d.evs.length
            · obtain ⟨x, hx⟩ : ∃ x, d.evs[m]? = some x := ⟨_, List.getElem?_eq_getElem hml⟩
              have hz9 := HB9.out.size
              obtain ⟨b2, o2, rfl, hb2, u0, u1, hokx, hl3, hl4⟩ := (HGR.out.below (HB9.out.mono (by omega))).at hx
              obtain ⟨w10, hw10⟩ : ∃ w10, wr.alloc (.cells #[.int .i64 x.p, .slice x.A x.args.length x.c] 42) = w10 := ⟨_, rfl⟩
              have s10 : w10.heap.size = wr.heap.size + 1 := by rw [← hw10, World.size_alloc]
              have hb10 : Below wr.heap.size wr w10 := by rw [← hw10]; exact (Below.refl _ _).alloc (Nat.le_refl _) _
              have hh10 : Held w10 wr.heap.size 42 #[.int .i64 x.p, .slice x.A x.args.length x.c] := by rw [← hw10]; exact heap_alloc_new wr _
              have HB10 := Lib.hid ((HB8.out.trans (HB9.out.mono (by omega))).trans (hb10.mono (by omega)))
              have hokw := hokx.below (hb10.mono (by omega))
              have he1 := fun W (h : Below w10.heap.size w10 W) => event_any a0 cap0 l0 x W ((HROW.out.below (HB10.out.trans (h.mono (by omega)))).more (by have := h.size; omega)) ((hokw.below (h.mono (by omega))).more (by have := h.size; omega))
              have he2 := fun W (h : Below w10.heap.size w10 W) => revent_any a0 cap0 l0 x W ((HROW.out.below (HB10.out.trans (h.mono (by omega)))).more (by have := h.size; omega)) ((hokw.below (h.mono (by omega))).more (by have := h.size; omega))
              generalize eventT (l0.map (·.p)) x.e = r at he1 he2
              have HE1 := Lib.hid he1
              have HE2 := Lib.hid he2
              have HALL := Lib.hid (fun W (h : Below w10.heap.size w10 W) => (show W.cell? ⟨wr.heap.size, 0, none⟩ = some (.int .i64 x.p) ∧ W.cell? ⟨wr.heap.size, 1, none⟩ = some (.slice x.A x.args.length x.c) from by
                have hh := hh10.below h (by omega)
                have v0 := hh.cell 0
                have v1 := hh.cell 1
                simp at v0 v1
                exact ⟨v0, v1⟩))
              clear he1 he2 hokx hokw hx hh10
              go_wp2_with fail
              clear hw10
              go_region_held3 (fun W => Below w10.heap.size w10 W ∧ W.cell? ⟨wr.heap.size, 0, none⟩ = some (.int .i64 x.p) ∧ W.cell? ⟨wr.heap.size, 1, none⟩ = some (.slice x.A x.args.length x.c))
                (first | exact ⟨Below.refl _ _, HALL.out _ (Below.refl _ _)⟩ | exact ⟨(Below.refl _ _).drew, HALL.out _ (Below.refl _ _).drew⟩ | exact ⟨b4, HALL.out _ b4⟩ | exact ⟨b5, HALL.out _ b5⟩)
                (first
                  | (go_at_call 13; first | (refine (HE1.out _ b4).mono ?_; rintro e wA ⟨rfl, hbA⟩; have b5 : Below w10.heap.size w10 wA := b4.trans (hbA.mono b4.size)) | (refine (HE1.out _ (Below.refl _ _).drew).mono ?_; rintro e wA ⟨rfl, hbA⟩; have b4 : Below w10.heap.size w10 wA := (Below.refl _ _).drew.trans (hbA.mono (Nat.le_refl _))))
                  | (go_at_call 14; first | (refine (HE2.out _ b4).mono ?_; rintro e wA ⟨rfl, hbA⟩; have b5 : Below w10.heap.size w10 wA := b4.trans (hbA.mono b4.size)) | (refine (HE2.out _ (Below.refl _ _).drew).mono ?_; rintro e wA ⟨rfl, hbA⟩; have b4 : Below w10.heap.size w10 wA := (Below.refl _ _).drew.trans (hbA.mono (Nat.le_refl _)))))
              all_goals
                have HB11 := Lib.hid (HB9.out.trans ((show Below w8.heap.size wr w10 from hb10.mono (by omega)).trans (b5.mono (by omega))))
                clear b4 b5
              all_goals
                go_wp2_with fail
                go_roundg (d.evs.length - (m + 1))
                case measure => have := HGM.out; omega
                case rel => exact ⟨m + 1, by omega, by go_num, Lib.hid rfl, HB11⟩
            · obtain rfl : m = d.evs.length := by omega
              go_wp2_with fail
              go_roundg (l1.length - (k + 1))
              case measure => have := HGK.out; omega
              case rel => exact ⟨k + 1, by omega, by go_num, Lib.hid rfl, Lib.hid (HB8.out.trans (HB9.out.mono (by omega)))⟩
        · obtain rfl : k = l1.length := by omega
          go_wp2_with fail
          refine (HFX.out _).mono ?_
          rintro e w8 ⟨rfl, hb8⟩
          have HB8 := Lib.hid (HB.out.trans (hb8.mono HB.out.size))
          clear hb8
          go_wp2_with fail
          go_ret
          exact ⟨rfl, HB8.out⟩

set_option maxRecDepth 100000 in
theorem lifted (os : Os) (started : os.Started) (H : Type) (enc : TypeId × Value → H) :
    ReturnsInHanded {} Try.checked os 3 .any (Rows.traceChecksSpec.pre6 enc Try.prog Try.f3 Rows.traceChecksRow.domain false) (Rows.traceChecksSpec.post enc Try.prog Try.f3 false true false false) := by
  refine returnsInHanded_of_change (C := Try.checked) own started (by kernel_rfl) Try.func3
    (ChangeSpec.witness6 (enc := enc) (C := Try.checked) false ⟨#[], #[.slice none 0 0, .slice none 0 0], []⟩ 8 (by kernel_rfl) (by kernel_rfl) (by kernel_rfl) (by kernel_rfl)) ?_
  intro W base args ds gs before hval0 hW hcnd _
  have hval : ∀ (j : Nat) t v, Try.f3.params[j]? = some t → args[j]? = some v → Value.okWide Try.prog W .any base t v := hval0
  have hW' := hW
  obtain ⟨p, q, hA0, hV, rfl, hfz, hnd⟩ := hW
  have hA : DataW.TrodAll enc Try.prog W 0 (fun _ => true) true Try.f3.params.toList args.toList ds p := hA0
  rw [Try.params3] at hA hval
  obtain ⟨v0, vs0, d0, ds0, p0, q0, hargs, rfl, rfl, h0, r0⟩ := trodAll_cons hA
  obtain ⟨v1, vs1, d1, ds1, p1, q1, rfl, rfl, rfl, h1, r1⟩ := trodAll_cons r0
  obtain ⟨rfl, rfl, rfl⟩ := trodAll_nil r1
  obtain rfl : args = #[v0, v1] := by cases args; simp_all
  obtain ⟨rfl, rfl⟩ := trodVars_none hV
  obtain ⟨a0, len0, cap0, rfl⟩ := okWide_slice Try.underlying22 (hval 0 22 v0 rfl rfl)
  have k0 := h0
  have lt0 : ∀ x ∈ p0, x.block < W.heap.size := by obtain ⟨m, hm⟩ := k0; exact DataW.trod_lt m _ _ _ hm
  obtain ⟨l0, w0⟩ : ∃ ds : List Pd, ds.length = len0 ∧ PredRow W W.heap.size (.slice a0 len0 cap0) ds := by
    obtain ⟨fuel, hf⟩ := h0
    exact preds_of hf
  obtain ⟨a1, len1, cap1, rfl⟩ := okWide_slice Try.underlying23 (hval 1 23 v1 rfl rfl)
  have k1 := h1
  have lt1 : ∀ x ∈ p1, x.block < W.heap.size := by obtain ⟨m, hm⟩ := k1; exact DataW.trod_lt m _ _ _ hm
  obtain ⟨l1, w1⟩ : ∃ ds : List Pm, ds.length = len1 ∧ TrRow W W.heap.size (.slice a1 len1 cap1) ds := by
    obtain ⟨fuel, hf⟩ := h1
    obtain ⟨ds, e1, e2, _⟩ := points_of hf
    exact ⟨ds, e1, e2⟩
  clear hA0 hval0
  refine (walk a0 len0 cap0 l0 a1 len1 cap1 l1 W w0 w1).mono fun e W' ⟨he, bel⟩ => ?_
  subst he
  exact ⟨_, rfl, _, _, _, [], _, [], hW', trodAll_mk1 (shut_bool Try.underlying4 _), (trodAll_cons_mk (Below.trod laidOut (by kernel_rfl) (of_decide_eq_true (by kernel_rfl)) k0 bel lt0) (trodAll_cons_mk (Below.trod laidOut (by kernel_rfl) (of_decide_eq_true (by kernel_rfl)) k1 bel lt1) (trodAll_mk0))), rfl, bel.frame _, fun h => by cases h⟩

theorem over : Rows.traceChecksRow.holds Try.pinned (OpenSpec.ofChange Rows.traceChecksSpec) :=
  OpenClaim.holds_of_wide 3 Try.f3 rfl rfl rfl rfl rfl rfl rfl ⟨rfl, rfl, rfl, rfl, rfl⟩ rfl rfl rfl rfl rfl (by kernel_rfl) Try.func3 (by kernel_rfl)
    (of_decide_eq_true (by kernel_rfl)) (by unfold Func.isWrapper; first | (rw [if_pos (by decide +kernel)]; kernel_rfl) | (rw [if_neg (by decide +kernel)]; exact ⟨rfl, rfl⟩))
    (fun os started H enc _ => lifted os started H enc)

theorem proved : Rows.TraceChecksSaid := over
#print axioms proved
end Go.Proofs.Ytcegnkbafbepbaa.traceChecks
