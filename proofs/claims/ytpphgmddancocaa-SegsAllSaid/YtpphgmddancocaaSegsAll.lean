/-
  At every slice of bytes the law that the parts have all bytes answers true, and nothing that lay in memory has changed. No condition.
-/
import Derived.Test.YtpphgmddancocaaRows
import Derived.WalkKit
import Derived.ProofKit
import Derived.OpenShut
import Derived.ShutString
import Derived.ChangeOld
import Derived.Below
import Derived.Deep.QuietTactic
import Derived.BigQuiet
import Derived.Deep.RegionHeld3
import Derived.Deep.RegionHeldLaw
import Derived.IntWalk
import Derived.Test.YtpphgmddancocaaSegsFixed
import Derived.Test.YtpphgmddancocaaArg
namespace Go.Proofs.Ytpphgmddancocaa.segsAll
open Go.Proofs.Ytpphgmddancocaa
open Go.ChangeShapes Go.WideShapes Go.ChangeAt Go.RowKit
open Go.ChangeMaps (open_string shut_string)
set_option linter.unusedVariables false

theorem own : ownKnob Try.prog.godebug = none := by kernel_rfl
theorem laidOut : laidOutB Try.prog = true := by kernel_rfl

set_option maxRecDepth 100000 in
set_option maxHeartbeats 1000000 in
theorem walk (a0 : Option Addr) (len0 cap0 : Nat) (z0 : List Int) (w : World) (w0 : IsRow .u8 w a0 len0 cap0 z0) :
    Calls Try.prog 8 #[.slice a0 len0 cap0] w fun e w' => e = .returned (.bool true) ∧ Below w.heap.size w w' := by
  obtain ⟨xs, rfl, hrow, hbx⟩ := Row.of_arg w0
  clear w0
  by_cases hgt : 1000 < xs.length
  · have hgi : (1000 : Int) < (xs.length : Int) := by omega
    go_enter Try.func8, Try.ntmps8
    go_wp2_with fail
    refine (sfix_any _).mono ?_
    rintro e w3 ⟨rfl, hb3⟩
    go_wp2_with fail
    go_ret
    exact ⟨rfl, hb3⟩
  have hle : (xs.length : Int) ≤ 1000 := by omega
  have hlc0 : xs.length ≤ cap0 ∧ cap0 ≤ 9223372036854775807 := by
    obtain ⟨_, _, hv, q1, q2, _⟩ := hrow
    injection hv with _ _ e3
    subst e3
    unfold maxLen at q2
    exact ⟨q1, by omega⟩
  obtain ⟨hlc, hcm⟩ := hlc0
  have HOF := Lib.hid (fun W h => of_any a0 cap0 xs (by omega) W h hbx)
  have HLE := Lib.hid (fun l (h : PartsS xs 0 l) => (h.tiled hbx (Nat.zero_le _)))
  have HBX := Lib.hid hbx
  have HROW := Lib.hid hrow
  clear hrow hbx
  go_enter Try.func8, Try.ntmps8
  go_wp2_with fail
  refine (HOF.out _ HROW.out).mono ?_
  rintro e w1 ⟨v, ps, rfl, hpp, hsg, hb1⟩
  obtain ⟨A, c, rfl, hc, hm⟩ := hsg.form
  have HT0 := Lib.hid (HLE.out _ hpp)
  have HSG := Lib.hid hsg
  have HB1 := Lib.hid hb1
  clear hpp hsg hb1 HLE HOF
  obtain ⟨N, hN⟩ : ∃ N, ps.length = N := ⟨_, rfl⟩
  have HN := Lib.hid hN
  rw [hN] at hc HSG ⊢
  clear hN
  obtain ⟨L, hL⟩ : ∃ L, xs.length = L := ⟨_, rfl⟩
  have HL := Lib.hid hL
  rw [hL] at hgt hle hlc HROW ⊢
  clear hL
  go_wp2_with fail
  go_loopg [3, 4, 20] N (fun g t s i wr => ∃ (k a : Nat) (sk : Bool), k + g = N ∧ a ≤ L ∧ i = .int .i64 k ∧ t = .int .i64 a ∧ s = .bool sk ∧ Hid (Tiled xs a sk ((ps.map (·.s)).drop k)) ∧ Below w1.heap.size w1 wr)
  case atStart => exact ⟨0, 0, false, by omega, Nat.zero_le _, rfl, rfl, rfl, HT0, Below.refl _ _⟩
  case round =>
    obtain ⟨k, a, sk, hk, ha, rfl, rfl, rfl, HT, hbw⟩ := hrel
    clear HT0
    by_cases hlt : k < N
    · obtain ⟨p, hp⟩ : ∃ p, ps[k]? = some p := ⟨_, List.getElem?_eq_getElem (by rw [HN.out]; exact hlt)⟩
      have hdr : (ps.map (·.s)).drop k = p.s :: (ps.map (·.s)).drop (k + 1) := by
        obtain ⟨hkl, he⟩ := List.getElem?_eq_some_iff.1 (show (ps.map (·.s))[k]? = some p.s by rw [List.getElem?_map, hp]; rfl)
        rw [List.drop_eq_getElem_cons hkl, he]
      have ht := HT.out
      rw [hdr] at ht
      obtain ⟨hfa, hn1, hn2, hsf, hfr, hnb, hT2⟩ := ht
      rw [HL.out] at hn2
      obtain ⟨b, o, rfl, hb, x0, x1, x2, x3, x4, hr⟩ := (HSG.out.row.below hbw).at hp
      obtain ⟨⟨sf, sn, si, sk2, sp⟩, pA, pc⟩ := p
      simp only at hfa hn1 hn2 hsf hfr hnb hT2 x0 x1 x2 x3 x4
      subst hfa
      have hwa : Below w1.heap.size w1 (wr.alloc (.cells #[.int .i64 sf, .int .i64 sn, .bool si, .int .i64 sk2, .slice pA sp.length pc] 57)) := hbw.alloc hbw.size _
      have hr2 : Row (wr.alloc (.cells #[.int .i64 sf, .int .i64 sn, .bool si, .int .i64 sk2, .slice pA sp.length pc] 57)) (wr.alloc (.cells #[.int .i64 sf, .int .i64 sn, .bool si, .int .i64 sk2, .slice pA sp.length pc] 57)).heap.size (.slice pA sp.length pc) sp :=
        (Row.below hr ((Below.refl _ _).alloc (Nat.le_refl _) _)).more (by simp)
      have HR2 := Lib.hid hr2
      have HWA := Lib.hid hwa
      have HT2 := Lib.hid hT2
      have HFR := Lib.hid hfr
      have HNB := Lib.hid hnb
      have hn1i : (1 : Int) ≤ sn := by omega
      have hn1j : ¬ (sn : Int) < 1 := by omega
      have hn2i : (sn : Int) ≤ (L : Int) - sf := by omega
      have hn2j : ¬ (L : Int) - sf < sn := by omega
      clear hp hdr hfr hnb hT2 hr hr2 hwa hbw HT
      cases si with
      | true =>
        clear hsf
        obtain ⟨hkd, hpl, hpb, henc⟩ := HFR.out rfl
        have hlen : (encFr sk2 sp).length = sn := by
          rw [← henc, List.length_take, List.length_drop, HL.out]
          omega
        have HP := Lib.hid (fun W h => fput_any sk2 hkd pA pc sp hpl hpb W h)
        obtain ⟨ad, rfl⟩ : ∃ ad, a0 = some ad := by
          obtain ⟨_, _, hv, _, _, _, h4⟩ := HROW.out
          injection hv with e1 _ _
          obtain ⟨bb, oo, e2, _⟩ := h4 (by rw [HL.out]; omega)
          exact ⟨_, e1.trans e2⟩
        have hrd : Row w w.heap.size (.slice (some (ad.add sf)) sn (cap0 - sf)) (encFr sk2 sp) := by
          have h1 := HROW.out
          rw [← HL.out] at h1
          have h2 := h1.drop (k := sf) (by rw [HL.out]; omega)
          rw [if_neg (by omega), Option.map_some] at h2
          have h3 := h2.take (k := sn) (by rw [List.length_drop, HL.out]; omega)
          rw [henc, hlen] at h3
          exact h3
        have HRD := Lib.hid hrd
        have HLEN := Lib.hid hlen
        clear hkd hpl hpb henc hrd hlen HFR HNB
        have hcs : ¬ cap0 = sf := by omega
        have i1 : (sf : Int) + sn ≤ L := by omega
        have i2 : (sf : Int) + sn ≤ cap0 := by omega
        have i3 : (sf : Int) ≤ (sf : Int) + sn := by omega
        have i0 : (0 : Int) ≤ sf := by omega
        have i4 : (0 : Int) ≤ (sf : Int) + sn := by omega
        cases sk
        all_goals
          go_wp2_with fail
          refine (HP.out _ HR2.out).mono ?_
          rintro e w2 ⟨cap2, g2, rfl, hown2, hb2⟩
          rw [HLEN.out] at hown2
          simp only [HLEN.out]
          have b2 : Below w1.heap.size w1 w2 := HWA.out.trans (hb2.mono HWA.out.size)
          have hq : Held w2 wr.heap.size 57 #[.int .i64 sf, .int .i64 sn, .bool true, .int .i64 sk2, .slice pA sp.length pc] := (hb2.block wr.heap.size (by simp)).trans (heap_alloc_new wr _)
          have q0 := hq.cell 0
          have q1 := hq.cell 1
          have q2 := hq.cell 2
          simp at q0 q1 q2
          have hall : ∀ W, Below w2.heap.size w2 W → (convert 22 9 (.slice (some (ad.add sf)) sn (cap0 - sf))).run Try.prog W = .ok (.string (strOfNums (encFr sk2 sp))) W ∧ (convert 22 9 (.slice (some ⟨g2, 0, none⟩) sn cap2)).run Try.prog W = .ok (.string (strOfNums (encFr sk2 sp))) W := fun W h => by
            have t1 := (HRD.out.below (HB1.out.trans ((b2.trans (h.mono b2.size)).mono HB1.out.size))).convert (P := Try.prog) 22 5 9 Try.underlying22 Try.underlying5 Try.underlying9
            have t2 := ((Row.of_own hown2).below h).convert (P := Try.prog) 22 5 9 Try.underlying22 Try.underlying5 Try.underlying9
            exact ⟨t1, t2⟩
          have HALL := Lib.hid hall
          have HB2 := Lib.hid b2
          have HQ := Lib.hid hq
          clear hb2 b2 hall hq hown2
          go_wp2_with fail
          have hwr : IntKind.i64.wrap ((sf : Int) + sn) = (sf : Int) + sn := IntWalk.i64_in _ (by omega)
          have htn : ((sf : Int) + sn).toNat = sf + sn := by omega
          have hsb : sf + sn - sf = sn := by omega
          go_region_held (fun W => Below w2.heap.size w2 W ∧ W.cell? ⟨wr.heap.size, 1, none⟩ = some (.int .i64 sn) ∧ (convert 22 9 (.slice (some (ad.add sf)) sn (cap0 - sf))).run Try.prog W = .ok (.string (strOfNums (encFr sk2 sp))) W ∧ (convert 22 9 (.slice (some ⟨g2, 0, none⟩) sn cap2)).run Try.prog W = .ok (.string (strOfNums (encFr sk2 sp))) W)
            (first | exact ⟨Below.refl _ _, q1, HALL.out _ (Below.refl _ _)⟩ | exact ⟨(Below.refl _ _).drew, q1, HALL.out _ (Below.refl _ _).drew⟩)
            (fail)
          clear hwr htn hsb
          go_wp2_with fail
          have hq3 : Held w2.drew wr.heap.size 57 #[.int .i64 sf, .int .i64 sn, .bool true, .int .i64 sk2, .slice pA sp.length pc] := HQ.out
          have hb3 : Below w1.heap.size w1 w2.drew := HB2.out.drew
          clear q0 q1 q2
          generalize w2.drew = w3 at hq3 hb3 ⊢
          have q1 := hq3.cell 1
          have q2 := hq3.cell 2
          simp at q1 q2
          clear hq3
          have HB3 := Lib.hid hb3
          clear hb3
          go_loopg [9] 0 (fun g i wx => g = 0 ∧ i = .int .i64 sf ∧ w3 = wx)
          case atStart => exact ⟨rfl, rfl, rfl⟩
          case round =>
            obtain ⟨rfl, rfl, rfl⟩ := hrel
            go_wp2_with fail
            have hwr : IntKind.i64.wrap ((sf : Int) + sn) = (sf : Int) + sn := IntWalk.i64_in _ (by omega)
            go_quiet (fail)
            clear hwr
            go_wp2_with fail
            go_roundg (N - (k + 1))
            case measure => omega
            case rel => exact ⟨k + 1, sf + sn, false, by omega, by omega, by go_num, by go_num, rfl, HT2, below_drewN HB3.out _⟩
      | false =>
        have hsk : sk = false := by
          cases sk
          · rfl
          · exact absurd (hsf rfl) (by simp)
        subst hsk
        clear hsf HFR HR2
        obtain ⟨ad, rfl⟩ : ∃ ad, a0 = some ad := by
          obtain ⟨_, _, hv, _, _, _, h4⟩ := HROW.out
          injection hv with e1 _ _
          obtain ⟨bb, oo, e2, _⟩ := h4 (by rw [HL.out]; omega)
          exact ⟨_, e1.trans e2⟩
        have HGET : Hid (∀ (W : World) (j : Nat), Below w.heap.size w W → j < L → Calls Try.prog 20 #[.slice (some (ad.add j)) (L - j) (cap0 - j)] W (FGot W (getFr (xs.drop j)))) := Lib.hid (fun W j hW hj => by
          have h1 := HROW.out
          rw [← HL.out] at h1
          have h2 := h1.drop (k := j) (by rw [HL.out]; omega)
          rw [if_neg (by omega), Option.map_some] at h2
          have h3 := fget_any (some (ad.add j)) (cap0 - j) (xs.drop j) (by rw [List.length_drop, HL.out]; omega) W ((h2.below hW).more hW.size) (drop_bytes HBX.out j)
          rw [List.length_drop, HL.out] at h3
          exact h3)
        have i1 : (sf : Int) + sn ≤ L := by omega
        have i0 : (0 : Int) ≤ sf := by omega
        go_wp2_with fail
        have hq : Held (wr.alloc (.cells #[.int .i64 sf, .int .i64 sn, .bool false, .int .i64 sk2, .slice pA sp.length pc] 57)) wr.heap.size 57 #[.int .i64 sf, .int .i64 sn, .bool false, .int .i64 sk2, .slice pA sp.length pc] := heap_alloc_new wr _
        generalize wr.alloc (.cells #[.int .i64 sf, .int .i64 sn, .bool false, .int .i64 sk2, .slice pA sp.length pc] 57) = w2 at hq HWA ⊢
        obtain ⟨Q, hQ⟩ : ∃ Q, wr.heap.size = Q := ⟨_, rfl⟩
        rw [hQ] at hq ⊢
        clear hQ
        have HQ := Lib.hid hq
        clear hq
        go_loopg [9] sn (fun g i wx => ∃ j : Nat, j + g = sf + sn ∧ sf ≤ j ∧ i = .int .i64 j ∧ Below w2.heap.size w2 wx)
        case atStart => exact ⟨sf, by omega, Nat.le_refl _, rfl, Below.refl _ _⟩
        case round =>
          obtain ⟨j, hjg, hj, rfl, hbx⟩ := hrel
          have hq := HQ.out.below hbx HQ.out.lt
          have q1 := hq.cell 1
          have q2 := hq.cell 2
          simp at q1 q2
          clear hq
          by_cases hjl : j < sf + sn
          · have hji : (j : Int) < (sf : Int) + sn := by omega
            have j1 : (j : Int) ≤ L := by omega
            have j2 : (j : Int) ≤ cap0 := by omega
            have hcj : ¬ cap0 = j := by omega
            have hbw2 := HB1.out.trans ((HWA.out.trans (hbx.mono HWA.out.size)).mono HB1.out.size)
            have HG := Lib.hid (HGET.out _ j hbw2 (by omega))
            have hne : (getFr (xs.drop j)).2.2 ≠ 0 := HNB.out (by simp) j hj hjl
            obtain ⟨⟨⟨kd, pl⟩, nn, er⟩, ht⟩ : ∃ t, getFr (xs.drop j) = t := ⟨_, rfl⟩
            rw [ht] at HG hne
            have hne2 : (er == 0) = false := by simpa using hne
            have HBX2 := Lib.hid hbx
            clear ht hne hbw2 hbx
            go_wp2_with fail
            refine HG.out.mono ?_
            rintro e w3 ⟨A3, c3, rfl, _, hb3⟩
            simp only
            have HB3 := Lib.hid (HBX2.out.trans (hb3.mono HBX2.out.size))
            have HB4 := Lib.hid (HB3.out.alloc HB3.out.size (.cells #[.int .i64 kd, .slice A3 pl.length c3] 33))
            clear hb3 q1 q2
            go_wp2_with fail
            go_roundg (sf + sn - (j + 1))
            case measure => omega
            case rel => exact ⟨j + 1, by omega, by omega, by go_num, HB4.out⟩
          · obtain rfl : j = sf + sn := by omega
            have hbw3 := HWA.out.trans (hbx.mono HWA.out.size)
            have HB3 := Lib.hid hbw3
            have hcast : ((sf + sn : Nat) : Int) = (sf : Int) + sn := by omega
            rw [hcast]
            clear hbw3 hbx hcast
            go_wp2_with fail
            have hwr : IntKind.i64.wrap ((sf : Int) + sn) = (sf : Int) + sn := IntWalk.i64_in _ (by omega)
            go_quiet (fail)
            clear hwr
            go_wp2_with fail
            go_roundg (N - (k + 1))
            case measure => omega
            case rel => exact ⟨k + 1, sf + sn, true, by omega, by omega, by go_num, by go_num, rfl, HT2, below_drewN HB3.out _⟩
    · obtain rfl : k = N := by omega
      have ht := HT.out
      rw [List.drop_of_length_le (by rw [List.length_map, HN.out]; exact Nat.le_refl _)] at ht
      have haL : a = L := by rw [← HL.out]; exact ht
      subst haL
      have HB3 := Lib.hid (HB1.out.trans (hbw.mono HB1.out.size))
      clear ht HT hbw
      go_wp2_with fail
      refine (sfix_any _).mono ?_
      rintro e w3 ⟨rfl, hb3⟩
      have HB4 := Lib.hid (HB3.out.trans (hb3.mono HB3.out.size))
      clear hb3
      go_wp2_with fail
      go_ret
      exact ⟨rfl, HB4.out⟩

set_option maxRecDepth 100000 in
theorem lifted (os : Os) (started : os.Started) (H : Type) (enc : TypeId × Value → H) :
    ReturnsInHanded {} Try.checked os 8 .any (Rows.segsAllSpec.pre6 enc Try.prog Try.f8 Rows.segsAllRow.domain false) (Rows.segsAllSpec.post enc Try.prog Try.f8 false true false false) := by
  refine returnsInHanded_of_change (C := Try.checked) own started (by kernel_rfl) Try.func8
    (ChangeSpec.witness6 (enc := enc) (C := Try.checked) false ⟨#[], #[.slice none 0 0], []⟩ 8 (by kernel_rfl) (by kernel_rfl) (by kernel_rfl) (by kernel_rfl)) ?_
  intro W base args ds gs before hval0 hW hcnd _
  have hval : ∀ (j : Nat) t v, Try.f8.params[j]? = some t → args[j]? = some v → Value.okWide Try.prog W .any base t v := hval0
  have hW' := hW
  obtain ⟨p, q, hA0, hV, rfl, hfz, hnd⟩ := hW
  have hA : DataW.TrodAll enc Try.prog W 0 (fun _ => true) true Try.f8.params.toList args.toList ds p := hA0
  rw [Try.params8] at hA hval
  obtain ⟨v0, vs0, d0, ds0, p0, q0, hargs, rfl, rfl, h0, r0⟩ := trodAll_cons hA
  obtain ⟨rfl, rfl, rfl⟩ := trodAll_nil r0
  obtain rfl : args = #[v0] := by cases args; simp_all
  obtain ⟨rfl, rfl⟩ := trodVars_none hV
  obtain ⟨a0, len0, cap0, rfl⟩ := okWide_slice Try.underlying22 (hval 0 22 v0 rfl rfl)
  have k0 := h0
  have lt0 : ∀ x ∈ p0, x.block < W.heap.size := by obtain ⟨m, hm⟩ := k0; exact DataW.trod_lt m _ _ _ hm
  obtain ⟨z0, w0⟩ : ∃ zs, IsRow .u8 W a0 len0 cap0 zs := by
    obtain ⟨fuel, hf⟩ := h0
    rcases open_ints Try.underlying22 Try.underlying5 (by kernel_rfl) hf with ⟨hcs, _⟩ | ⟨x, l, c, zs, hcs, _, hl, hm, hz, _, hcell, hwz⟩
    · simp [Value.cells] at hcs
      obtain ⟨rfl, rfl, rfl⟩ := hcs
      exact ⟨[], .inl ⟨rfl, rfl, rfl, rfl⟩⟩
    · simp [Value.cells] at hcs
      obtain ⟨rfl, rfl, rfl⟩ := hcs
      exact ⟨zs, .inr ⟨_, rfl, hl, hm, by simpa using hz, hcell, hwz⟩⟩
  clear hA0 hval0
  refine (walk a0 len0 cap0 z0 W w0).mono fun e W' ⟨he, bel⟩ => ?_
  subst he
  exact ⟨_, rfl, _, _, _, [], _, [], hW', trodAll_mk1 (shut_bool Try.underlying4 _), (trodAll_cons_mk (Below.trod laidOut (by kernel_rfl) (of_decide_eq_true (by kernel_rfl)) k0 bel lt0) trodAll_mk0), rfl, bel.frame _, fun h => by cases h⟩

theorem over : Rows.segsAllRow.holds Try.pinned (OpenSpec.ofChange Rows.segsAllSpec) :=
  OpenClaim.holds_of_wide 8 Try.f8 rfl rfl rfl rfl rfl rfl rfl ⟨rfl, rfl, rfl, rfl, rfl⟩ rfl rfl rfl rfl rfl (by kernel_rfl) Try.func8 (by kernel_rfl)
    (of_decide_eq_true (by kernel_rfl)) (by unfold Func.isWrapper; first | (rw [if_pos (by decide +kernel)]; kernel_rfl) | (rw [if_neg (by decide +kernel)]; exact ⟨rfl, rfl⟩))
    (fun os started H enc _ => lifted os started H enc)

theorem proved : Rows.SegsAllSaid := over
#print axioms proved
end Go.Proofs.Ytpphgmddancocaa.segsAll

