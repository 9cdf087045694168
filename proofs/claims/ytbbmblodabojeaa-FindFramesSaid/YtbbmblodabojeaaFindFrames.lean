/-
  At every slice of bytes and every slice of frames the law on frames one behind the other answers true, and nothing that lay in memory has changed. No condition.
-/
import Derived.Test.YtbbmblodabojeaaRows
import Derived.WalkKit
import Derived.ProofKit
import Derived.OpenShut
import Derived.ShutString
import Derived.ChangeOld
import Derived.Below
import Derived.Deep.LoopGhost
import Derived.Deep.RegionHeld
import Derived.Test.YtbbmblodabojeaaFindList
namespace Go.Proofs.Ytbbmblodabojeaa.findFrames
open Go.Proofs.Ytbbmblodabojeaa
open Go.ChangeShapes Go.WideShapes Go.ChangeAt Go.RowKit
open Go.ChangeMaps (open_string shut_string)
set_option linter.unusedVariables false

theorem own : ownKnob Try.prog.godebug = none := by kernel_rfl
theorem laidOut : laidOutB Try.prog = true := by kernel_rfl

set_option maxRecDepth 100000 in
set_option maxHeartbeats 1000000 in
theorem walk (a0 : Option Addr) (len0 cap0 : Nat) (z0 : List Int) (a1 : Option Addr) (len1 cap1 : Nat) (l : List (Int × List Int)) (w : World) (w0 : IsRow .u8 w a0 len0 cap0 z0) (w1 : IsFrames w a1 len1 cap1 l) :
    Calls Try.prog 9 #[.slice a0 len0 cap0, .slice a1 len1 cap1] w fun e w' => e = .returned (.bool true) ∧ Below w.heap.size w w' := by
  obtain ⟨xs, rfl, hrow, hbx⟩ := Row.of_arg w0
  obtain ⟨rfl, hl1, hl2, hl3, hl4⟩ := id w1
  unfold maxLen at hl2
  have hll : l.length ≤ 9223372036854775807 := by omega
  have hlx : xs.length ≤ 9223372036854775807 := by
    obtain ⟨_, _, hv, q1, q2, _⟩ := hrow
    unfold maxLen at q2
    omega
  have HOP := Lib.hid (open_any a0 cap0 xs hlx w hrow hbx 0 (by omega) (by omega))
  have HROW := Lib.hid hrow; clear hrow
  have HBX := Lib.hid hbx; clear hbx
  have HL := Lib.hid w1; clear w1
  have HL3 := Lib.hid hl3; clear hl3
  have HL4 := Lib.hid hl4; clear hl4
  have hR : nextI true xs 0 = -1 ∨ ∃ m : Nat, nextI true xs 0 = m := by
    rcases next_cases true xs 0 (Nat.zero_le _) with ⟨e, _⟩ | ⟨m, e, _⟩
    · exact .inl e
    · exact .inr ⟨m, e⟩
  rcases hR with hR | ⟨m, hR⟩
  rotate_left
  · rw [hR] at HOP
    have d0 : decide ((0 : Int) ≤ (m : Int)) = true := by simp
    clear hR
    go_enter Try.func9, Try.ntmps9
    go_wp2_with fail
    refine HOP.out.mono ?_
    rintro e w1 ⟨rfl, hb1⟩
    have HB1 := Lib.hid hb1
    clear hb1
    rw [d0]
    clear d0
    go_wp2_with fail
    refine (nfix_any _).mono ?_
    rintro e w2 ⟨rfl, hb2⟩
    have HB2 := Lib.hid (HB1.out.trans (hb2.mono HB1.out.size))
    clear hb2
    go_wp2_with fail
    go_ret
    exact ⟨rfl, HB2.out⟩
  rw [hR] at HOP
  have HR := Lib.hid hR
  clear hR
  have d0 : decide ((0 : Int) ≤ -1) = false := by decide
  by_cases hbig : 100 < xs.length ∨ 6 < l.length
  · have hbig' : 100 < xs.length ∨ (xs.length ≤ 100 ∧ 6 < l.length) := by omega
    clear hbig
    rcases hbig' with hbig | ⟨hs, hbig⟩
    all_goals
      have hbi : (_ : Int) < (_ : Int) := Int.ofNat_lt.2 hbig
      go_enter Try.func9, Try.ntmps9
      go_wp2_with fail
      refine HOP.out.mono ?_
      rintro e w1 ⟨rfl, hb1⟩
      have HB1 := Lib.hid hb1
      clear hb1
      rw [d0]
      go_wp2_with fail
      refine (nfix_any _).mono ?_
      rintro e w2 ⟨rfl, hb2⟩
      have HB2 := Lib.hid (HB1.out.trans (hb2.mono HB1.out.size))
      clear hb2
      go_wp2_with fail
      go_ret
      exact ⟨rfl, HB2.out⟩
  have hs1 : xs.length ≤ 100 := by omega
  have hs2 : l.length ≤ 6 := by omega
  have hi1 : (xs.length : Int) ≤ 100 := by omega
  have hi2 : (l.length : Int) ≤ 6 := by omega
  clear hbig hll hlx hl1 hl2
  obtain ⟨i0, hi, hz0, hz1, hz2⟩ := info_parts Try.infoU8
  obtain ⟨j0, hj, hj0, hj1, hj2⟩ := info_parts Try.infoInt
  go_enter Try.func9, Try.ntmps9
  go_wp2_with fail
  refine HOP.out.mono ?_
  rintro e w1 ⟨rfl, hb1⟩
  have HB1 := Lib.hid hb1
  clear hb1
  rw [d0]
  clear d0
  go_wp2_with (at_builtin; refine wpList_append_row _ rfl _ _ 22 rfl w1.heap.size 5 i0 (.int .u8 0) Try.underlying22 hi hz0 hz1 hz2 rfl (.slice (some ⟨w1.heap.size, 0, none⟩) 0 0) 0 [] (by rfl) (own_none _ _ _ (Nat.le_refl _)) w.heap.size _ xs rfl (HROW.out.below (HB1.out.alloc HB1.out.size _)) (by omega) (by simp) ?_; intro v2 w2 hown2 hg2 hn2; have hb2 := (HB1.out.alloc HB1.out.size _).grown hg2 (by simp; have := HB1.out.size; omega) (fun k hk => by simp [Value.ownBlock] at hk; have := HB1.out.size; omega); have HB2 := Lib.hid hb2; have hzw2 := hg2.size; rw [Nat.zero_add, List.nil_append] at hown2; rw [World.size_alloc] at hzw2; have HOWN2 := Lib.hid hown2; clear hown2 hg2 hn2 hb2)
  obtain ⟨A2, c2, hv2⟩ := own_form HOWN2.out
  subst hv2
  have hzw1 := HB1.out.size
  go_loopg [7, 8, 44] l.length (fun g b0 p0 i0' wr => ∃ (i N : Nat) (A : Option Addr) (c : Nat) (A' : Option Addr) (c' : Nat), b0 = .slice A N c ∧ p0 = .slice A' i c' ∧ i0' = .int .i64 i ∧ i ≤ l.length ∧ N ≤ 100 + 220 * i ∧ Hid (l.length - i = g) ∧ Hid (N = (xs ++ catFr (l.take i)).length) ∧ Hid (∀ f ∈ l.take i, Fit f) ∧
    wr.ownsRow w1.heap.size 5 1 (.slice A N c) N ((xs ++ catFr (l.take i)).map (.int .u8)) ∧ wr.ownsRow w1.heap.size 3 1 (.slice A' i c') i ((placesF xs.length (l.take i)).map fun n => .int .i64 (n : Nat)) ∧ Below w.heap.size w wr ∧ w1.heap.size ≤ wr.heap.size)
  case atStart => exact ⟨0, xs.length, A2, c2, none, 0, rfl, rfl, rfl, Nat.zero_le _, by omega, Lib.hid rfl, Lib.hid (by simp [catFr]), Lib.hid (by simp), by simpa [catFr] using HOWN2.out, World.ownsRow_nil _ _ _ _, HB2.out, by omega⟩
  case round =>
    obtain ⟨i, N, A, c, A', c', rfl, rfl, rfl, hil, hN, HG, HNE, HFIT, hown, hownp, hbw, hzw⟩ := hrel
    have HBW := Lib.hid hbw
    have HOWN := Lib.hid hown
    have HOWNP := Lib.hid hownp
    clear hbw hown hownp HOWN2 HB2 HOP
    by_cases hlt : i < l.length
    · obtain ⟨⟨kk, pp⟩, hf⟩ : ∃ f, l[i]? = some f := ⟨l[i], List.getElem?_eq_getElem hlt⟩
      have hmem : (kk, pp) ∈ l := List.mem_of_getElem? hf
      obtain ⟨hkb, hpl, hpb⟩ := HL4.out _ hmem
      obtain ⟨b, o, A3, c3, rfl, q0, q1, q2⟩ : ∃ b o A3 c3, a1 = some ⟨b, o, none⟩ ∧ wr.cell? ⟨b, o + i * 2, none⟩ = some (.int .i64 kk) ∧ wr.cell? ⟨b, o + i * 2 + 1, none⟩ = some (.slice A3 pp.length c3) ∧ Row wr wr.heap.size (.slice A3 pp.length c3) pp := by
        obtain ⟨_, _, _, h4, _⟩ := HL.out.below HBW.out
        obtain ⟨b, o, e, _, hc⟩ := h4 (by omega)
        obtain ⟨g0, A3, c3, g1, g2⟩ := hc i _ hf
        exact ⟨b, o, A3, c3, e, g0, g1, g2⟩
      have HQ2 := Lib.hid q2
      have HF := Lib.hid hf
      have HPB := Lib.hid hpb
      simp only at hkb hpl
      clear q2 hf hpb hmem
      have hfr : Held (wr.alloc (.cells #[.int .i64 kk, .slice A3 pp.length c3] 36)) wr.heap.size 36 #[.int .i64 kk, .slice A3 pp.length c3] := heap_alloc_new wr _
      have HBA : Hid (Below wr.heap.size wr (wr.alloc (.cells #[.int .i64 kk, .slice A3 pp.length c3] 36))) := Lib.hid ((Below.refl _ _).alloc (Nat.le_refl _) _)
      by_cases hfit : (kk = 1 ∨ kk = 2) ∧ pp.length ≤ 4096
      · have HP := Lib.hid (fput_any kk hfit.1 A3 c3 pp hfit.2 HPB.out _ ((HQ2.out.below HBA.out).more HBA.out.size))
        obtain ⟨E, hE⟩ : ∃ E, (encFr kk pp).length = E := ⟨_, rfl⟩
        rw [hE] at HP
        have HE := Lib.hid hE
        have HFT := Lib.hid hfit
        clear hE hfit hfr
        by_cases hE2 : E ≤ 220
        · have hEi : (E : Int) ≤ 220 := by omega
          go_wp2_with fail
          refine HP.out.mono ?_
          rintro e w4 ⟨cap4, g4, rfl, hown4, hb4⟩
          have hb4' := HBA.out.trans (hb4.mono HBA.out.size)
          have HC4 := Lib.hid hown4
          have hg4 := (hown4.lt g4 rfl).1
          rw [World.size_alloc] at hg4
          have HOWN4 := Lib.hid (own_below HOWN.out hb4')
          have HOWNP4 := Lib.hid (own_below HOWNP.out hb4')
          have HB4 := Lib.hid (HBW.out.trans (hb4'.mono HBW.out.size))
          have hz4 := hb4'.size
          have hEp : 0 < E := by rw [← HE.out]; have := encFr_pos kk pp; omega
          clear hown4 hb4 hb4'
          go_wp2_with (first
            | (at_builtin; refine wpList_append_lies _ rfl (.tmp 61) (.tmp 64) 59 rfl w1.heap.size 3 j0 (.int .i64 0) 1 8 Try.underlying59 hj hj0 hj1 hj2 rfl (by decide) _ i _ rfl (HOWNP4.out.alloc _) ⟨w4.heap.size, 0, none⟩ 1 1 [.int .i64 N] rfl rfl (cell_one_new _ _ _) (by simp [Value.oneCell']) (by decide) (by simp only [maxLen]; omega) (by omega) (by simp; omega) _ rfl ?_; intro g5 cap5 w5 hown5 hg5 hlie5 hlt5; have hownb5 := (HOWN4.out.alloc (.cells #[.int .i64 N] 3)).kept hg5 (own_apart HOWN4.out HOWNP4.out (by decide)); have hb5 := (HB4.out.alloc HB4.out.size (.cells #[.int .i64 N] 3)).grown hg5 (by simp; have := HB4.out.size; omega) (fun k hk => by have := HOWNP4.out.lt k hk; omega); have HOWNB5 := Lib.hid hownb5; have HOWNP5 := Lib.hid hown5; have HB5 := Lib.hid hb5; have hz5 := hg5.size; have HR5 : Hid (Row w5 w5.heap.size (.slice (some ⟨g4, 0, none⟩) E cap4) (encFr kk pp)) := Lib.hid (Row.of_own ((HC4.out.alloc (.cells #[.int .i64 N] 3)).kept hg5 (.inr (fun e => by have := (HOWNP.out.lt g4 e.symm).2; omega)))); rw [World.size_alloc] at hz5; clear hown5 hg5 hownb5 hb5)
            | (at_builtin; refine wpList_append_row _ rfl _ _ 22 rfl w1.heap.size 5 i0 (.int .u8 0) Try.underlying22 hi hz0 hz1 hz2 rfl _ N _ (by rfl) HOWNB5.out w5.heap.size _ (encFr kk pp) rfl HR5.out (by rw [HE.out]; omega) (by omega) ?_; intro v6 w6 hown6 hg6 hn6; rw [HE.out] at hown6; obtain ⟨A6, c6, hv6⟩ := own_form hown6; subst hv6; have HOWN6 := Lib.hid hown6; have HG6 := Lib.hid hg6; clear hown6 hg6 hn6))
          have htk : l.take (i + 1) = l.take i ++ [(kk, pp)] := by
            rw [List.take_succ_eq_append_getElem hlt]
            congr 2
            have := HF.out
            rw [List.getElem?_eq_getElem hlt] at this
            injection this
          have hcat : xs ++ catFr (l.take (i + 1)) = (xs ++ catFr (l.take i)) ++ encFr kk pp := by rw [htk, catFr_append, catFr, catFr, List.append_nil, List.append_assoc]
          have hpla : placesF xs.length (l.take (i + 1)) = placesF xs.length (l.take i) ++ [N] := by rw [htk, placesF_append, placesF, placesF, HNE.out, List.length_append]
          have hb6 := HB5.out.grown HG6.out (Nat.le_trans hzw1 (by omega)) (fun k hk => by have := HOWNB5.out.lt k hk; omega)
          have hp6 := HOWNP5.out.kept HG6.out (own_apart HOWNP5.out HOWNB5.out (by decide))
          have hz6 := HG6.out.size
          have HH := Lib.hid hcat
          have HPL := Lib.hid hpla
          have HTK := Lib.hid htk
          have HB6 := Lib.hid hb6
          have HP6 := Lib.hid hp6
          clear hcat hpla htk hb6 hp6
          go_wp2_with fail
          go_roundg (l.length - (i + 1))
          case measure => have := HG.out; omega
          case rel =>
            refine ⟨i + 1, N + E, A6, c6, _, _, rfl, rfl, by go_num, by omega, by omega, Lib.hid rfl, Lib.hid (by rw [HH.out, List.length_append, ← HNE.out, HE.out]), Lib.hid (fun f hf => ?_), by rw [HH.out, List.map_append]; exact HOWN6.out, by rw [HPL.out, List.map_append]; exact HP6.out, HB6.out, by omega⟩
            rw [HTK.out] at hf
            rcases List.mem_append.1 hf with hf | hf
            · exact HFIT.out f hf
            · obtain rfl : f = (kk, pp) := by simpa using hf
              exact HFT.out
        · have hEi : (220 : Int) < (E : Int) := by omega
          go_wp2_with fail
          refine HP.out.mono ?_
          rintro e w4 ⟨cap4, g4, rfl, hown4, hb4⟩
          have HB4 := Lib.hid (HBW.out.trans ((HBA.out.trans (hb4.mono HBA.out.size)).mono HBW.out.size))
          clear hown4 hb4
          go_wp2_with fail
          refine (nfix_any _).mono ?_
          rintro e w5 ⟨rfl, hb5⟩
          have HB5 := Lib.hid (HB4.out.trans (hb5.mono HB4.out.size))
          clear hb5
          go_wp2_with fail
          go_ret
          exact ⟨rfl, HB5.out⟩
      · have HP := Lib.hid (fun W => fput_bad kk A3 c3 pp hfit hpl W)
        clear hfit hfr
        go_wp2_with fail
        refine (HP.out _).mono ?_
        rintro e w4 ⟨rfl, hb4⟩
        have HB4 := Lib.hid (HBW.out.trans ((HBA.out.trans (hb4.mono HBA.out.size)).mono HBW.out.size))
        clear hb4
        go_wp2_with fail
        refine (nfix_any _).mono ?_
        rintro e w5 ⟨rfl, hb5⟩
        have HB5 := Lib.hid (HB4.out.trans (hb5.mono HB4.out.size))
        clear hb5
        go_wp2_with fail
        go_ret
        exact ⟨rfl, HB5.out⟩
    · obtain rfl : i = l.length := by omega
      have hne := HNE.out
      have hfit := HFIT.out
      have hown := HOWN.out
      have hownp := HOWNP.out
      rw [List.take_length] at hne hfit hown hownp
      have hbb : ∀ x ∈ xs ++ catFr l, 0 ≤ x ∧ x < 256 := fun x hx => by
        rcases List.mem_append.1 hx with h | h
        · exact HBX.out x h
        · exact catFr_bytes l (fun f hf => ⟨hfit f hf, (HL4.out f hf).2.2⟩) x h
      have hrb := Row.of_own hown
      have hrp := VRow.of_own hownp
      have hnx0 := next_ahead xs l HBX.out HR.out hfit
      have hcnt := count_frames xs l hfit
      have hcle := count_le (begI false (xs ++ catFr l)) (xs ++ catFr l).length
      have hct := fun A c W h => count_any A c (xs ++ catFr l) (by omega) W h hbb
      have hnx := fun A c W h f h1 h2 => next_any A c (xs ++ catFr l) (by omega) W h hbb f h1 h2
      have hat := fun A c W h k hk => at_in A c (xs ++ catFr l) (by omega) W h hbb k hk
      rw [← hne] at hct hcle hcnt hnx hat
      generalize countI (begI false (xs ++ catFr l)) N = cn at hct hcle hcnt
      have HNE' := Lib.hid hne
      clear HNE HFIT HOWN HOWNP
      have HNE := Lib.hid hne
      have HFIT := Lib.hid hfit
      have HCT := Lib.hid hct
      have HNX := Lib.hid hnx
      have HAT := Lib.hid hat
      have hni : (l.length : Int) ≤ (cn : Int) := by omega
      have HRB := Lib.hid hrb
      have HRP := Lib.hid hrp
      have HNX0 := Lib.hid hnx0
      clear hne hfit hown hownp hbb hrb hrp hct hnx hat hcnt hnx0 HNE'
      by_cases h0 : 0 < l.length
      · have h0i : (0 : Int) < (l.length : Int) := by omega
        have hn0 := HNX.out _ _ wr HRB.out 0 (by omega) (by omega)
        rw [HNX0.out h0] at hn0
        have HN0 := Lib.hid hn0
        clear hn0 HNX0
        go_wp2_with fail
        refine HN0.out.mono ?_
        rintro e w4 he4
        obtain ⟨rfl, hb4⟩ := placed_nat he4
        have HB4 := Lib.hid (HBW.out.trans (hb4.mono HBW.out.size))
        have HRB4 := Lib.hid ((HRB.out.below hb4).more hb4.size)
        have HRP4 := Lib.hid ((HRP.out.below hb4).more hb4.size)
        clear hb4 he4 HRB HRP HBW
        go_wp2_with fail
        go_loopg [88] l.length (fun g i' wr => ∃ k : Nat, i' = .int .i64 k ∧ k ≤ l.length ∧ Hid (l.length - k = g) ∧ Below w4.heap.size w4 wr)
        case atStart => exact ⟨0, rfl, Nat.zero_le _, Lib.hid rfl, Below.refl _ _⟩
        case round =>
          obtain ⟨k, rfl, hk, HG, hbq⟩ := hrel
          have HBQ := Lib.hid hbq
          clear hbq
          by_cases hlt : k < l.length
          · obtain ⟨⟨kk, pp⟩, hf⟩ : ∃ f, l[k]? = some f := ⟨l[k], List.getElem?_eq_getElem hlt⟩
            have hfk : l[k] = (kk, pp) := by
              rw [List.getElem?_eq_getElem hlt] at hf
              injection hf
            obtain ⟨hkk, hpp⟩ := HFIT.out _ (List.mem_of_getElem? hf)
            simp only at hkk hpp
            have hga := getFr_at xs l HFIT.out k hlt
            have hna := next_at xs l HFIT.out k hlt
            have hpla := place_lt xs l k hlt
            rw [hfk] at hga
            simp only at hga
            obtain ⟨a, ha⟩ : ∃ a, xs.length + (catFr (l.take k)).length = a := ⟨_, rfl⟩
            rw [ha] at hga hna hpla
            have hsz : sizeI (pp.length : Int) = ((encFr kk pp).length : Nat) := by rw [sizeI_ok hpp, encFr_length]
            obtain ⟨E, hE⟩ : ∃ E, (encFr kk pp).length = E := ⟨_, rfl⟩
            rw [hE] at hga hsz
            have hbwr := HB4.out.trans (HBQ.out.mono HB4.out.size)
            obtain ⟨b, o, A3, c3, rfl, q0, q1, q2⟩ : ∃ b o A3 c3, a1 = some ⟨b, o, none⟩ ∧ wr.cell? ⟨b, o + k * 2, none⟩ = some (.int .i64 kk) ∧ wr.cell? ⟨b, o + k * 2 + 1, none⟩ = some (.slice A3 pp.length c3) ∧ Row wr wr.heap.size (.slice A3 pp.length c3) pp := by
              obtain ⟨_, _, _, h4, _⟩ := HL.out.below hbwr
              obtain ⟨b, o, e, _, hc⟩ := h4 (by omega)
              obtain ⟨g0, A3, c3, g1, g2⟩ := hc k _ hf
              exact ⟨b, o, A3, c3, e, g0, g1, g2⟩
            have hblt : b < wr.heap.size := World.block_lt_of_cell? wr ⟨b, o + k * 2, none⟩ q0
            obtain ⟨b', o', rfl, hpc⟩ : ∃ b' o', A' = some ⟨b', o', none⟩ ∧ wr.cell? ⟨b', o' + k, none⟩ = some (.int .i64 (a : Nat)) := by
              obtain ⟨_, _, hv, _, _, _, h4⟩ := HRP4.out.below HBQ.out
              injection hv with e1 _ _
              obtain ⟨b', o', e, _, hc⟩ := h4 (by rw [List.length_map, placesF_length]; omega)
              refine ⟨b', o', e1.trans e, hc k _ ?_⟩
              have hg := placesF_get l xs.length k hlt
              rw [ha] at hg
              have hlp : k < (placesF xs.length l).length := by rw [placesF_length]; exact hlt
              rw [List.getD_eq_getElem?_getD, List.getElem?_eq_getElem hlp, Option.getD_some] at hg
              rw [List.getElem?_map, List.getElem?_eq_getElem hlp, hg]
              rfl
            have hat := HAT.out _ _ _ ((HRB4.out.below HBQ.out).more HBQ.out.size) a (by have := HNE.out; omega)
            rw [hga] at hat
            have HA := Lib.hid hat
            have HNA := Lib.hid (fun A c W h => HNX.out A c W h (a : Int) (by omega) (by have := HNE.out; omega))
            rw [hna] at HNA
            have HQ2 := Lib.hid q2
            have HPC := Lib.hid hpc
            have Q0 := Lib.hid q0
            have Q1 := Lib.hid q1
            have HSZ := Lib.hid (fun W => fsize_any (pp.length : Int) (by omega) (by omega) W)
            rw [hsz] at HSZ
            clear hf hfk hga hna ha hsz hE q2 hat q0 q1 hbwr hkk
            go_wp2_with fail
            refine HA.out.mono ?_
            rintro e w5 ⟨A5, c5, rfl, hr5, hb5⟩
            simp only at hr5 ⊢
            have hfr : Held (w5.alloc (.cells #[.int .i64 kk, .slice A5 pp.length c5] 36)) w5.heap.size 36 #[.int .i64 kk, .slice A5 pp.length c5] := heap_alloc_new w5 _
            have hb5' := hb5.alloc hb5.size (.cells #[.int .i64 kk, .slice A5 pp.length c5] 36)
            have HR5 := Lib.hid ((hr5.below ((Below.refl w5.heap.size w5).alloc (Nat.le_refl _) (.cells #[.int .i64 kk, .slice A5 pp.length c5] 36))).more (show w5.heap.size ≤ (w5.alloc (.cells #[.int .i64 kk, .slice A5 pp.length c5] 36)).heap.size by simp))
            obtain ⟨N5, hN5⟩ : ∃ N, w5.heap.size = N := ⟨_, rfl⟩
            rw [hN5] at hfr
            have HBA := Lib.hid hb5'
            have HFR := Lib.hid hfr
            have HN5 := Lib.hid hN5
            clear hr5 hb5 hfr hb5' hN5
            go_wp2_with fail
            rw [HN5.out]
            generalize w5.alloc (.cells #[.int .i64 kk, .slice A5 pp.length c5] 36) = w5a at HBA HFR HR5 ⊢
            refine (HNA.out _ _ _ ((HRB4.out.below (HBQ.out.trans (HBA.out.mono HBQ.out.size))).more (Nat.le_trans HBQ.out.size HBA.out.size))).mono ?_
            rintro e w6 he6
            obtain ⟨rfl, hb6⟩ := placed_nat he6
            have f6 := HFR.out.below hb6 HFR.out.lt
            have HB6 := Lib.hid (HBA.out.trans (hb6.mono HBA.out.size))
            have hall : ∀ W, Below w6.heap.size w6 W → Below w6.heap.size w6 W ∧ W.cell? ⟨N5, 0, none⟩ = some (.int .i64 kk) ∧ W.cell? ⟨N5, 1, none⟩ = some (.slice A5 pp.length c5) ∧ W.cell? ⟨b, o + k * 2, none⟩ = some (.int .i64 kk) ∧ W.cell? ⟨b, o + k * 2 + 1, none⟩ = some (.slice A3 pp.length c3) := fun W h => by
              have g := f6.below h f6.lt
              have e0 := g.cell 0
              have e1 := g.cell 1
              have hh := HB6.out.trans (h.mono HB6.out.size)
              exact ⟨h, by simpa using e0, by simpa using e1, (hh.cell (p := ⟨b, o + k * 2, none⟩) hblt).trans Q0.out, (hh.cell (p := ⟨b, o + k * 2 + 1, none⟩) hblt).trans Q1.out⟩
            have HALL := Lib.hid hall
            have HSM := Lib.hid (fun W (h : Below w6.heap.size w6 W) => fsame_yes kk A5 A3 c5 c3 pp W ((HR5.out.below (hb6.trans (h.mono hb6.size))).more (Nat.le_trans hb6.size h.size)) ((HQ2.out.below (HB6.out.trans (h.mono HB6.out.size))).more (Nat.le_trans HB6.out.size h.size)))
            clear he6 f6 hall hb6
            obtain ⟨g0, p0, p1, p2, p3⟩ := HALL.out w6 (Below.refl _ _)
            clear g0
            go_wp2_with fail
            go_region_held (fun W => Below w6.heap.size w6 W ∧ W.cell? ⟨N5, 0, none⟩ = some (.int .i64 kk) ∧ W.cell? ⟨N5, 1, none⟩ = some (.slice A5 pp.length c5) ∧ W.cell? ⟨b, o + k * 2, none⟩ = some (.int .i64 kk) ∧ W.cell? ⟨b, o + k * 2 + 1, none⟩ = some (.slice A3 pp.length c3))
              (first | exact HALL.out _ (Below.refl _ _) | exact HALL.out _ (Below.refl _ _).drew | exact HALL.out _ b7 | exact HALL.out _ b8)
              (first
                | (go_at_call 21; (with_reducible refine (HSM.out _ (Below.refl _ _).drew).mono ?_); rintro e w7 ⟨rfl, hb7'⟩; have hb7 : Below w6.heap.size w6 w7 := ⟨hb7'.os, hb7'.tape, hb7'.output, hb7'.size, hb7'.block⟩; have b7 : Below w6.heap.size w6 w7 := hb7)
                | (go_at_call 19; (with_reducible refine (HSZ.out _).mono ?_); rintro e w8 ⟨rfl, hb8'⟩; have b8 : Below w6.heap.size w6 w8 := b7.trans (hb8'.mono b7.size)))
            have HB8 := Lib.hid (HBQ.out.trans ((HB6.out.trans (b8.mono HB6.out.size)).mono HBQ.out.size))
            go_wp2_with fail
            go_roundg (l.length - (k + 1))
            case measure => have := HG.out; omega
            case rel => exact ⟨k + 1, by go_num, by omega, Lib.hid rfl, HB8.out⟩
          · obtain rfl : k = l.length := by omega
            have HB7 := Lib.hid (HB4.out.trans (HBQ.out.mono HB4.out.size))
            go_wp2_with fail
            refine (nfix_any _).mono ?_
            rintro e w7 ⟨rfl, hb7⟩
            have HB8 := Lib.hid (HB7.out.trans (hb7.mono HB7.out.size))
            have HB9 := Lib.hid (HBQ.out.trans (hb7.mono HBQ.out.size))
            clear hb7
            go_wp2_with fail
            refine (HCT.out _ _ _ ((HRB4.out.below HB9.out).more HB9.out.size)).mono ?_
            rintro e w8 ⟨rfl, hb8⟩
            have HB10 := Lib.hid (HB8.out.trans (hb8.mono HB8.out.size))
            clear hb8
            go_wp2_with fail
            go_ret
            exact ⟨rfl, HB10.out⟩
      · have h00 : l.length = 0 := by omega
        have h0i : ¬ (0 : Int) < (l.length : Int) := by omega
        obtain ⟨wx, hwx⟩ : ∃ wx, wx = wr := ⟨_, rfl⟩
        subst hwx
        have HB4 := HBW
        have HRB4 := HRB
        have HRP4 := HRP
        have H00 := Lib.hid h00
        clear HBW HRB HRP h00 HNX0
        go_wp2_with fail
        go_loopg [88] l.length (fun g i' wr => ∃ k : Nat, i' = .int .i64 k ∧ k ≤ l.length ∧ Hid (l.length - k = g) ∧ Below wx.heap.size wx wr)
        case atStart => exact ⟨0, rfl, Nat.zero_le _, Lib.hid rfl, Below.refl _ _⟩
        case round =>
          obtain ⟨k, rfl, hk, HG, hbq⟩ := hrel
          have HBQ := Lib.hid hbq
          clear hbq
          by_cases hlt : k < l.length
          · exact absurd hlt (by have := H00.out; omega)
          · obtain rfl : k = l.length := by omega
            have HB7 := Lib.hid (HB4.out.trans (HBQ.out.mono HB4.out.size))
            go_wp2_with fail
            refine (nfix_any _).mono ?_
            rintro e w7 ⟨rfl, hb7⟩
            have HB8 := Lib.hid (HB7.out.trans (hb7.mono HB7.out.size))
            have HB9 := Lib.hid (HBQ.out.trans (hb7.mono HBQ.out.size))
            clear hb7
            go_wp2_with fail
            refine (HCT.out _ _ _ ((HRB4.out.below HB9.out).more HB9.out.size)).mono ?_
            rintro e w8 ⟨rfl, hb8⟩
            have HB10 := Lib.hid (HB8.out.trans (hb8.mono HB8.out.size))
            clear hb8
            go_wp2_with fail
            go_ret
            exact ⟨rfl, HB10.out⟩

set_option maxRecDepth 100000 in
theorem lifted (os : Os) (started : os.Started) (H : Type) (enc : TypeId × Value → H) :
    ReturnsInHanded {} Try.checked os 9 .any (Rows.findFramesSpec.pre6 enc Try.prog Try.f9 Rows.findFramesRow.domain false) (Rows.findFramesSpec.post enc Try.prog Try.f9 false true false false) := by
  refine returnsInHanded_of_change (C := Try.checked) own started (by kernel_rfl) Try.func9
    (ChangeSpec.witness6 (enc := enc) (C := Try.checked) false ⟨#[], #[.slice none 0 0, .slice none 0 0], []⟩ 8 (by kernel_rfl) (by kernel_rfl) (by kernel_rfl) (by kernel_rfl)) ?_
  intro W base args ds gs before hval0 hW hcnd _
  have hval : ∀ (j : Nat) t v, Try.f9.params[j]? = some t → args[j]? = some v → Value.okWide Try.prog W .any base t v := hval0
  have hW' := hW
  obtain ⟨p, q, hA0, hV, rfl, hfz, hnd⟩ := hW
  have hA : DataW.TrodAll enc Try.prog W 0 (fun _ => true) true Try.f9.params.toList args.toList ds p := hA0
  rw [Try.params9] at hA hval
  obtain ⟨v0, vs0, d0, ds0, p0, q0, hargs, rfl, rfl, h0, r0⟩ := trodAll_cons hA
  obtain ⟨v1, vs1, d1, ds1, p1, q1, rfl, rfl, rfl, h1, r1⟩ := trodAll_cons r0
  obtain ⟨rfl, rfl, rfl⟩ := trodAll_nil r1
  obtain rfl : args = #[v0, v1] := by cases args; simp_all
  obtain ⟨rfl, rfl⟩ := trodVars_none hV
  obtain ⟨a0, len0, cap0, rfl⟩ := okWide_slice Try.underlying22 (hval 0 22 v0 rfl rfl)
  have k0 := h0
  have lt0 : ∀ x ∈ p0, x.block < W.heap.size := by obtain ⟨m, hm⟩ := k0; exact DataW.trod_lt m _ _ _ hm
  obtain ⟨z0, w0⟩ : ∃ zs, IsRow .u8 W a0 len0 cap0 zs := by
    obtain ⟨fuel, hf⟩ := h0
    rcases open_ints Try.underlying22 Try.underlying5 (by kernel_rfl) hf with ⟨hcs, _⟩ | ⟨x, l, c, zs, hcs, _, hl, hm, hz, _, hcell, hwz⟩
    · simp [Value.cells] at hcs
      obtain ⟨rfl, rfl, rfl⟩ := hcs
      exact ⟨[], .inl ⟨rfl, rfl, rfl, rfl⟩⟩
    · simp [Value.cells] at hcs
      obtain ⟨rfl, rfl, rfl⟩ := hcs
      exact ⟨zs, .inr ⟨_, rfl, hl, hm, by simpa using hz, hcell, hwz⟩⟩
  obtain ⟨a1, len1, cap1, rfl⟩ := okWide_slice Try.underlying58 (hval 1 58 v1 rfl rfl)
  have k1 := h1
  have lt1 : ∀ x ∈ p1, x.block < W.heap.size := by obtain ⟨m, hm⟩ := k1; exact DataW.trod_lt m _ _ _ hm
  obtain ⟨l, w1⟩ : ∃ l, IsFrames W a1 len1 cap1 l := by
    obtain ⟨fuel, hf⟩ := h1
    exact frames_of hf
  clear hA0 hval0
  refine (walk a0 len0 cap0 z0 a1 len1 cap1 l W w0 w1).mono fun e W' ⟨he, bel⟩ => ?_
  subst he
  exact ⟨_, rfl, _, _, _, [], _, [], hW', trodAll_mk1 (shut_bool Try.underlying4 _), (trodAll_cons_mk (Below.trod laidOut (by kernel_rfl) (of_decide_eq_true (by kernel_rfl)) k0 bel lt0) (trodAll_cons_mk (Below.trod laidOut (by kernel_rfl) (of_decide_eq_true (by kernel_rfl)) k1 bel lt1) trodAll_mk0)), rfl, bel.frame _, fun h => by cases h⟩

theorem over : Rows.findFramesRow.holds Try.pinned (OpenSpec.ofChange Rows.findFramesSpec) :=
  OpenClaim.holds_of_wide 9 Try.f9 rfl rfl rfl rfl rfl rfl rfl ⟨rfl, rfl, rfl, rfl, rfl⟩ rfl rfl rfl rfl rfl (by kernel_rfl) Try.func9 (by kernel_rfl)
    (of_decide_eq_true (by kernel_rfl)) (by unfold Func.isWrapper; first | (rw [if_pos (by decide +kernel)]; kernel_rfl) | (rw [if_neg (by decide +kernel)]; exact ⟨rfl, rfl⟩))
    (fun os started H enc _ => lifted os started H enc)

theorem proved : Rows.FindFramesSaid := over
#print axioms proved
end Go.Proofs.Ytbbmblodabojeaa.findFrames

