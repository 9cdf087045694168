/-
  At every slice of bytes, every place and every pattern of bits the law on turned bits answers true, and nothing that lay in memory has changed. No condition.
-/
import Derived.Test.YtbapmcocnhkjcaaRows
import Derived.WalkKit
import Derived.ProofKit
import Derived.OpenShut
import Derived.ShutString
import Derived.ChangeOld
import Derived.Below
import Derived.Test.YtbapmcocnhkjcaaCrcFixed
import Derived.Test.YtbapmcocnhkjcaaArg
import Derived.Test.YtbapmcocnhkjcaaCurNew
import Derived.Deep.RegionHeld3
namespace Go.Proofs.Ytbapmcocnhkjcaa.crcTold
open Go.Proofs.Ytbapmcocnhkjcaa
open Go.ChangeShapes Go.WideShapes Go.ChangeAt Go.RowKit
open Go.ChangeMaps (open_string shut_string)
set_option linter.unusedVariables false

theorem own : ownKnob Try.prog.godebug = none := by kernel_rfl
theorem laidOut : laidOutB Try.prog = true := by kernel_rfl

theorem toN_get (xs : List Int) {i : Nat} (h : i < (toN xs).length) (h2 : i < xs.length) : (toN xs)[i] = xs[i].toNat := List.getElem_map _

set_option maxRecDepth 100000 in
set_option maxHeartbeats 1000000 in
theorem walk (a0 : Option Addr) (len0 cap0 : Nat) (z0 : List Int) (a1 : Int) (a2 : Int) (w : World) (w0 : IsRow .u8 w a0 len0 cap0 z0) (w1 : (Lit.int .u16 a1).wf = true) (w2 : (Lit.int .u32 a2).wf = true) :
    Calls Try.prog 4 #[.slice a0 len0 cap0, .int .u16 a1, .int .u32 a2] w fun e w' => e = .returned (.bool true) ∧ Below w.heap.size w w' := by
  obtain ⟨b21, b22⟩ := bounds_u32 w2
  obtain ⟨b11, b12⟩ := bounds_u16 w1
  clear w2 w1
  obtain ⟨turn, rfl⟩ := Int.eq_ofNat_of_zero_le b21
  obtain ⟨at_, rfl⟩ := Int.eq_ofNat_of_zero_le b11
  have ht : turn < 4294967296 := by omega
  have hat : at_ < 65536 := by omega
  obtain ⟨xs, rfl, hrow, hbx⟩ := Row.of_arg w0
  clear w0 b21 b22 b11 b12
  by_cases hsm : xs.length < 4
  · have hgi : (xs.length : Int) < 4 := by omega
    go_enter Try.func4, Try.ntmps4
    go_wp2_with (go_at_call 9; refine (cfix_any _).mono ?_; rintro e w3 ⟨rfl, hb3⟩)
    go_ret
    exact ⟨rfl, hb3⟩
  by_cases hgt : 1000 < xs.length
  · have hgi : (1000 : Int) < (xs.length : Int) := by omega
    have hg2 : (4 : Int) ≤ (xs.length : Int) := by omega
    go_enter Try.func4, Try.ntmps4
    go_wp2_with (go_at_call 9; refine (cfix_any _).mono ?_; rintro e w3 ⟨rfl, hb3⟩)
    go_ret
    exact ⟨rfl, hb3⟩
  have hg2 : 4 ≤ xs.length := by omega
  have hg3 : xs.length ≤ 1000 := by omega
  by_cases h0 : turn = 0
  · subst h0
    go_enter Try.func4, Try.ntmps4
    go_wp2_with (go_at_call 9; refine (cfix_any _).mono ?_; rintro e w3 ⟨rfl, hb3⟩)
    go_ret
    exact ⟨rfl, hb3⟩
  have hne : ((turn : Int) == 0) = false := beq_eq_false_iff_ne.2 (by omega)
  have hpos : 0 < turn := by omega
  have HPOS := Lib.hid hpos; clear hpos h0 hsm hgt
  obtain ⟨i0, hi, hz0, hz1, hz2⟩ := info_parts Try.infoU8
  have HROW := Lib.hid hrow; clear hrow
  have HBX := Lib.hid hbx; clear hbx
  obtain ⟨D, hD⟩ : ∃ D : Nat, D = 8 * xs.length - 31 := ⟨_, rfl⟩
  obtain ⟨F, hF⟩ : ∃ F : Nat, F = at_ % D := ⟨_, rfl⟩
  have hFl : F + 31 < 8 * xs.length := by
    have := Nat.mod_lt at_ (show 0 < D by omega)
    omega
  have t1 : IntKind.i64.wrap (8 * (xs.length : Int)) = 8 * (xs.length : Int) := IntWalk.i64_in _ (by omega)
  have t2 : IntKind.i64.wrap (8 * (xs.length : Int) - 31) = (D : Int) := by rw [IntWalk.i64_in _ (by omega)]; omega
  have t3 : (at_ : Int) % (D : Int) = (F : Int) := by rw [hF]; rfl
  have t3' : (at_ : Int).tmod (D : Int) = (F : Int) := by rw [Int.tmod_eq_emod_of_nonneg (by omega)]; exact t3
  have t4 : ((D : Int) == 0) = false := beq_eq_false_iff_ne.2 (by omega)
  have t5 : (D : Int) ≠ 0 := by omega
  clear hF
  have HD := Lib.hid hD; clear hD
  go_enter Try.func4, Try.ntmps4
  go_wp2_with (at_builtin; refine wpList_append_row _ rfl _ _ 22 rfl w.heap.size 5 i0 (.int .u8 0) Try.underlying22 hi hz0 hz1 hz2 rfl (.slice (some ⟨w.heap.size, 0, none⟩) 0 0) 0 [] (by rfl) (own_none _ _ _ (Nat.le_refl _)) w.heap.size _ xs rfl (HROW.out.below ((Below.refl _ _).alloc (Nat.le_refl _) _)) (by omega) (by simp) ?_; intro v2 w2 hown2 hg2 hn2)
  have hne2 : v2 ≠ .slice none 0 0 := fun h => by have := (hn2.1 h).1; simp at this
  rw [Nat.zero_add, List.nil_append] at hown2
  obtain ⟨g, cap, rfl⟩ := ownsRow_some hown2 hne2
  have hg := (hown2.lt g rfl).1
  have hcap : xs.length ≤ cap ∧ cap ≤ 9223372036854775807 := by
    obtain ⟨_, _, hv, q1, q2, _⟩ := Row.of_own hown2
    injection hv with _ _ e3
    subst e3
    unfold maxLen at q2
    exact ⟨q1, q2⟩
  obtain ⟨hcap1, hcap2⟩ := hcap
  have hb2 : Below w.heap.size w w2 := ((Below.refl _ _).alloc (Nat.le_refl _) _).grown hg2 (by simp) (fun k hk => by
    simp [Value.ownBlock] at hk
    omega)
  clear hn2 hne2 hg2
  go_loopw [33] (fun i wr => ∃ (k : Nat) (zs : List Int), k ≤ 32 ∧ i = .int .i64 k ∧ zs.length = xs.length ∧ Hid (∀ x ∈ zs, 0 ≤ x ∧ x < 256) ∧ Hid (big (toN zs) = big (toN xs) ^^^ (2 ^ F * (turn % 2 ^ k))) ∧
      wr.ownsRow w.heap.size 5 1 (.slice (some ⟨g, 0, none⟩) xs.length cap) xs.length (zs.map (.int .u8)) ∧ Below w.heap.size w wr) (fun i _ => 32 - (intOf i).toNat)
  case atStart => exact ⟨0, xs, by omega, rfl, rfl, HBX, Lib.hid (by simp [Nat.mod_one]), hown2, hb2⟩
  case round =>
    obtain ⟨k, zs, hk, rfl, hzl, HZB, HBIG, hown, hbw⟩ := hrel
    have HZL := Lib.hid hzl; clear hzl
    by_cases hlt : k < 32
    · have HTB := Lib.hid (Nat.mod_two_eq_zero_or_one (turn / 2 ^ k))
      have hcast : (turn : Int) / 2 ^ k = ((turn / 2 ^ k : Nat) : Int) := by rw [Int.natCast_ediv, Int.natCast_pow]; rfl
      have hdl : turn / 2 ^ k < 4294967296 := Nat.lt_of_le_of_lt (Nat.div_le_self _ _) ht
      have hand := u32_and_nat (turn / 2 ^ k) 1 hdl (by omega)
      rw [nat_mask1, ← hcast] at hand
      rcases HTB.out with h0 | h1
      · rw [h0] at hand
        have hsame := turn_same h0
        have HSM := Lib.hid hsame; clear hsame h0 hcast hdl
        simp only [Int.natCast_zero, Int.natCast_one] at hand
        have hbq : (bits .and .u32 ((turn : Int) / 2 ^ k) 1 == 1) = false := by rw [hand]; rfl
        clear hand
        go_wp2_with fail
        go_roundw
        case rel => exact ⟨k + 1, zs, by omega, by go_num, HZL.out, HZB, Lib.hid (by rw [HSM.out]; exact HBIG.out), hown, hbw⟩
        case measure => simp [intOf]; omega
      · rw [h1] at hand
        have H1 := Lib.hid h1; clear h1 hcast hdl
        simp only [Int.natCast_one] at hand
        have hq : (F + k) / 8 < zs.length := by rw [HZL.out]; omega
        have hqx : (F + k) / 8 < xs.length := by omega
        have hqi : ((F : Int) + (k : Int)) / 8 < (xs.length : Int) := by omega
        have hqi0 : (0 : Int) ≤ ((F : Int) + (k : Int)) / 8 := by omega
        have hin : zs[(F + k) / 8] ∈ zs := List.getElem_mem hq
        obtain ⟨y0, y1⟩ := HZB.out _ hin
        clear hin
        obtain ⟨y, hy⟩ := Int.eq_ofNat_of_zero_le y0
        rw [hy] at y1
        have hyl : y < 256 := by omega
        have hcell : wr.cell? ⟨g, (F + k) / 8, none⟩ = some (.int .u8 (y : Int)) := by
          rw [hown.cellAt _ (by omega), List.getElem?_map, List.getElem?_eq_getElem hq, hy]
          rfl
        have hfz := hown.frozenAt ((F + k) / 8)
        obtain ⟨p, hp⟩ : ∃ p, p = 2 ^ ((F + k) % 8) := ⟨_, rfl⟩
        have hpl : p < 256 := by rw [hp]; exact Nat.pow_lt_pow_right (a := 2) (n := 8) (by omega) (Nat.mod_lt _ (by omega))
        have hxor := u8_xor_nat y p hyl hpl
        have hst := hown.stored ((F + k) / 8) (.int .u8 ((y ^^^ p : Nat) : Int))
        have HY := Lib.hid hy
        have HST := Lib.hid hst
        have HP := Lib.hid hp
        have hpw : (2 : Int) ^ ((F + k) % 8) % 256 = (p : Int) := by
          have : ((2 ^ ((F + k) % 8) : Nat) : Int) = (2 : Int) ^ ((F + k) % 8) := by rw [Int.natCast_pow]; rfl
          rw [← this, ← hp]
          omega
        clear hy hst hp y0 y1
        go_wp2_with fail
        go_roundw
        case rel =>
          have hset : toN (zs.set ((F + k) / 8) ((y ^^^ p : Nat) : Int)) = (toN zs).set ((F + k) / 8) (y ^^^ p) := by
            unfold toN
            rw [List.map_set, Int.toNat_natCast]
          have hql : (F + k) / 8 < (toN zs).length := by rw [toN_length]; exact hq
          have hat : (toN zs)[(F + k) / 8] = y := by
            rw [toN_get zs hql hq, HY.out, Int.toNat_natCast]
          have hstep := turn_step (toN_byte HZB.out) hql HBIG.out H1.out
          rw [hat, ← HP.out, ← hset] at hstep
          refine ⟨k + 1, zs.set ((F + k) / 8) ((y ^^^ p : Nat) : Int), by omega, by go_num, by rw [List.length_set]; exact HZL.out, Lib.hid ?_, Lib.hid hstep, ?_, ?_⟩
          · intro x hx
            rcases List.mem_or_eq_of_mem_set hx with h | rfl
            · exact HZB.out x h
            · have := Nat.xor_lt_two_pow (n := 8) (show y < 2 ^ 8 by omega) (show p < 2 ^ 8 by omega)
              omega
          · rw [List.map_set]
            exact HST.out.1
          · exact hbw.setCell (p := ⟨g, (F + k) / 8, none⟩) hg _
        case measure => simp [intOf]; omega
    · obtain rfl : k = 32 := by omega
      have hbig := HBIG.out
      rw [Nat.mod_eq_of_lt (show turn < 2 ^ 32 from ht)] at hbig
      have hne : sumX xs ≠ sumX zs := sum_told (by rw [toN_length, toN_length, HZL.out]) (toN_byte HBX.out) (toN_byte HZB.out) ht HPOS.out (by rw [toN_length]; omega) hbig
      have hs1 := fun W v h => sum_any v [xs] W h (by intro l hl; simp at hl; subst hl; exact HBX.out)
      have hs2 := fun W v h => sum_any v [zs] W h (by intro l hl; simp at hl; subst hl; exact HZB.out)
      rw [show [xs].flatten = xs by simp] at hs1
      rw [show [zs].flatten = zs by simp] at hs2
      have hr1 := HROW.out.below hbw
      have hr2 := Row.of_own hown
      have hz0 := hbw.size
      generalize sumX xs = s1 at hne hs1
      generalize sumX zs = s2 at hne hs2
      have hneq : ((s1 : Int) != (s2 : Int)) = true := bne_iff_ne.2 (by omega)
      have HS1 := Lib.hid hs1
      have HS2 := Lib.hid hs2
      have HR1 := Lib.hid hr1
      have HR2 := Lib.hid hr2
      clear hne hs1 hs2 hr1 hr2 hbig hown HBIG
      go_wp2_with fail
      refine (cfix_any _).mono ?_
      rintro e w5 ⟨rfl, hb5⟩
      have hz5 := hb5.size
      have b5 : Below w.heap.size w w5 := hbw.trans (hb5.mono hz0)
      go_wp2_with fail
      refine (HS1.out _ _ (Parts.one (by simp) (by simp [World.cell?_alloc_new]) ((HROW.out.below (b5.alloc b5.size _)).more (Below.size (b5.alloc b5.size _))))).mono ?_
      rintro e w6 ⟨rfl, rfl⟩
      go_wp2_with fail
      have c5 : Below wr.heap.size wr ((w5.alloc (.cells #[.slice a0 xs.length cap0] 22)).alloc (.cells #[.slice (some ⟨g, 0, none⟩) xs.length cap] 22)) := (hb5.alloc hz5 _).alloc (by simp; omega) _
      refine (HS2.out _ _ (Parts.one (by simp) ?_ ((HR2.out.below c5).more c5.size))).mono ?_
      · rw [show w5.heap.size + 1 = (w5.alloc (.cells #[.slice a0 xs.length cap0] 22)).heap.size by simp, World.cell?_alloc_new]
        rfl
      rintro e w7 ⟨rfl, rfl⟩
      go_wp2_with fail
      go_ret
      exact ⟨rfl, (b5.alloc b5.size _).alloc (by have := b5.size; simp; omega) _⟩

set_option maxRecDepth 100000 in
theorem lifted (os : Os) (started : os.Started) (H : Type) (enc : TypeId × Value → H) :
    ReturnsInHanded {} Try.checked os 4 .any (Rows.crcToldSpec.pre6 enc Try.prog Try.f4 Rows.crcToldRow.domain false) (Rows.crcToldSpec.post enc Try.prog Try.f4 false true false false) := by
  refine returnsInHanded_of_change (C := Try.checked) own started (by kernel_rfl) Try.func4
    (ChangeSpec.witness6 (enc := enc) (C := Try.checked) false ⟨#[], #[.slice none 0 0, .int .u16 0, .int .u32 0], []⟩ 8 (by kernel_rfl) (by kernel_rfl) (by kernel_rfl) (by kernel_rfl)) ?_
  intro W base args ds gs before hval0 hW hcnd _
  have hval : ∀ (j : Nat) t v, Try.f4.params[j]? = some t → args[j]? = some v → Value.okWide Try.prog W .any base t v := hval0
  have hW' := hW
  obtain ⟨p, q, hA0, hV, rfl, hfz, hnd⟩ := hW
  have hA : DataW.TrodAll enc Try.prog W 0 (fun _ => true) true Try.f4.params.toList args.toList ds p := hA0
  rw [Try.params4] at hA hval
  obtain ⟨v0, vs0, d0, ds0, p0, q0, hargs, rfl, rfl, h0, r0⟩ := trodAll_cons hA
  obtain ⟨v1, vs1, d1, ds1, p1, q1, rfl, rfl, rfl, h1, r1⟩ := trodAll_cons r0
  obtain ⟨v2, vs2, d2, ds2, p2, q2, rfl, rfl, rfl, h2, r2⟩ := trodAll_cons r1
  obtain ⟨rfl, rfl, rfl⟩ := trodAll_nil r2
  obtain rfl : args = #[v0, v1, v2] := by cases args; simp_all
  obtain ⟨rfl, rfl⟩ := trodVars_none hV
  obtain ⟨a0, len0, cap0, rfl⟩ := okWide_slice Try.underlying22 (hval 0 22 v0 rfl rfl)
  have k0 := h0
  have lt0 : ∀ x ∈ p0, x.block < W.heap.size := by obtain ⟨m, hm⟩ := k0; exact DataW.trod_lt m _ _ _ hm
  obtain ⟨z0, w0⟩ : ∃ zs, IsRow .u8 W a0 len0 cap0 zs := by
    obtain ⟨fuel, hf⟩ := h0
    rcases open_ints Try.underlying22 Try.underlying5 (by kernel_rfl) hf with ⟨hcs, _⟩ | ⟨x, l, c, zs, hcs, _, hl, hm, hz, _, hcell, hwz⟩
    · simp [Value.cells] at hcs
      obtain ⟨rfl, rfl, rfl⟩ := hcs
      exact ⟨[], .inl ⟨rfl, rfl, rfl, rfl⟩⟩
    · simp [Value.cells] at hcs
      obtain ⟨rfl, rfl, rfl⟩ := hcs
      exact ⟨zs, .inr ⟨_, rfl, hl, hm, by simpa using hz, hcell, hwz⟩⟩
  obtain ⟨a1, rfl, rfl, rfl, w1⟩ := open_int Try.underlying32 (hval 1 32 v1 rfl rfl) h1
  obtain ⟨a2, rfl, rfl, rfl, w2⟩ := open_int Try.underlying23 (hval 2 23 v2 rfl rfl) h2
  clear hA0 hval0
  refine (walk a0 len0 cap0 z0 a1 a2 W w0 w1 w2).mono fun e W' ⟨he, bel⟩ => ?_
  subst he
  exact ⟨_, rfl, _, _, _, [], _, [], hW', trodAll_mk1 (shut_bool Try.underlying4 _), (trodAll_cons_mk (Below.trod laidOut (by kernel_rfl) (of_decide_eq_true (by kernel_rfl)) k0 bel lt0) (trodAll_cons_mk (shut_int Try.underlying32 w1) (trodAll_cons_mk (shut_int Try.underlying23 w2) trodAll_mk0))), rfl, bel.frame _, fun h => by cases h⟩

theorem over : Rows.crcToldRow.holds Try.pinned (OpenSpec.ofChange Rows.crcToldSpec) :=
  OpenClaim.holds_of_wide 4 Try.f4 rfl rfl rfl rfl rfl rfl rfl ⟨rfl, rfl, rfl, rfl, rfl⟩ rfl rfl rfl rfl rfl (by kernel_rfl) Try.func4 (by kernel_rfl)
    (of_decide_eq_true (by kernel_rfl)) (by unfold Func.isWrapper; first | (rw [if_pos (by decide +kernel)]; kernel_rfl) | (rw [if_neg (by decide +kernel)]; exact ⟨rfl, rfl⟩))
    (fun os started H enc _ => lifted os started H enc)

theorem proved : Rows.CrcToldSaid := over
#print axioms proved
end Go.Proofs.Ytbapmcocnhkjcaa.crcTold

