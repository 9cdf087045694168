/-
  Of a trace that is of a signature each part in a row is, and counts add up; with a point more whose time is below the last one's it isn't. For every trace whose slices lie within the form's own reach.
-/
import Derived.Test.YtcegnkbafbepbaaRows
import Derived.WalkKit
import Derived.ProofKit
import Derived.OpenShut
import Derived.ShutString
import Derived.ChangeOld
import Derived.Below
import Derived.Lib.SmallJoins
import Derived.Deep.LoopGhost
import Derived.Test.YtcegnkbafbepbaaTraceMore
import Derived.Test.YtcegnkbafbepbaaTraceCount
import Derived.Test.YtcegnkbafbepbaaTraceSum
import Derived.Test.YtcegnkbafbepbaaTraceGreat
import Derived.Test.YtcegnkbafbepbaaTraceGfix
import Derived.Test.YtcegnkbafbepbaaTraceIn
import Derived.Test.YtcegnkbafbepbaaSigGreat
import Derived.Test.YtcegnkbafbepbaaTraceApp
namespace Go.Proofs.Ytcegnkbafbepbaa.traceParts
open Go.Proofs.Ytcegnkbafbepbaa
open Go.ChangeShapes Go.WideShapes Go.ChangeAt Go.RowKit
open Go.ChangeMaps (open_string shut_string)
set_option linter.unusedVariables false

theorem own : ownKnob Try.prog.godebug = none := by kernel_rfl
theorem laidOut : laidOutB Try.prog = true := by kernel_rfl

set_option maxRecDepth 100000 in
set_option maxHeartbeats 2000000 in
theorem walk (a0 : Option Addr) (len0 cap0 : Nat) (l0 : List Pd) (a1 : Option Addr) (len1 cap1 : Nat) (l1 : List Pm) (a2 : Int) (w : World) (w0 : l0.length = len0 ∧ PredRow w w.heap.size (.slice a0 len0 cap0) l0) (w1 : l1.length = len1 ∧ TrRow w w.heap.size (.slice a1 len1 cap1) l1 ∧ TrFit l1) (w2 : (Lit.int .u16 a2).wf = true) :
    Calls Try.prog 5 #[.slice a0 len0 cap0, .slice a1 len1 cap1, .int .u16 a2] w fun e w' => e = .returned (.bool true) ∧ Below w.heap.size w w' := by
  obtain ⟨rfl, hrow⟩ := w0
  obtain ⟨rfl, htr, hfit⟩ := w1
  obtain ⟨u0, u1⟩ := bounds_u16 w2
  clear w2
  obtain ⟨n, rfl⟩ : ∃ n : Nat, (n : Int) = a2 := ⟨a2.toNat, by omega⟩
  have hn : n ≤ 65535 := by omega
  clear u0 u1
  have hln := hfit.1
  clear hfit
  obtain ⟨-, hc1, hc2⟩ := htr.1.len
  obtain ⟨hd1, hd2⟩ : l0.length ≤ cap0 ∧ cap0 ≤ 9223372036854775807 := by
    obtain ⟨A', c', hv, q1, q2⟩ := hrow.form
    injection hv with _ _ e3
    exact ⟨by omega, by omega⟩
  have HROW := Lib.hid hrow
  have HTR := Lib.hid htr
  have HFX := Lib.hid (fun W => tfix12_any W)
  have hgr := great_any a0 cap0 l0 w hrow
  clear hrow htr
  cases hg : greatP (l0.map (·.p)) with
  | true =>
    rw [hg] at hgr
    have HG := Lib.hid hgr
    clear hg hgr
    go_enter Try.func5, Try.ntmps5
    go_wp2_with fail
    refine HG.out.mono ?_
    rintro e w2 ⟨rfl, hb2⟩
    have HB2 := Lib.hid hb2
    clear hb2
    go_wp2_with fail
    refine (HFX.out _).mono ?_
    rintro e w3 ⟨rfl, hb3⟩
    have HB3 := Lib.hid (HB2.out.trans (hb3.mono HB2.out.size))
    clear hb3
    go_wp2_with fail
    go_ret
    exact ⟨rfl, HB3.out⟩
  | false =>
    rw [hg] at hgr
    have HG := Lib.hid hgr
    clear hg hgr
    have hck := fun W (h : Below w.heap.size w W) => tcheck_any a0 cap0 l0 a1 cap1 l1 W ((HROW.out.below h).more h.size) ((HTR.out.below h).more h.size)
    by_cases hok : (checkT (l0.map (·.p)) (l1.map (·.p))).1 = 0
    case neg =>
      generalize checkT (l0.map (·.p)) (l1.map (·.p)) = C at hck hok
      obtain ⟨C1, C2⟩ := C
      dsimp only at hck hok
      have hne : (C1 != 0) = true := bne_iff_ne.2 hok
      have hne2 : (C1 == 0) = false := beq_eq_false_iff_ne.2 hok
      have HCK := Lib.hid hck
      clear hck hok
      go_enter Try.func5, Try.ntmps5
      go_wp2_with fail
      refine HG.out.mono ?_
      rintro e w2 ⟨rfl, hb2⟩
      have HB2 := Lib.hid hb2
      clear hb2
      have HGT := Lib.hid (tgreat_any a1 cap1 l1 3000 w2 ((HTR.out.below HB2.out).more HB2.out.size))
      go_wp2_with fail
      refine HGT.out.mono ?_
      rintro e w3 ⟨⟨g, rfl⟩, hb3⟩
      have HB3 := Lib.hid (HB2.out.trans (hb3.mono HB2.out.size))
      clear hb3
      cases g with
      | true =>
        go_wp2_with fail
        refine (HFX.out _).mono ?_
        rintro e w4 ⟨rfl, hb4⟩
        have HB4 := Lib.hid (HB3.out.trans (hb4.mono HB3.out.size))
        clear hb4
        go_wp2_with fail
        go_ret
        exact ⟨rfl, HB4.out⟩
      | false =>
        go_wp2_with fail
        refine (HCK.out _ HB3.out).mono ?_
        rintro e w4 ⟨rfl, hb4⟩
        have HB4 := Lib.hid (HB3.out.trans (hb4.mono HB3.out.size))
        clear hb4
        go_wp2_with fail
        refine (HFX.out _).mono ?_
        rintro e w5 ⟨rfl, hb5⟩
        have HB5 := Lib.hid (HB4.out.trans (hb5.mono HB4.out.size))
        clear hb5
        go_wp2_with fail
        go_ret
        exact ⟨rfl, HB5.out⟩
    have hck0 : checkT (l0.map (·.p)) (l1.map (·.p)) = (0, 0) := checkT_none (checkT_zero.1 hok).1 (checkT_zero.1 hok).2
    obtain ⟨m, hm⟩ : ∃ m, n % (l1.length + 1) = m := ⟨_, rfl⟩
    have hmle : m ≤ l1.length := by have := Nat.mod_lt n (by omega : 0 < l1.length + 1); omega
    have hrem : (n : Int).tmod ((l1.length : Int) + 1) = (m : Int) := by
      rw [Int.tmod_eq_emod_of_nonneg (by omega), ← hm, Int.natCast_emod, Int.natCast_add]
      rfl
    have hmi : (m : Int) ≤ l1.length := by omega
    have htl : (l1.take m).length = m := by rw [List.length_take]; omega
    have hct := fun W (h : Below w.heap.size w W) => count_any a1 cap1 l1 W ((HTR.out.below h).more h.size)
    have hta := fun W (h : Below w.heap.size w W) => tcheck_any a0 cap0 l0 a1 cap1 (l1.take m) W ((HROW.out.below h).more h.size) (((HTR.out.below h).more h.size).take hmle)
    have htb := fun W (h : Below w.heap.size w W) => count_any a1 cap1 (l1.take m) W (((HTR.out.below h).more h.size).take hmle)
    have hda := fun A' (hA : cap1 = m ∨ A' = a1.map (fun x => x.add (m * 2))) W (h : Below w.heap.size w W) => tcheck_any a0 cap0 l0 A' (cap1 - m) (l1.drop m) W ((HROW.out.below h).more h.size) (by rw [List.length_drop]; exact ((HTR.out.below h).more h.size).drop hmle hA)
    have hdb := fun A' (hA : cap1 = m ∨ A' = a1.map (fun x => x.add (m * 2))) W (h : Below w.heap.size w W) => count_any A' (cap1 - m) (l1.drop m) W (by rw [List.length_drop]; exact ((HTR.out.below h).more h.size).drop hmle hA)
    rw [List.map_take, checkT_take hok m, htl] at hta
    rw [htl] at htb
    rw [List.map_drop, checkT_drop hok m, List.length_drop] at hda
    rw [List.length_drop] at hdb
    rw [hck0] at hck
    dsimp only at hck hta hda
    obtain ⟨p1, p2, p3⟩ := partsOf_count l1 m
    have s1 := sum_wrap p1
    have s2 := sum_wrap p2
    have s3 := sum_wrap p3
    clear p1 p2 p3 htl hm
    generalize wrap64 ((evsOf l1).length : Int) = X at hct s1
    generalize wrap64 ((agsOf (evsOf l1)).length : Int) = Y at hct s2
    generalize wrap64 ((sumS (agsOf (evsOf l1)) : Nat) : Int) = Z at hct s3
    generalize wrap64 ((evsOf (l1.take m)).length : Int) = X1 at htb s1
    generalize wrap64 ((agsOf (evsOf (l1.take m))).length : Int) = Y1 at htb s2
    generalize wrap64 ((sumS (agsOf (evsOf (l1.take m))) : Nat) : Int) = Z1 at htb s3
    generalize wrap64 ((evsOf (l1.drop m)).length : Int) = X2 at hdb s1
    generalize wrap64 ((agsOf (evsOf (l1.drop m))).length : Int) = Y2 at hdb s2
    generalize wrap64 ((sumS (agsOf (evsOf (l1.drop m))) : Nat) : Int) = Z2 at hdb s3
    have HCK := Lib.hid hck
    have HCT := Lib.hid hct
    have HTA := Lib.hid hta
    have HTB := Lib.hid htb
    have HOK := Lib.hid hok
    have HS := Lib.hid (And.intro s1 (And.intro s2 s3))
    have HFIN := Lib.hid (fun (q : Pm) hq hf W hb A4 c4 h => tcheck_more a0 cap0 l0 a1 cap1 l1 q w W HROW.out HTR.out hb hok hq hf A4 c4 h)
    have HAT := Lib.hid (fun W (h : Below w.heap.size w W) (i : Nat) (d : Pm) (hd : l1[i]? = some d) => (HTR.out.below h).at hd)
    obtain ⟨i0, hi, hz0, hz1, hz2⟩ := info_parts Try.infoPoint
    clear hck hct hta htb hok hck0 s1 s2 s3
    obtain ⟨Ad, Cd, HDA, HDB, hsl⟩ : ∃ (Ad : Option Addr) (Cd : Nat),
        Hid (∀ W, Below w.heap.size w W → Calls Try.prog 9 #[.slice a0 l0.length cap0, .slice Ad (l1.length - m) Cd] W fun e w' => e = .returned (.tuple #[.int .i64 0, .int .i64 0]) ∧ Below W.heap.size W w') ∧
        Hid (∀ W, Below w.heap.size w W → Calls Try.prog 11 #[.slice Ad (l1.length - m) Cd] W fun e w' => e = .returned (.tuple #[.int .i64 X2, .int .i64 Y2, .int .i64 Z2]) ∧ Below W.heap.size W w') ∧
        (cap1 = m ∧ Ad = a1 ∧ Cd = 0 ∨ cap1 ≠ m ∧ Ad = a1.map (fun x => x.add (m * 2)) ∧ Cd = cap1 - m) := by
      by_cases hcm : cap1 = m
      · refine ⟨a1, 0, Lib.hid fun W h => ?_, Lib.hid fun W h => ?_, .inl ⟨hcm, rfl, rfl⟩⟩
        · have := hda a1 (.inl hcm) W h
          rwa [show cap1 - m = 0 by omega] at this
        · have := hdb a1 (.inl hcm) W h
          rwa [show cap1 - m = 0 by omega] at this
      · exact ⟨_, _, Lib.hid fun W h => hda _ (.inr rfl) W h, Lib.hid fun W h => hdb _ (.inr rfl) W h, .inr ⟨hcm, rfl, rfl⟩⟩
    clear hda hdb
    have hsl2 : (cap1 = m ∧ a1 = Ad ∧ 0 = Cd) ∨ (¬ cap1 = m ∧ Option.map (fun x : Addr => x.add (m * 2)) a1 = Ad ∧ cap1 - m = Cd) := by
      rcases hsl with ⟨h1, h2, h3⟩ | ⟨h1, h2, h3⟩
      · exact .inl ⟨h1, h2.symm, h3.symm⟩
      · exact .inr ⟨h1, h2.symm, h3.symm⟩
    clear hsl
    generalize hLM : l1.length - m = LM at HDA HDB
    rcases hsl2 with ⟨rfl, rfl, rfl⟩ | ⟨hcm, hA, hC⟩
    all_goals
      go_enter Try.func5, Try.ntmps5
      go_wp2_with fail
      refine HG.out.mono ?_
      rintro e w2 ⟨rfl, hb2⟩
      have HB2 := Lib.hid hb2
      clear hb2
      have HGT := Lib.hid (tgreat_any a1 cap1 l1 3000 w2 ((HTR.out.below HB2.out).more HB2.out.size))
      go_wp2_with fail
      refine HGT.out.mono ?_
      rintro e w3 ⟨⟨g, rfl⟩, hb3⟩
      have HB3 := Lib.hid (HB2.out.trans (hb3.mono HB2.out.size))
      clear hb3
      cases g with
      | true =>
        go_wp2_with fail
        refine (HFX.out _).mono ?_
        rintro e w4 ⟨rfl, hb4⟩
        have HB4 := Lib.hid (HB3.out.trans (hb4.mono HB3.out.size))
        clear hb4
        go_wp2_with fail
        go_ret
        exact ⟨rfl, HB4.out⟩
      | false =>
        go_wp2_with fail
        refine (HCK.out _ HB3.out).mono ?_
        rintro e w4 ⟨rfl, hb4⟩
        have HB4 := Lib.hid (HB3.out.trans (hb4.mono HB3.out.size))
        clear hb4
        go_wp2_with fail
        refine (HTA.out _ HB4.out).mono ?_
        rintro e w5 ⟨rfl, hb5⟩
        have HB5 := Lib.hid (HB4.out.trans (hb5.mono HB4.out.size))
        clear hb5
        go_wp2_with fail
        refine (HDA.out _ HB5.out).mono ?_
        rintro e w6 ⟨rfl, hb6⟩
        have HB6 := Lib.hid (HB5.out.trans (hb6.mono HB5.out.size))
        clear hb6
        go_wp2_with fail
        refine (HTB.out _ HB6.out).mono ?_
        rintro e w7 ⟨rfl, hb7⟩
        have HB7 := Lib.hid (HB6.out.trans (hb7.mono HB6.out.size))
        clear hb7
        go_wp2_with fail
        refine (HDB.out _ HB7.out).mono ?_
        rintro e w8 ⟨rfl, hb8⟩
        have HB8 := Lib.hid (HB7.out.trans (hb8.mono HB7.out.size))
        clear hb8
        go_wp2_with fail
        refine (HCT.out _ HB8.out).mono ?_
        rintro e w9 ⟨rfl, hb9⟩
        have HB9 := Lib.hid (HB8.out.trans (hb9.mono HB8.out.size))
        clear hb9
        obtain ⟨s1, s2, s3⟩ := HS.out
        by_cases hl0 : l1.length = 0
        · have hl0i : ((l1.length : Int) == 0) = true := by rw [hl0]; rfl
          go_wp2_with fail
          refine (HFX.out _).mono ?_
          rintro e w10 ⟨rfl, hb10⟩
          have HB10 := Lib.hid (HB9.out.trans (hb10.mono HB9.out.size))
          clear hb10
          go_wp2_with fail
          go_ret
          exact ⟨rfl, HB10.out⟩
        · obtain ⟨j, hj⟩ : ∃ j, l1.length - 1 = j := ⟨_, rfl⟩
          have hkj : (l1.length : Int) - 1 = (j : Int) := by omega
          have hjl : j < l1.length := by omega
          have hl0i : ((l1.length : Int) == 0) = false := beq_eq_false_iff_ne.2 (by omega)
          obtain ⟨d, hd⟩ : ∃ d, l1[j]? = some d := ⟨_, List.getElem?_eq_getElem hjl⟩
          obtain ⟨b, o, rfl, hbb, x0, _, hok2, _⟩ := HTR.out.at hd
          have hfd := hok2.2
          unfold Pm.Fits at hfd
          have HC := Lib.hid (fun W (h : Below w.heap.size w W) => (h.cell (p := ⟨b, o + j * 2, none⟩) hbb).trans x0)
          have x9 := HC.out _ HB9.out
          have HD := Lib.hid hd
          clear x0 hok2 hd
          by_cases htm : d.tm = 0
          · rw [htm] at x9
            clear htm hfd
            go_wp2_with fail
            refine (HFX.out _).mono ?_
            rintro e w10 ⟨rfl, hb10⟩
            have HB10 := Lib.hid (HB9.out.trans (hb10.mono HB9.out.size))
            clear hb10
            go_wp2_with fail
            go_ret
            exact ⟨rfl, HB10.out⟩
          · have htb : (d.tm == 0) = false := beq_eq_false_iff_ne.2 htm
            have hfd1 : 1 ≤ d.tm := by omega
            have htmD : (l1.map (·.p)).getD (l1.length - 1) default = d.p := by rw [hj]; exact getD_of (at_pn HD.out)
            have hf2 := HFIN.out ⟨d.tm - 1, [], none, 0⟩ ⟨by omega, by rw [htmD]; show d.tm - 1 < d.tm; omega⟩ ⟨rfl, rfl, rfl, show 0 ≤ d.tm - 1 ∧ d.tm - 1 < 18446744073709551616 by omega⟩
            obtain ⟨y, hy⟩ : ∃ y, d.tm - 1 = y := ⟨_, rfl⟩
            rw [hy] at hf2
            have HF2 := Lib.hid hf2
            clear htm htmD hf2 hj
            go_wp2_with fail
            have hz9 := HB9.out.size
            have hji : (0 : Int) ≤ (j : Int) := by omega
            have hjli : (j : Int) < (l1.length : Int) := by omega
            have B0 := HB9.out.drew
            have hwr : IntKind.i64.wrap (j : Int) = (j : Int) := by rw [IntKind.wrap_i64]; omega
            have hwu : IntKind.u64.wrap y = y := by rw [IntKind.wrap_u64]; omega
            have HTW := Lib.hid (fun W (h : Below w.heap.size w W) => (HTR.out.below h).1)
            have c1 := B0.alloc hz9 (.cells #[] 39)
            have c2 := c1.alloc (by simp; omega) (.cells #[.int .u64 y, .slice none 0 0] 39)
            have c3 := B0.alloc hz9 (.cells #[.int .u64 y, .slice none 0 0] 39)
            have c4' := c3.alloc (by simp; omega) (.cells #[] 39)
            have own1 : (w9.drew.alloc (.cells #[] 39)).ownsRow w.heap.size 39 2 (.slice (some ⟨w9.heap.size, 0, none⟩) 0 0) 0 [] := own_none hz9
            have own2 := World.ownsRow.alloc own1 (.cells #[.int .u64 y, .slice none 0 0] 39)
            have own4 : ((w9.drew.alloc (.cells #[.int .u64 y, .slice none 0 0] 39)).alloc (.cells #[] 39)).ownsRow w.heap.size 39 2 (.slice (some ⟨w9.heap.size + 1, 0, none⟩) 0 0) 0 [] := by
              have h := own_none (w := w9.drew.alloc (.cells #[.int .u64 y, .slice none 0 0] 39)) (base := w.heap.size) (e := 39) (size := 2) (by simp; omega)
              simpa using h
            have held2 : Held ((w9.drew.alloc (.cells #[] 39)).alloc (.cells #[.int .u64 y, .slice none 0 0] 39)) (w9.heap.size + 1) 39 #[.int .u64 y, .slice none 0 0] := by
              have h := heap_alloc_new (w9.drew.alloc (.cells #[] 39)) (.cells #[.int .u64 y, .slice none 0 0] 39)
              simpa [Held] using h
            have held4 : Held ((w9.drew.alloc (.cells #[.int .u64 y, .slice none 0 0] 39)).alloc (.cells #[] 39)) w9.heap.size 39 #[.int .u64 y, .slice none 0 0] := Held.below (heap_alloc_new w9.drew _) ((Below.refl _ _).alloc (Nat.le_refl _) _) (by simp)
            have HO := Lib.hid (And.intro c1 (And.intro c2 (And.intro c3 (And.intro c4' (And.intro own1 (And.intro own2 (And.intro own4 (And.intro held2 held4))))))))
            clear c1 c2 c3 c4' own1 own2 own4 held2 held4
            have hS0 := HC.out _ B0
            refine wp_region_held_drew (S := fun W => W.cell? ⟨b, o + j * 2, none⟩ = some (.int .u64 d.tm)) (by kernel_rfl) hS0 (fun _ => ?_)
            refine wpAnyH_take (i := 0) (v := .slice a0 l0.length cap0) rfl (by kernel_rfl) (by kernel_rfl) (by kernel_rfl) (fun _ _ _ h => h) (Or.inl ⟨by rfl, fun W hW => by go_simp⟩) hS0 ?_
            try simp only [List.getElem_toArray, List.getElem_cons_zero, Act.put, List.setIfInBounds_toArray, List.set_cons_zero, List.set_cons_succ]
            refine wpAnyH_take (i := 2) (v := .slice (some ⟨b, o, none⟩) l1.length cap1) rfl (by kernel_rfl) (by kernel_rfl) (by kernel_rfl) (fun _ _ _ h => h) (Or.inl ⟨by rfl, fun W hW => by go_simp⟩) hS0 ?_
            try simp only [List.getElem_toArray, List.getElem_cons_zero, List.getElem_cons_succ, Act.put, List.setIfInBounds_toArray, List.set_cons_zero, List.set_cons_succ]
            refine wpAnyH_take (i := 4) (v := .slice (some ⟨b, o, none⟩) l1.length cap1) rfl (by kernel_rfl) (by kernel_rfl) (by kernel_rfl) (fun _ _ _ h => h) (Or.inl ⟨by rfl, fun W hW => by go_simp⟩) hS0 ?_
            try simp only [List.getElem_toArray, List.getElem_cons_zero, List.getElem_cons_succ, Act.put, List.setIfInBounds_toArray, List.set_cons_zero, List.set_cons_succ]
            refine wpAnyH_take (i := 5) (v := .slice (some ⟨b, o, none⟩) l1.length cap1) rfl (by kernel_rfl) (by kernel_rfl) (by kernel_rfl) (fun _ _ _ h => h) (Or.inl ⟨by rfl, fun W hW => by go_simp⟩) hS0 ?_
            try simp only [List.getElem_toArray, List.getElem_cons_zero, List.getElem_cons_succ, Act.put, List.setIfInBounds_toArray, List.set_cons_zero, List.set_cons_succ]
            refine wpAnyH_take (i := 6) (v := .int .i64 l1.length) rfl (by kernel_rfl) (by kernel_rfl) (by kernel_rfl) (fun _ _ _ h => h) (Or.inl ⟨by rfl, fun W hW => by go_simp⟩) hS0 ?_
            try simp only [List.getElem_toArray, List.getElem_cons_zero, List.getElem_cons_succ, Act.put, List.setIfInBounds_toArray, List.set_cons_zero, List.set_cons_succ]
            refine wpAnyH_take (i := 7) (v := .int .i64 j) rfl (by kernel_rfl) (by kernel_rfl) (by kernel_rfl) (fun _ _ _ h => h) (Or.inl ⟨by rfl, fun W hW => by go_simp⟩) hS0 ?_
            try simp only [List.getElem_toArray, List.getElem_cons_zero, List.getElem_cons_succ, Act.put, List.setIfInBounds_toArray, List.set_cons_zero, List.set_cons_succ]
            refine wpAnyH_take (i := 8) (v := .pointer (some ⟨b, o + j * 2, none⟩)) rfl (by kernel_rfl) (by kernel_rfl) (by kernel_rfl) (fun _ _ _ h => h) (Or.inl ⟨by rfl, fun W hW => by go_simp⟩) hS0 ?_
            try simp only [List.getElem_toArray, List.getElem_cons_zero, List.getElem_cons_succ, Act.put, List.setIfInBounds_toArray, List.set_cons_zero, List.set_cons_succ]
            refine wpAnyH_take (i := 9) (v := .pointer (some ⟨b, o + j * 2, none⟩)) rfl (by kernel_rfl) (by kernel_rfl) (by kernel_rfl) (fun _ _ _ h => h) (Or.inl ⟨by rfl, fun W hW => by go_simp⟩) hS0 ?_
            try simp only [List.getElem_toArray, List.getElem_cons_zero, List.getElem_cons_succ, Act.put, List.setIfInBounds_toArray, List.set_cons_zero, List.set_cons_succ]
            refine wpAnyH_take (i := 10) (v := .int .u64 d.tm) rfl (by kernel_rfl) (by kernel_rfl) (by kernel_rfl) (fun _ _ _ h => h) (Or.inl ⟨by rfl, fun W hW => by go_simp⟩) hS0 ?_
            try simp only [List.getElem_toArray, List.getElem_cons_zero, List.getElem_cons_succ, Act.put, List.setIfInBounds_toArray, List.set_cons_zero, List.set_cons_succ]
            refine wpAnyH_take (i := 11) (v := .int .u64 y) rfl (by kernel_rfl) (by kernel_rfl) (by kernel_rfl) (fun _ _ _ h => h) (Or.inl ⟨by rfl, fun W hW => by go_simp⟩) hS0 ?_
            try simp only [List.getElem_toArray, List.getElem_cons_zero, List.getElem_cons_succ, Act.put, List.setIfInBounds_toArray, List.set_cons_zero, List.set_cons_succ]
            refine wpAnyH_take (i := 12) (v := .agg #[.int .u64 y, .slice none 0 0]) rfl (by kernel_rfl) (by kernel_rfl) (by kernel_rfl) (fun _ _ _ h => h) (Or.inl ⟨by rfl, fun W hW => by go_simp⟩) hS0 ?_
            try simp only [List.getElem_toArray, List.getElem_cons_zero, List.getElem_cons_succ, Act.put, List.setIfInBounds_toArray, List.set_cons_zero, List.set_cons_succ]
            refine wpAnyH_ready (rs := [1, 13]) (by kernel_rfl) (by simp) ?_
            refine AllReadyH.cons rfl (fun K hK => ?_) (AllReadyH.cons rfl (fun K hK => ?_) AllReadyH.nil)
            · go_simp
              refine hK.out _ _ (HC.out _ HO.out.1) (fun _ => ?_)
              clear hK K
              try simp only [List.getElem_toArray, List.getElem_cons_zero, List.getElem_cons_succ, Act.put, List.setIfInBounds_toArray, List.set_cons_zero, List.set_cons_succ]
              refine wpAnyH_ready (rs := [3, 13]) (by kernel_rfl) (by simp) ?_
              refine AllReadyH.cons rfl (fun K hK => ?_) (AllReadyH.cons rfl (fun K hK => ?_) AllReadyH.nil)
              · skip
                refine step_append_erow (by rfl) (.tmp 128) (.tmp 129) 23 39 (by rfl) w.heap.size i0 _ 2 32 Try.underlying23 hi hz0 hz1 hz2 rfl (by omega) (.slice (some ⟨w9.heap.size, 0, none⟩) 0 0) 0 [] (by rfl) HO.out.2.2.2.2.1 w.heap.size (.slice (some ⟨b, o, none⟩) l1.length cap1) l1.length (flatN l1) (by rfl) (HTW.out _ HO.out.1) (flatN_length _) (oneN _) (by unfold maxLen; omega) (by omega) (by simp; omega) l1.length (Nat.zero_add _) (flatN l1) rfl ?_
                intro A4 c4 w4 hO4 hg4
                have b4 : Below w.heap.size w w4 := HO.out.1.grown hg4 (by simp; omega) (by intro k e; cases e; first | omega | (dsimp only; omega))
                refine hK.out _ _ (HC.out _ b4) (fun _ => ?_)
                clear hK K
                try simp only [List.getElem_toArray, List.getElem_cons_zero, List.getElem_cons_succ, Act.put, List.setIfInBounds_toArray, List.set_cons_zero, List.set_cons_succ]
                refine wpAnyH_ready (rs := [13]) (by kernel_rfl) (by simp) ?_
                refine AllReadyH.cons rfl (fun K hK => ?_) AllReadyH.nil
                go_simp
                refine hK.out _ _ (HC.out _ (b4.alloc b4.size _)) (fun _ => ?_)
                clear hK K
                try simp only [List.getElem_toArray, List.getElem_cons_zero, List.getElem_cons_succ, Act.put, List.setIfInBounds_toArray, List.set_cons_zero, List.set_cons_succ]
                refine wpAnyH_ready (rs := [14]) (by kernel_rfl) (by simp) ?_
                refine AllReadyH.cons rfl (fun K hK => ?_) AllReadyH.nil
                refine step_append_erow (by rfl) (.tmp 130) (.tmp 140) 23 39 (by rfl) w.heap.size i0 _ 2 32 Try.underlying23 hi hz0 hz1 hz2 rfl (by omega) (.slice A4 l1.length c4) l1.length (flatN l1) (by rfl) (World.ownsRow.alloc hO4 _) (w4.heap.size + 1) (.slice (some ⟨w4.heap.size, 0, none⟩) 1 1) 1 (flatN [⟨y, [], none, 0⟩]) (by rfl) (ERow.held (t := 39) (heap_alloc_new w4 _) (by omega) (by unfold maxLen; omega)) (flatN_length _) (oneN _) (by unfold maxLen; omega) (by omega) (by have := b4.size; simp; omega) (l1.length + 1) rfl (flatN l1 ++ flatN [⟨y, [], none, 0⟩]) rfl ?_
                intro A6 c6 w6 hO6 hg6
                have b6 : Below w.heap.size w w6 := (b4.alloc b4.size _).grown hg6 (by have := b4.size; simp; omega) (fun k e => (World.ownsRow.lt hO4 k e).1)
                refine hK.out _ _ (HC.out _ b6) (fun _ => ?_)
                clear hK K
                try simp only [List.getElem_toArray, List.getElem_cons_zero, List.getElem_cons_succ, Act.put, List.setIfInBounds_toArray, List.set_cons_zero, List.set_cons_succ]
                refine wpAnyH_ready (rs := [15]) (by kernel_rfl) (by simp) ?_
                refine AllReadyH.cons rfl (fun K hK => ?_) AllReadyH.nil
                go_simp
                refine (HF2.out _ b6 _ _ hO6).mono ?_
                rintro e w7 ⟨rfl, hb7⟩
                have b7 : Below w.heap.size w w7 := b6.trans (hb7.mono b6.size)
                refine hK.out _ _ (HC.out _ b7) (fun _ => ?_)
                clear hK K
                try simp only [List.getElem_toArray, List.getElem_cons_zero, List.getElem_cons_succ, Act.put, List.setIfInBounds_toArray, List.set_cons_zero, List.set_cons_succ]
                refine wpAnyH_take (i := 16) (v := .tuple #[.int .i64 8, .int .i64 l1.length]) rfl (by kernel_rfl) (by kernel_rfl) (by kernel_rfl) (fun _ _ _ h => h) (Or.inl ⟨by rfl, fun W hW => by go_simp⟩) (HC.out _ b7) ?_
                try simp only [List.getElem_toArray, List.getElem_cons_zero, List.getElem_cons_succ, Act.put, List.setIfInBounds_toArray, List.set_cons_zero, List.set_cons_succ]
                refine wpAnyH_take (i := 17) (v := .int .i64 8) rfl (by kernel_rfl) (by kernel_rfl) (by kernel_rfl) (fun _ _ _ h => h) (Or.inl ⟨by rfl, fun W hW => by go_simp⟩) (HC.out _ b7) ?_
                try simp only [List.getElem_toArray, List.getElem_cons_zero, List.getElem_cons_succ, Act.put, List.setIfInBounds_toArray, List.set_cons_zero, List.set_cons_succ]
                refine wpAnyH_take (i := 18) (v := .int .i64 l1.length) rfl (by kernel_rfl) (by kernel_rfl) (by kernel_rfl) (fun _ _ _ h => h) (Or.inl ⟨by rfl, fun W hW => by go_simp⟩) (HC.out _ b7) ?_
                try simp only [List.getElem_toArray, List.getElem_cons_zero, List.getElem_cons_succ, Act.put, List.setIfInBounds_toArray, List.set_cons_zero, List.set_cons_succ]
                refine wpAnyH_take (i := 19) (v := .int .i64 8) rfl (by kernel_rfl) (by kernel_rfl) (by kernel_rfl) (fun _ _ _ h => h) (Or.inl ⟨by rfl, fun W hW => by go_simp⟩) (HC.out _ b7) ?_
                try simp only [List.getElem_toArray, List.getElem_cons_zero, List.getElem_cons_succ, Act.put, List.setIfInBounds_toArray, List.set_cons_zero, List.set_cons_succ]
                refine wpAnyH_take (i := 20) (v := .int .i64 l1.length) rfl (by kernel_rfl) (by kernel_rfl) (by kernel_rfl) (fun _ _ _ h => h) (Or.inl ⟨by rfl, fun W hW => by go_simp⟩) (HC.out _ b7) ?_
                try simp only [List.getElem_toArray, List.getElem_cons_zero, List.getElem_cons_succ, Act.put, List.setIfInBounds_toArray, List.set_cons_zero, List.set_cons_succ]
                refine wpAnyH_done (by kernel_rfl) ?_ _
                have HB7 := Lib.hid b7
                clear b7 b6 hO6 hg6 b4 hO4 hg4 hb7
                go_wp2_with fail
                refine (HFX.out _).mono ?_
                rintro e w8 ⟨rfl, hb8⟩
                have HB8 := Lib.hid (HB7.out.trans (hb8.mono HB7.out.size))
                clear hb8
                go_wp2_with fail
                go_ret
                exact ⟨rfl, HB8.out⟩
              · go_simp
                refine hK.out _ _ (HC.out _ HO.out.2.1) (fun _ => ?_)
                clear hK K
                try simp only [List.getElem_toArray, List.getElem_cons_zero, List.getElem_cons_succ, Act.put, List.setIfInBounds_toArray, List.set_cons_zero, List.set_cons_succ]
                refine wpAnyH_ready (rs := [3]) (by kernel_rfl) (by simp) ?_
                refine AllReadyH.cons rfl (fun K hK => ?_) AllReadyH.nil
                refine step_append_erow (by rfl) (.tmp 128) (.tmp 129) 23 39 (by rfl) w.heap.size i0 _ 2 32 Try.underlying23 hi hz0 hz1 hz2 rfl (by omega) (.slice (some ⟨w9.heap.size, 0, none⟩) 0 0) 0 [] (by rfl) HO.out.2.2.2.2.2.1 w.heap.size (.slice (some ⟨b, o, none⟩) l1.length cap1) l1.length (flatN l1) (by rfl) (HTW.out _ HO.out.2.1) (flatN_length _) (oneN _) (by unfold maxLen; omega) (by omega) (by simp; omega) l1.length (Nat.zero_add _) (flatN l1) rfl ?_
                intro A4 c4 w4 hO4 hg4
                have b4 : Below w.heap.size w w4 := HO.out.2.1.grown hg4 (by simp; omega) (by intro k e; cases e; first | omega | (dsimp only; omega))
                have hx4 := Held.grown HO.out.2.2.2.2.2.2.2.1 hg4 (by intro e; injection e with e; dsimp only at e; omega)
                refine hK.out _ _ (HC.out _ b4) (fun _ => ?_)
                clear hK K
                try simp only [List.getElem_toArray, List.getElem_cons_zero, List.getElem_cons_succ, Act.put, List.setIfInBounds_toArray, List.set_cons_zero, List.set_cons_succ]
                refine wpAnyH_ready (rs := [14]) (by kernel_rfl) (by simp) ?_
                refine AllReadyH.cons rfl (fun K hK => ?_) AllReadyH.nil
                refine step_append_erow (by rfl) (.tmp 130) (.tmp 140) 23 39 (by rfl) w.heap.size i0 _ 2 32 Try.underlying23 hi hz0 hz1 hz2 rfl (by omega) (.slice A4 l1.length c4) l1.length (flatN l1) (by rfl) hO4 (w9.heap.size + 2) (.slice (some ⟨w9.heap.size + 1, 0, none⟩) 1 1) 1 (flatN [⟨y, [], none, 0⟩]) (by rfl) (ERow.held (t := 39) hx4 (by omega) (by unfold maxLen; omega)) (flatN_length _) (oneN _) (by unfold maxLen; omega) (by omega) b4.size (l1.length + 1) rfl (flatN l1 ++ flatN [⟨y, [], none, 0⟩]) rfl ?_
                intro A6 c6 w6 hO6 hg6
                have b6 : Below w.heap.size w w6 := b4.grown hg6 b4.size (fun k e => (World.ownsRow.lt hO4 k e).1)
                refine hK.out _ _ (HC.out _ b6) (fun _ => ?_)
                clear hK K
                try simp only [List.getElem_toArray, List.getElem_cons_zero, List.getElem_cons_succ, Act.put, List.setIfInBounds_toArray, List.set_cons_zero, List.set_cons_succ]
                refine wpAnyH_ready (rs := [15]) (by kernel_rfl) (by simp) ?_
                refine AllReadyH.cons rfl (fun K hK => ?_) AllReadyH.nil
                go_simp
                refine (HF2.out _ b6 _ _ hO6).mono ?_
                rintro e w7 ⟨rfl, hb7⟩
                have b7 : Below w.heap.size w w7 := b6.trans (hb7.mono b6.size)
                refine hK.out _ _ (HC.out _ b7) (fun _ => ?_)
                clear hK K
                try simp only [List.getElem_toArray, List.getElem_cons_zero, List.getElem_cons_succ, Act.put, List.setIfInBounds_toArray, List.set_cons_zero, List.set_cons_succ]
                refine wpAnyH_take (i := 16) (v := .tuple #[.int .i64 8, .int .i64 l1.length]) rfl (by kernel_rfl) (by kernel_rfl) (by kernel_rfl) (fun _ _ _ h => h) (Or.inl ⟨by rfl, fun W hW => by go_simp⟩) (HC.out _ b7) ?_
                try simp only [List.getElem_toArray, List.getElem_cons_zero, List.getElem_cons_succ, Act.put, List.setIfInBounds_toArray, List.set_cons_zero, List.set_cons_succ]
                refine wpAnyH_take (i := 17) (v := .int .i64 8) rfl (by kernel_rfl) (by kernel_rfl) (by kernel_rfl) (fun _ _ _ h => h) (Or.inl ⟨by rfl, fun W hW => by go_simp⟩) (HC.out _ b7) ?_
                try simp only [List.getElem_toArray, List.getElem_cons_zero, List.getElem_cons_succ, Act.put, List.setIfInBounds_toArray, List.set_cons_zero, List.set_cons_succ]
                refine wpAnyH_take (i := 18) (v := .int .i64 l1.length) rfl (by kernel_rfl) (by kernel_rfl) (by kernel_rfl) (fun _ _ _ h => h) (Or.inl ⟨by rfl, fun W hW => by go_simp⟩) (HC.out _ b7) ?_
                try simp only [List.getElem_toArray, List.getElem_cons_zero, List.getElem_cons_succ, Act.put, List.setIfInBounds_toArray, List.set_cons_zero, List.set_cons_succ]
                refine wpAnyH_take (i := 19) (v := .int .i64 8) rfl (by kernel_rfl) (by kernel_rfl) (by kernel_rfl) (fun _ _ _ h => h) (Or.inl ⟨by rfl, fun W hW => by go_simp⟩) (HC.out _ b7) ?_
                try simp only [List.getElem_toArray, List.getElem_cons_zero, List.getElem_cons_succ, Act.put, List.setIfInBounds_toArray, List.set_cons_zero, List.set_cons_succ]
                refine wpAnyH_take (i := 20) (v := .int .i64 l1.length) rfl (by kernel_rfl) (by kernel_rfl) (by kernel_rfl) (fun _ _ _ h => h) (Or.inl ⟨by rfl, fun W hW => by go_simp⟩) (HC.out _ b7) ?_
                try simp only [List.getElem_toArray, List.getElem_cons_zero, List.getElem_cons_succ, Act.put, List.setIfInBounds_toArray, List.set_cons_zero, List.set_cons_succ]
                refine wpAnyH_done (by kernel_rfl) ?_ _
                have HB7 := Lib.hid b7
                clear b7 b6 hO6 hg6 b4 hO4 hg4 hb7
                go_wp2_with fail
                refine (HFX.out _).mono ?_
                rintro e w8 ⟨rfl, hb8⟩
                have HB8 := Lib.hid (HB7.out.trans (hb8.mono HB7.out.size))
                clear hb8
                go_wp2_with fail
                go_ret
                exact ⟨rfl, HB8.out⟩
            · go_simp
              refine hK.out _ _ (HC.out _ HO.out.2.2.1) (fun _ => ?_)
              clear hK K
              try simp only [List.getElem_toArray, List.getElem_cons_zero, List.getElem_cons_succ, Act.put, List.setIfInBounds_toArray, List.set_cons_zero, List.set_cons_succ]
              refine wpAnyH_ready (rs := [1]) (by kernel_rfl) (by simp) ?_
              refine AllReadyH.cons rfl (fun K hK => ?_) AllReadyH.nil
              go_simp
              refine hK.out _ _ (HC.out _ HO.out.2.2.2.1) (fun _ => ?_)
              clear hK K
              try simp only [List.getElem_toArray, List.getElem_cons_zero, List.getElem_cons_succ, Act.put, List.setIfInBounds_toArray, List.set_cons_zero, List.set_cons_succ]
              refine wpAnyH_ready (rs := [3]) (by kernel_rfl) (by simp) ?_
              refine AllReadyH.cons rfl (fun K hK => ?_) AllReadyH.nil
              refine step_append_erow (by rfl) (.tmp 128) (.tmp 129) 23 39 (by rfl) w.heap.size i0 _ 2 32 Try.underlying23 hi hz0 hz1 hz2 rfl (by omega) (.slice (some ⟨w9.heap.size + 1, 0, none⟩) 0 0) 0 [] (by rfl) HO.out.2.2.2.2.2.2.1 w.heap.size (.slice (some ⟨b, o, none⟩) l1.length cap1) l1.length (flatN l1) (by rfl) (HTW.out _ HO.out.2.2.2.1) (flatN_length _) (oneN _) (by unfold maxLen; omega) (by omega) (by simp; omega) l1.length (Nat.zero_add _) (flatN l1) rfl ?_
              intro A4 c4 w4 hO4 hg4
              have b4 : Below w.heap.size w w4 := HO.out.2.2.2.1.grown hg4 (by simp; omega) (by intro k e; cases e; first | omega | (dsimp only; omega))
              have hx4 := Held.grown HO.out.2.2.2.2.2.2.2.2 hg4 (by intro e; injection e with e; dsimp only at e; omega)
              refine hK.out _ _ (HC.out _ b4) (fun _ => ?_)
              clear hK K
              try simp only [List.getElem_toArray, List.getElem_cons_zero, List.getElem_cons_succ, Act.put, List.setIfInBounds_toArray, List.set_cons_zero, List.set_cons_succ]
              refine wpAnyH_ready (rs := [14]) (by kernel_rfl) (by simp) ?_
              refine AllReadyH.cons rfl (fun K hK => ?_) AllReadyH.nil
              refine step_append_erow (by rfl) (.tmp 130) (.tmp 140) 23 39 (by rfl) w.heap.size i0 _ 2 32 Try.underlying23 hi hz0 hz1 hz2 rfl (by omega) (.slice A4 l1.length c4) l1.length (flatN l1) (by rfl) hO4 (w9.heap.size + 1) (.slice (some ⟨w9.heap.size, 0, none⟩) 1 1) 1 (flatN [⟨y, [], none, 0⟩]) (by rfl) (ERow.held (t := 39) hx4 (by omega) (by unfold maxLen; omega)) (flatN_length _) (oneN _) (by unfold maxLen; omega) (by omega) b4.size (l1.length + 1) rfl (flatN l1 ++ flatN [⟨y, [], none, 0⟩]) rfl ?_
              intro A6 c6 w6 hO6 hg6
              have b6 : Below w.heap.size w w6 := b4.grown hg6 b4.size (fun k e => (World.ownsRow.lt hO4 k e).1)
              refine hK.out _ _ (HC.out _ b6) (fun _ => ?_)
              clear hK K
              try simp only [List.getElem_toArray, List.getElem_cons_zero, List.getElem_cons_succ, Act.put, List.setIfInBounds_toArray, List.set_cons_zero, List.set_cons_succ]
              refine wpAnyH_ready (rs := [15]) (by kernel_rfl) (by simp) ?_
              refine AllReadyH.cons rfl (fun K hK => ?_) AllReadyH.nil
              go_simp
              refine (HF2.out _ b6 _ _ hO6).mono ?_
              rintro e w7 ⟨rfl, hb7⟩
              have b7 : Below w.heap.size w w7 := b6.trans (hb7.mono b6.size)
              refine hK.out _ _ (HC.out _ b7) (fun _ => ?_)
              clear hK K
              try simp only [List.getElem_toArray, List.getElem_cons_zero, List.getElem_cons_succ, Act.put, List.setIfInBounds_toArray, List.set_cons_zero, List.set_cons_succ]
              refine wpAnyH_take (i := 16) (v := .tuple #[.int .i64 8, .int .i64 l1.length]) rfl (by kernel_rfl) (by kernel_rfl) (by kernel_rfl) (fun _ _ _ h => h) (Or.inl ⟨by rfl, fun W hW => by go_simp⟩) (HC.out _ b7) ?_
              try simp only [List.getElem_toArray, List.getElem_cons_zero, List.getElem_cons_succ, Act.put, List.setIfInBounds_toArray, List.set_cons_zero, List.set_cons_succ]
              refine wpAnyH_take (i := 17) (v := .int .i64 8) rfl (by kernel_rfl) (by kernel_rfl) (by kernel_rfl) (fun _ _ _ h => h) (Or.inl ⟨by rfl, fun W hW => by go_simp⟩) (HC.out _ b7) ?_
              try simp only [List.getElem_toArray, List.getElem_cons_zero, List.getElem_cons_succ, Act.put, List.setIfInBounds_toArray, List.set_cons_zero, List.set_cons_succ]
              refine wpAnyH_take (i := 18) (v := .int .i64 l1.length) rfl (by kernel_rfl) (by kernel_rfl) (by kernel_rfl) (fun _ _ _ h => h) (Or.inl ⟨by rfl, fun W hW => by go_simp⟩) (HC.out _ b7) ?_
              try simp only [List.getElem_toArray, List.getElem_cons_zero, List.getElem_cons_succ, Act.put, List.setIfInBounds_toArray, List.set_cons_zero, List.set_cons_succ]
              refine wpAnyH_take (i := 19) (v := .int .i64 8) rfl (by kernel_rfl) (by kernel_rfl) (by kernel_rfl) (fun _ _ _ h => h) (Or.inl ⟨by rfl, fun W hW => by go_simp⟩) (HC.out _ b7) ?_
              try simp only [List.getElem_toArray, List.getElem_cons_zero, List.getElem_cons_succ, Act.put, List.setIfInBounds_toArray, List.set_cons_zero, List.set_cons_succ]
              refine wpAnyH_take (i := 20) (v := .int .i64 l1.length) rfl (by kernel_rfl) (by kernel_rfl) (by kernel_rfl) (fun _ _ _ h => h) (Or.inl ⟨by rfl, fun W hW => by go_simp⟩) (HC.out _ b7) ?_
              try simp only [List.getElem_toArray, List.getElem_cons_zero, List.getElem_cons_succ, Act.put, List.setIfInBounds_toArray, List.set_cons_zero, List.set_cons_succ]
              refine wpAnyH_done (by kernel_rfl) ?_ _
              have HB7 := Lib.hid b7
              clear b7 b6 hO6 hg6 b4 hO4 hg4 hb7
              go_wp2_with fail
              refine (HFX.out _).mono ?_
              rintro e w8 ⟨rfl, hb8⟩
              have HB8 := Lib.hid (HB7.out.trans (hb8.mono HB7.out.size))
              clear hb8
              go_wp2_with fail
              go_ret
              exact ⟨rfl, HB8.out⟩

set_option maxRecDepth 100000 in
theorem lifted (os : Os) (started : os.Started) (H : Type) (enc : TypeId × Value → H) :
    ReturnsInHanded {} Try.checked os 5 .any (Rows.tracePartsSpec.pre6 enc Try.prog Try.f5 Rows.tracePartsRow.domain false) (Rows.tracePartsSpec.post enc Try.prog Try.f5 false true false false) := by
  refine returnsInHanded_of_change_sized (C := Try.checked) own started (by kernel_rfl) Try.func5
    (ChangeSpec.witness6 (enc := enc) (C := Try.checked) false ⟨#[], #[.slice none 0 0, .slice none 0 0, .int .u16 0], []⟩ 8 (by kernel_rfl) (by kernel_rfl) (by kernel_rfl) (by kernel_rfl)) ?_
  intro W base args ds gs before hval0 hW hcnd hsz _
  have hval : ∀ (j : Nat) t v, Try.f5.params[j]? = some t → args[j]? = some v → Value.okWide Try.prog W .any base t v := hval0
  have hW' := hW
  obtain ⟨p, q, hA0, hV, rfl, hfz, hnd⟩ := hW
  have hA : DataW.TrodAll enc Try.prog W 0 (fun _ => true) true Try.f5.params.toList args.toList ds p := hA0
  rw [Try.params5] at hA hval hsz
  obtain ⟨v0, vs0, d0, ds0, p0, q0, hargs, rfl, rfl, h0, r0⟩ := trodAll_cons hA
  obtain ⟨v1, vs1, d1, ds1, p1, q1, rfl, rfl, rfl, h1, r1⟩ := trodAll_cons r0
  obtain ⟨v2, vs2, d2, ds2, p2, q2, rfl, rfl, rfl, h2, r2⟩ := trodAll_cons r1
  obtain ⟨rfl, rfl, rfl⟩ := trodAll_nil r2
  obtain rfl : args = #[v0, v1, v2] := by cases args; simp_all
  obtain ⟨rfl, rfl⟩ := trodVars_none hV
  obtain ⟨a0, len0, cap0, rfl⟩ := okWide_slice Try.underlying22 (hval 0 22 v0 rfl rfl)
  have k0 := h0
  have lt0 : ∀ x ∈ p0, x.block < W.heap.size := by obtain ⟨m, hm⟩ := k0; exact DataW.trod_lt m _ _ _ hm
  obtain ⟨l0, w0⟩ : ∃ ds : List Pd, ds.length = len0 ∧ PredRow W W.heap.size (.slice a0 len0 cap0) ds := by
    obtain ⟨fuel, hf⟩ := h0
    exact preds_of hf
  obtain ⟨a1, len1, cap1, rfl⟩ := okWide_slice Try.underlying23 (hval 1 23 v1 rfl rfl)
  have k1 := h1
  have lt1 : ∀ x ∈ p1, x.block < W.heap.size := by obtain ⟨m, hm⟩ := k1; exact DataW.trod_lt m _ _ _ hm
  obtain ⟨l1, w1⟩ : ∃ ds : List Pm, ds.length = len1 ∧ TrRow W W.heap.size (.slice a1 len1 cap1) ds ∧ TrFit ds := by
    obtain ⟨fuel, hf⟩ := h1
    exact points_fit hf (fun n hn => by simpa using List.all_eq_true.1 hsz n (DataW.weights_mem_each (j := 1) rfl rfl n hn))
  obtain ⟨a2, rfl, rfl, rfl, w2⟩ := open_int Try.underlying50 (hval 2 50 v2 rfl rfl) h2
  clear hA0 hval0
  refine (walk a0 len0 cap0 l0 a1 len1 cap1 l1 a2 W w0 w1 w2).mono fun e W' ⟨he, bel⟩ => ?_
  subst he
  exact ⟨_, rfl, _, _, _, [], _, [], hW', trodAll_mk1 (shut_bool Try.underlying4 _), (trodAll_cons_mk (Below.trod laidOut (by kernel_rfl) (of_decide_eq_true (by kernel_rfl)) k0 bel lt0) (trodAll_cons_mk (Below.trod laidOut (by kernel_rfl) (of_decide_eq_true (by kernel_rfl)) k1 bel lt1) (trodAll_cons_mk (shut_int Try.underlying50 w2) (trodAll_mk0)))), rfl, bel.frame _, fun h => by cases h⟩

theorem over : Rows.tracePartsRow.holds Try.pinned (OpenSpec.ofChange Rows.tracePartsSpec) :=
  OpenClaim.holds_of_wide 5 Try.f5 rfl rfl rfl rfl rfl rfl rfl ⟨rfl, rfl, rfl, rfl, rfl⟩ rfl rfl rfl rfl rfl (by kernel_rfl) Try.func5 (by kernel_rfl)
    (of_decide_eq_true (by kernel_rfl)) (by unfold Func.isWrapper; first | (rw [if_pos (by decide +kernel)]; kernel_rfl) | (rw [if_neg (by decide +kernel)]; exact ⟨rfl, rfl⟩))
    (fun os started H enc _ => lifted os started H enc)

theorem proved : Rows.TracePartsSaid := over
#print axioms proved
end Go.Proofs.Ytcegnkbafbepbaa.traceParts
