/-
  At every slice of bytes and every slice of steps the law on all that a cursor answers answers true, and nothing that lay in memory has changed. No condition.
-/
import Derived.Test.YtbbcbhecppnboaaRows
import Derived.WalkKit
import Derived.ProofKit
import Derived.OpenShut
import Derived.ShutString
import Derived.ChangeOld
import Derived.Below
import Derived.Deep.LoopGhost
import Derived.Deep.DeepCutAuto
import Derived.Deep.CutBlock
import Derived.Deep.RegionHeld3
import Derived.Test.YtbbcbhecppnboaaCurSteps
import Derived.Test.YtbbcbhecppnboaaCurRef3
import Derived.Test.YtbbcbhecppnboaaArg
namespace Go.Proofs.Ytbbcbhecppnboaa.cursorPlays
open Go.Proofs.Ytbbcbhecppnboaa
open Go.ChangeShapes Go.WideShapes Go.ChangeAt Go.RowKit
open Go.ChangeMaps (open_string shut_string)
set_option linter.unusedVariables false

theorem own : ownKnob Try.prog.godebug = none := by kernel_rfl
theorem laidOut : laidOutB Try.prog = true := by kernel_rfl


/-- The cursor, and the document's, in memory, apart from what else is written. -/
def Setup (w : World) (go capo N : Nat) (xs : List Int) (c x : Value) (wx : World) : Prop :=
  ∃ K g h, c = .pointer (some ⟨g, 0, none⟩) ∧ x = .pointer (some ⟨h, 0, none⟩) ∧ K ≤ g ∧ w.heap.size ≤ K ∧ (h < K ∨ g < h) ∧ go < K ∧ go ≠ h ∧ w.heap.size ≤ h ∧ Cur 91 wx K g xs 0 0 ∧
    Held wx h 59 #[.string (strOfNums xs), .int .i64 0, .int .i64 0] ∧ wx.ownsRow w.heap.size 5 1 (.slice (some ⟨go, 0, none⟩) N capo) N (xs.map (.int .u8)) ∧ Below w.heap.size w wx
/-- Three cells of a block, written one by one. -/
def set3 (w : World) (h : Nat) (x y z : Value) : World := ((w.setCell ⟨h, 0, none⟩ x).setCell ⟨h, 1, none⟩ y).setCell ⟨h, 2, none⟩ z
theorem set3_grown (w : World) (h : Nat) (x y z : Value) : w.grownBy (set3 w h x y z) (some h) := grown_trans (grown_trans (grown_put w h 0 x) (grown_put _ h 1 y)) (grown_put _ h 2 z)
theorem set3_held {w : World} {h : Nat} {t : TypeId} {a b c : Value} (H : Held w h t #[a, b, c]) (x y z : Value) : Held (set3 w h x y z) h t #[x, y, z] := by
  have := ((H.put 0 x).put 1 y).put 2 z
  unfold set3
  simpa using this
theorem set3_below {w w' : World} {B h : Nat} (hb : Below B w w') (hB : B ≤ h) (x y z : Value) : Below B w (set3 w' h x y z) := ((hb.setCell hB x).setCell hB y).setCell hB z
theorem set3_block (w : World) (h : Nat) (x y z : Value) {k : Nat} (hk : k ≠ h) : (set3 w h x y z).heap[k]? = w.heap[k]? :=
  ((Below.heap_setCell _ ⟨h, 2, none⟩ z k hk).trans (Below.heap_setCell _ ⟨h, 1, none⟩ y k hk)).trans (Below.heap_setCell _ ⟨h, 0, none⟩ x k hk)

theorem setup_a {w w2 w3 : World} {go capo N g : Nat} {xs : List Int} {SS : ByteArray} (hS : strOfNums xs = SS) (hb2 : Below w.heap.size w w2) (hown : w2.ownsRow w.heap.size 5 1 (.slice (some ⟨go, 0, none⟩) N capo) N (xs.map (.int .u8)))
    (hgo : go < w2.heap.size) (hb3 : Below w2.drew.heap.size w2.drew w3) (hK : w2.drew.heap.size ≤ g) (hc : Cur 91 w3 w2.drew.heap.size g xs 0 0) :
    Setup w go capo N xs (.pointer (some ⟨g, 0, none⟩)) (.pointer (some ⟨w3.heap.size, 0, none⟩)) (w3.alloc (.cells #[.string SS, .int .i64 0, .int .i64 0] 59)) := by
  have hb3' : Below w2.heap.size w2 w3 := ⟨hb3.os, hb3.tape, hb3.output, hb3.size, hb3.block⟩
  have hK' : w2.heap.size ≤ g := hK
  have hlt := hc.lt
  have h23 := hb3'.size
  have h12 := hb2.size
  have hown3 := hown.kept (grown_below hb3' none) (.inr (by simp [Value.ownBlock]))
  have hB3 : Below w.heap.size w w3 := hb2.trans (hb3'.mono h12)
  refine ⟨w2.heap.size, g, w3.heap.size, rfl, rfl, hK', h12, .inr hlt, hgo, by omega, by omega, ?_, ?_, hown3.alloc _, hB3.alloc hB3.size _⟩
  · exact Cur.below (w := w3) hc ((Below.refl _ _).alloc (Nat.le_refl _) _) hK
  · rw [hS]
    exact heap_alloc_new _ _

theorem setup_b {w w2 w3 : World} {go capo N g : Nat} {xs : List Int} {SS : ByteArray} (hS : strOfNums xs = SS) (hb2 : Below w.heap.size w w2) (hown : w2.ownsRow w.heap.size 5 1 (.slice (some ⟨go, 0, none⟩) N capo) N (xs.map (.int .u8)))
    (hgo : go < w2.heap.size) (z : Array Value) (x0 x1 x2 : Value) (hz : z = #[x0, x1, x2]) (hb3 : Below (w2.alloc (.cells z 59)).drew.heap.size (w2.alloc (.cells z 59)).drew w3) (hK : (w2.alloc (.cells z 59)).drew.heap.size ≤ g) (hc : Cur 91 w3 (w2.alloc (.cells z 59)).drew.heap.size g xs 0 0) :
    Setup w go capo N xs (.pointer (some ⟨g, 0, none⟩)) (.pointer (some ⟨w2.heap.size, 0, none⟩)) (set3 w3 w2.heap.size (.string SS) (.int .i64 0) (.int .i64 0)) := by
  subst hz
  have h12 := hb2.size
  have hb3' : Below (w2.alloc (.cells #[x0, x1, x2] 59)).heap.size (w2.alloc (.cells #[x0, x1, x2] 59)) w3 := ⟨hb3.os, hb3.tape, hb3.output, hb3.size, hb3.block⟩
  have hsz : (w2.alloc (.cells #[x0, x1, x2] 59)).drew.heap.size = w2.heap.size + 1 := World.size_alloc w2 _
  rw [hsz] at hK hc
  have hlt := hc.lt
  have hown3 := ((hown.alloc (.cells #[x0, x1, x2] 59)).kept (grown_below hb3' none) (.inr (by simp [Value.ownBlock])))
  have hH : Held w3 w2.heap.size 59 #[x0, x1, x2] := Held.below (heap_alloc_new w2 _) hb3' (by simp)
  have hB3 : Below w.heap.size w w3 := (hb2.alloc h12 _).trans (hb3'.mono (by simp; omega))
  refine ⟨w2.heap.size + 1, g, w2.heap.size, rfl, rfl, hK, by omega, .inl (by omega), by omega, by omega, h12, ?_, ?_, ?_, set3_below hB3 h12 _ _ _⟩
  · exact hc.grown (set3_grown w3 w2.heap.size _ _ _) (.inl (by omega)) hK
  · rw [hS]
    exact set3_held hH _ _ _
  · exact hown3.kept (set3_grown w3 w2.heap.size _ _ _) (.inr (by simp [Value.ownBlock]; omega))

/-- Both cursors at the same place, with the same error. -/
def Meet (w : World) (K g h N : Nat) (xs : List Int) (p : Nat) (e : Int) (wx : World) : Prop :=
  p ≤ N ∧ Cur 91 wx K g xs p e ∧ Held wx h 59 #[.string (strOfNums (xs.drop p)), .int .i64 p, .int .i64 e] ∧ Below w.heap.size w wx
def After (w : World) (K g h N : Nat) (xs : List Int) (wx : World) : Prop := ∃ p e, Meet w K g h N xs p e wx

section
variable {w W W4 : World} {K g h N : Nat} {xs : List Int} {p p' : Nat} {e e' : Int} {S' : ByteArray}
/-- The call, then the store. -/
theorem after_a (hM : Meet w K g h N xs p e W) (hKg : K ≤ g) (hwK : w.heap.size ≤ K) (hh : h < K ∨ g < h) (hwh : w.heap.size ≤ h) (hS : strOfNums (xs.drop p') = S') (hp : p' ≤ N) (hg4 : W.drew.grownBy W4 (some g)) (hc4 : Cur 91 W4 K g xs p' e') :
    After w K g h N xs (set3 W4 h (.string S') (.int .i64 p') (.int .i64 e')) := by
  obtain ⟨_, hc, hH, hB⟩ := hM
  have hg4' := grown_drew hg4
  have hB4 : Below w.heap.size w W4 := hB.grown hg4' hB.size (fun k hk => by injection hk with hk; omega)
  refine ⟨p', e', hp, hc4.grown (set3_grown W4 h _ _ _) hh hKg, ?_, set3_below hB4 hwh _ _ _⟩
  rw [hS]
  exact set3_held (hH.grown hg4' (fun q => by injection q with q; omega)) _ _ _
/-- The store, then the call. -/
theorem after_b (hM : Meet w K g h N xs p e W) (hKg : K ≤ g) (hwK : w.heap.size ≤ K) (hh : h < K ∨ g < h) (hwh : w.heap.size ≤ h) (hS : strOfNums (xs.drop p') = S') (hp : p' ≤ N) (hg4 : (set3 W h (.string S') (.int .i64 p') (.int .i64 e')).drew.grownBy W4 (some g)) (hc4 : Cur 91 W4 K g xs p' e') :
    After w K g h N xs W4 := by
  obtain ⟨_, hc, hH, hB⟩ := hM
  have hg4' := grown_drew hg4
  have hB1 := set3_below hB hwh (.string S') (.int .i64 p') (.int .i64 e')
  refine ⟨p', e', hp, hc4, ?_, hB1.grown hg4' hB1.size (fun k hk => by injection hk with hk; omega)⟩
  rw [hS]
  exact (set3_held hH (.string S') (.int .i64 p') (.int .i64 e')).grown hg4' (fun q => by injection q with q; omega)
theorem Meet.below (hM : Meet w K g h N xs p e W) (hb : Below W.heap.size W W4) (hKg : K ≤ g) : Meet w K g h N xs p e W4 := by
  obtain ⟨h1, hc, hH, hB⟩ := hM
  exact ⟨h1, hc.below hb hKg, hH.below hb hH.lt, hB.trans (hb.mono hB.size)⟩
end


theorem set3_block_drew (w : World) (h : Nat) (x y z : Value) {k : Nat} (hk : k ≠ h) : (set3 w h x y z).drew.heap[k]? = w.heap[k]? := set3_block w h x y z hk
theorem set3_cell_drew {w : World} {h : Nat} {x y z v : Value} {q o : Nat} (hc : w.cell? ⟨q, o, none⟩ = some v) (hne : q ≠ h) : (set3 w h x y z).drew.cell? ⟨q, o, none⟩ = some v :=
  (World.cell?_of_block (w := w) (w' := (set3 w h x y z).drew) (a := ⟨q, o, none⟩) (set3_block w h x y z hne)).trans hc
theorem cell_grown {w w' : World} {g q o : Nat} {v : Value} (hg : w.grownBy w' (some g)) (hc : w.cell? ⟨q, o, none⟩ = some v) (hne : q ≠ g) : w'.cell? ⟨q, o, none⟩ = some v :=
  (World.cell?_of_block (hg.block q (World.block_lt_of_cell? w ⟨q, o, none⟩ hc) (fun e => hne (by injection e)))).trans hc
theorem after_c {w W : World} {K g h N : Nat} {xs : List Int} {p : Nat} {e : Int} {a b c : Value} {S : ByteArray} (hS : strOfNums (xs.drop p) = S) (hp : p ≤ N) (hKg : K ≤ g) (hh : h < K ∨ g < h) (hwh : w.heap.size ≤ h) (hc : Cur 91 W K g xs p e) (hH : Held W h 59 #[a, b, c]) (hB : Below w.heap.size w W) :
    After w K g h N xs (set3 W h (.string S) (.int .i64 p) (.int .i64 e)) :=
  ⟨p, e, hp, hc.grown (set3_grown W h _ _ _) hh hKg, by rw [hS]; exact set3_held hH _ _ _, set3_below hB hwh _ _ _⟩

set_option maxRecDepth 100000 in
set_option maxHeartbeats 4000000 in
theorem walk (a0 : Option Addr) (len0 cap0 : Nat) (z0 : List Int) (a1 : Option Addr) (len1 cap1 : Nat) (l : List (Int × Int)) (w : World) (w0 : IsRow .u8 w a0 len0 cap0 z0) (w1 : IsSteps w a1 len1 cap1 l) :
    Calls Try.prog 10 #[.slice a0 len0 cap0, .slice a1 len1 cap1] w fun e w' => e = .returned (.bool true) ∧ Below w.heap.size w w' := by
  obtain ⟨xs, rfl, hrow, hby⟩ := Row.of_arg w0
  clear w0
  obtain ⟨hl1, hl2, hl3, hy0, hy1⟩ := id w1
  clear hy0 hy1
  unfold maxLen at hl3
  have hcap0 : xs.length ≤ 9223372036854775807 := by
    obtain ⟨_, _, hv, q1, q2, _, _⟩ := hrow
    injection hv with e1 e2 e3
    subst e3
    unfold maxLen at q2
    omega
  by_cases hg0 : 300 < xs.length
  · have i0 : (300 : Int) < (xs.length : Int) := by omega
    go_enter Try.func10, Try.ntmps10
    go_wp2_with (go_at_call 30; refine (cfixed_any _).mono ?_; rintro e w3 ⟨rfl, hb3⟩)
    go_ret
    exact ⟨rfl, hb3⟩
  · by_cases hg1 : 60 < len1
    · have i0 : (60 : Int) < (len1 : Int) := by omega
      go_enter Try.func10, Try.ntmps10
      go_wp2_with (go_at_call 30; refine (cfixed_any _).mono ?_; rintro e w3 ⟨rfl, hb3⟩)
      go_ret
      exact ⟨rfl, hb3⟩
    · obtain ⟨i0, hi, hz0, hz1, hz2⟩ := info_parts Try.infoU8
      have HST := Lib.hid w1; clear w1
      have HL1 := Lib.hid hl1; clear hl1
      have HBY := Lib.hid hby; clear hby
      obtain ⟨N, hN⟩ : ∃ N, xs.length = N := ⟨_, rfl⟩
      have HNN := Lib.hid hN
      rw [hN] at hg0 hcap0 hrow ⊢
      clear hN
      have HR := Lib.hid hrow; clear hrow
      have HCB : Hid (∀ W, Below w.heap.size w W → (convert 22 9 (.slice a0 N cap0)).run Try.prog W = .ok (.string (strOfNums xs)) W) := fun W h => (HR.out.below h).convert (P := Try.prog) 22 5 9 Try.underlying22 Try.underlying5 Try.underlying9
      go_enter Try.func10, Try.ntmps10
      go_wp2_with (at_builtin; refine wpList_append_row _ rfl _ _ 22 rfl w.heap.size 5 i0 (.int .u8 0) Try.underlying22 hi hz0 hz1 hz2 rfl (.slice (some ⟨w.heap.size, 0, none⟩) 0 0) 0 [] (by rfl) (own_none _ _ _ (Nat.le_refl _)) w.heap.size _ xs rfl (HR.out.below ((Below.refl _ _).alloc (Nat.le_refl _) _)) (by rw [HNN.out]; omega) (by simp) ?_; intro v2 w2 hown2 hg2 hn2)
      have hne : v2 ≠ .slice none 0 0 := fun h => by have := (hn2.1 h).1; simp at this
      rw [Nat.zero_add, List.nil_append, HNN.out] at hown2
      obtain ⟨go, capo, rfl⟩ := ownsRow_some hown2 hne
      have hb2 : Below w.heap.size w w2 := ((Below.refl _ _).alloc (Nat.le_refl _) _).grown hg2 (by simp) (fun k hk => by simp [Value.ownBlock] at hk; omega)
      obtain ⟨hgo1, hgo2⟩ := hown2.lt go rfl
      have hs2 := hb2.size
      have hr2 := Row.of_own hown2
      have HNEW : Hid (∀ W, Below w2.heap.size w2 W → Calls Try.prog 31 #[.slice (some ⟨go, 0, none⟩) N capo] W (Fresh W xs)) := fun W h => by
        have hrw := (hr2.below h).more h.size
        have := new_any (some ⟨go, 0, none⟩) capo xs (by rw [HNN.out]; omega) W (by rw [HNN.out]; exact hrw)
        rwa [HNN.out] at this
      have hcapo : N ≤ capo ∧ capo ≤ 9223372036854775807 := by
        obtain ⟨_, _, hv, q1, q2, _, _⟩ := hr2
        injection hv with e1 e2 e3
        subst e3
        unfold maxLen at q2
        rw [HNN.out] at q1
        omega
      have HOWN := Lib.hid hown2; clear hown2 hr2 hn2 hne hg2
      obtain ⟨SS, hSS⟩ : ∃ SS, strOfNums xs = SS := ⟨_, rfl⟩
      have HSS := Lib.hid hSS; clear hSS
      rw [HSS.out] at HCB
      go_cut [6, 7] (fun c x wx => Setup w go capo N xs c x wx)
      case first =>
        go_region_held3 (fun W => (convert 22 9 (.slice a0 N cap0)).run Try.prog W = .ok (.string SS) W) (first | (refine HCB.out _ ?_; repeat' (first | exact hB3 | exact hb2 | exact Below.refl _ _ | refine Below.drew ?_ | refine Below.setCell ?_ (by (try simp) <;> omega) _ | refine Below.alloc ?_ (by (try simp) <;> omega) _)))
          (first | ((refine (HNEW.out _ (by repeat' (first | exact hB3 | exact hb2 | exact Below.refl _ _ | refine Below.drew ?_ | refine Below.setCell ?_ (by (try simp) <;> omega) _ | refine Below.alloc ?_ (by (try simp) <;> omega) _))).mono ?_); rintro r w3 ⟨g, rfl, hKg, hc3, hb3⟩; (have hB3 : Below w.heap.size w w3 := by { refine Below.trans (b := _) ?_ (hb3.mono (by (try simp) <;> omega)); repeat' (first | exact hB3 | exact hb2 | exact Below.refl _ _ | refine Below.drew ?_ | refine Below.setCell ?_ (by (try simp) <;> omega) _ | refine Below.alloc ?_ (by (try simp) <;> omega) _) }); have HC3 := Lib.hid hc3; clear hc3; have hs3 := hB3.size; obtain ⟨hcc, hff⟩ := old_cells hb3))
        all_goals go_wp2_with fail
        all_goals go_meet
        · exact setup_a HSS.out hb2 HOWN.out hgo2 hb3 hKg HC3.out
        · exact setup_b HSS.out hb2 HOWN.out hgo2 _ _ _ _ rfl hb3 hKg HC3.out
      case rest =>
        clear HNEW HCB hi hz0 hz1 hz2 HOWN hb2 hgo2 hs2 HSS HR
        obtain ⟨K, g, h, rfl, rfl, hKg, hwK, hh, hgoK, hgoh, hwh, hcur, hheld, hown, hbc⟩ := hcut
        have HC := Lib.hid hcur; clear hcur
        have HH := Lib.hid hheld; clear hheld
        have HO := Lib.hid hown; clear hown
        have HU0 : Hid (∀ u ∈ xs.map (Value.int .u8), ∃ z, u = .int .u8 z) := fun u hu => by
          obtain ⟨z, _, rfl⟩ := List.mem_map.1 hu
          exact ⟨z, rfl⟩
        go_wp2_with fail
        go_loopg [43] N (fun gk i wr => ∃ (k : Nat) (us : List Value), k + gk = N ∧ i = .int .i64 k ∧ Hid (∀ u ∈ us, ∃ z, u = .int .u8 z) ∧ Hid (wr.ownsRow w.heap.size 5 1 (.slice (some ⟨go, 0, none⟩) N capo) N us) ∧ Hid (Cur 91 wr K g xs 0 0) ∧ Hid (Held wr h 59 #[.string (strOfNums xs), .int .i64 0, .int .i64 0]) ∧ Below w.heap.size w wr)
        case atStart => exact ⟨0, _, by omega, rfl, HU0, HO, HC, HH, hbc⟩
        case round =>
          clear HC HH HO HU0 hbc
          obtain ⟨k, us, hk, rfl, HU, HO, HC, HH, hbw⟩ := hrel
          by_cases hlt : k < N
          · have hul : us.length = N := by have := HO.out.1; simpa using this
            obtain ⟨x, hx⟩ : ∃ x, us[k]? = some x := ⟨_, List.getElem?_eq_getElem (by rw [hul]; exact hlt)⟩
            obtain ⟨z, rfl⟩ := HU.out x (List.mem_of_getElem? hx)
            have c0 := (HO.out.cellAt k (by omega)).trans hx
            have f0 := HO.out.frozenAt k
            have i1 : (k : Int) < (N : Int) := by omega
            clear hul hx
            go_wp2_with fail
            go_roundg (gk - 1)
            case measure => omega
            case rel =>
              refine ⟨k + 1, us.set k (.int .u8 _), by omega, by go_num, ?_, (HO.out.stored k _).1, HC.out.grown (grown_put _ _ _ _) (.inl hgoK) hKg, HH.out.grown (grown_put _ _ _ _) (fun q => by injection q with q; omega), hbw.setCell hgo1 _⟩
              intro u hu
              rcases List.mem_or_eq_of_mem_set hu with h | h
              · exact HU.out u h
              · exact ⟨_, h⟩
          · obtain rfl : k = N := by omega
            have HM : Hid (Meet w K g h k xs 0 0 wr) := ⟨Nat.zero_le _, HC.out, HH.out, hbw⟩
            clear HC HH HO HU hbw
            go_wp2_with fail
            go_loopg [55] len1 (fun gj i wr => ∃ (j p : Nat) (e : Int), j + gj = len1 ∧ i = .int .i64 j ∧ Hid (Meet w K g h k xs p e wr))
            case atStart => exact ⟨0, 0, 0, by omega, rfl, HM⟩
            case round =>
              clear HM
              obtain ⟨j, p, e, hj, rfl, HM⟩ := hrel
              by_cases hlt : j < len1
              · obtain ⟨x, hx⟩ : ∃ x, l[j]? = some x := ⟨_, List.getElem?_eq_getElem (by rw [HL1.out]; exact hlt)⟩
                have hbw := HM.out.2.2.2
                obtain ⟨_, _, _, hcl, hrg⟩ := HST.out.below hbw
                obtain ⟨b, o, rfl, hbl, hcc⟩ := hcl (by omega)
                obtain ⟨s0, s1⟩ := hcc j x hx
                obtain ⟨⟨r1, r2⟩, ⟨r3, r4⟩⟩ := hrg x (List.mem_of_getElem? hx)
                obtain ⟨kd, nn⟩ := x
                simp only at s0 s1 r1 r2 r3 r4
                clear hcl hcc hrg hx
                have i1 : (j : Int) < (len1 : Int) := by omega
                go_upto_block 4 with fail
                have H1 : Held (wr.alloc (.cells #[.int .i64 kd, .int .i64 nn] 61)) wr.heap.size 61 #[.int .i64 kd, .int .i64 nn] := heap_alloc_new _ _
                have HM1 := Lib.hid (HM.out.below ((Below.refl _ _).alloc (Nat.le_refl _) (.cells #[.int .i64 kd, .int .i64 nn] 61)) hKg)
                have hz1 : h < wr.heap.size := HM.out.2.2.1.lt
                have hz2 : g < wr.heap.size := HM.out.2.1.lt
                clear HM hbw s0 s1 hbl
                generalize wr.alloc (.cells #[.int .i64 kd, .int .i64 nn] 61) = W1 at *
                generalize wr.heap.size = N1 at *
                have c1 := H1.cell 1
                simp only [List.getElem?_toArray, List.getElem?_cons_zero, List.getElem?_cons_succ] at c1
                have HN1 := Lib.hid H1; clear H1
                go_cut [11] (fun same wx => same = .bool true ∧ After w K g h k xs wx)
                case first =>
                  have hpk : p ≤ k := HM1.out.1
                  have hB1 : Below w.heap.size w W1 := HM1.out.2.2.2
                  obtain ⟨S, hS⟩ : ∃ S, strOfNums (xs.drop p) = S := ⟨_, rfl⟩
                  have H2 : Held W1 h 59 #[.string S, .int .i64 p, .int .i64 e] := by rw [← hS]; exact HM1.out.2.2.1
                  have HS := Lib.hid hS; clear hS
                  have d0 := H2.cell 0
                  have d1 := H2.cell 1
                  have d2 := H2.cell 2
                  simp only [List.getElem?_toArray, List.getElem?_cons_zero, List.getElem?_cons_succ] at d0 d1 d2
                  have HH2 := Lib.hid H2; clear H2
                  by_cases k0 : kd = 0
                  · subst k0
                    have hrb := rbyte_any (xs.drop p) p e (by rw [List.length_drop, HNN.out]; omega) (drop_bytes HBY.out p) W1
                    have hcall : ∀ W, Cur 91 W K g xs p e → Calls Try.prog 33 #[.pointer (some ⟨g, 0, none⟩)] W (Took u8V W K g xs (tk 0 p e (getB (xs.drop p)))) := fun W hc => byte_any hc (by rw [HNN.out]; exact hpk) hKg HBY.out
                    have hR : p ≤ (tk 0 p e (getB (xs.drop p))).2.1 ∧ (tk 0 p e (getB (xs.drop p))).2.1 ≤ k ∧ (e ≠ 0 → (tk 0 p e (getB (xs.drop p))).2.1 = p ∧ (tk 0 p e (getB (xs.drop p))).2.2 = e) := tk_never hpk (by have := (getB_fits (xs.drop p)).1; rw [List.length_drop, HNN.out] at this; exact this)
                    generalize tk 0 p e (getB (xs.drop p)) = t at hrb hcall hR
                    obtain ⟨v, p', e'⟩ := t
                    simp only at hR
                    obtain ⟨m1, m2, m3⟩ := hR
                    have hdd : (xs.drop p).drop (p' - p) = xs.drop p' := by rw [List.drop_drop]; congr 1; omega
                    obtain ⟨S', hS'⟩ : ∃ S', strOfNums (xs.drop p') = S' := ⟨_, rfl⟩
                    obtain ⟨V, hV⟩ : ∃ V, v = V := ⟨_, rfl⟩
                    have HRB : Hid (Calls Try.prog 32 #[.agg #[.string S, .int .i64 p, .int .i64 e]] W1 fun r w' => r = .returned (.tuple #[.agg #[.string S', .int .i64 p', .int .i64 e'], .int .u8 v]) ∧ Below W1.heap.size W1 w') := by
                      rw [← HS.out, ← hS']
                      refine hrb.mono fun r w' hh => ⟨?_, hh.2⟩
                      rw [hh.1]
                      simp only [hdd, u8V]
                    have HCALL : Hid (∀ W, Cur 91 W K g xs p e → Calls Try.prog 33 #[.pointer (some ⟨g, 0, none⟩)] W fun r w' => r = .returned (.int .u8 v) ∧ Cur 91 w' K g xs p' e' ∧ W.grownBy w' (some g)) := fun W hc => (hcall W hc).mono fun r w' hh => ⟨by rw [hh.1]; simp only [u8V], hh.2.1, hh.2.2⟩
                    have HS' := Lib.hid hS'; clear hS' hrb hcall hdd hV
                    go_wp2_with fail
                    refine HRB.out.mono ?_
                    rintro r W2 ⟨rfl, hb2⟩
                    go_wp2_with fail
                    have HM3 := Lib.hid ((HM1.out.below hb2 hKg).below ((Below.refl _ _).alloc (Nat.le_refl _) (.cells #[.string S', .int .i64 p', .int .i64 e'] 59)) hKg)
                    have H3 : Held (W2.alloc (.cells #[.string S', .int .i64 p', .int .i64 e'] 59)) W2.heap.size 59 #[.string S', .int .i64 p', .int .i64 e'] := heap_alloc_new _ _
                    have H4 := (HN1.out.below hb2 HN1.out.lt).grown (grown_below ((Below.refl _ _).alloc (Nat.le_refl _) (.cells #[.string S', .int .i64 p', .int .i64 e'] 59)) none) (by simp)
                    have hz3 : N1 < W2.heap.size := Nat.lt_of_lt_of_le HN1.out.lt hb2.size
                    clear hb2 d0 d1 d2 c1 HM1 HH2 HN1 hB1
                    generalize W2.alloc (.cells #[.string S', .int .i64 p', .int .i64 e'] 59) = W3 at *
                    generalize W2.heap.size = N2 at *
                    have y0 := H3.cell 0
                    have y1 := H3.cell 1
                    have y2 := H3.cell 2
                    have z1 := H4.cell 1
                    have H5 := HM3.out.2.2.1
                    rw [HS.out] at H5
                    have x0 := H5.cell 0
                    have x1 := H5.cell 1
                    have x2 := H5.cell 2
                    have f0 := H5.frozen 0
                    have f1 := H5.frozen 1
                    have f2 := H5.frozen 2
                    simp only [List.getElem?_toArray, List.getElem?_cons_zero, List.getElem?_cons_succ] at y0 y1 y2 z1 x0 x1 x2
                    have HK3 := Lib.hid HM3.out.2.1
                    clear H3 H4 H5
                    have n1 : h ≠ N2 := by omega
                    have n2 : N2 ≠ h := by omega
                    have n3 : N2 ≠ g := by omega
                    have n4 : N1 ≠ g := by omega
                    have n5 : N1 ≠ h := by omega
                    have n6 : h ≠ N1 := by omega
                    go_region_held3 (fun W => W.cell? ⟨N2, 0, none⟩ = some (.string S') ∧ W.cell? ⟨N2, 1, none⟩ = some (.int .i64 p') ∧ W.cell? ⟨N2, 2, none⟩ = some (.int .i64 e') ∧ W.cell? ⟨N1, 1, none⟩ = some (.int .i64 nn))
                      (first | go_keep | exact ⟨cell_grown hg4 y0 n3, cell_grown hg4 y1 n3, cell_grown hg4 y2 n3, cell_grown hg4 z1 n4⟩ | exact ⟨cell_grown hg4 (set3_cell_drew y0 n2) n3, cell_grown hg4 (set3_cell_drew y1 n2) n3, cell_grown hg4 (set3_cell_drew y2 n2) n3, cell_grown hg4 (set3_cell_drew z1 n5) n4⟩)
                      (first | ((refine (HCALL.out _ (by first | exact HK3.out.keep (fun _ _ _ => rfl) hKg | exact HK3.out.keep (fun q a1 a2 => set3_block_drew W3 h _ _ _ (by omega)) hKg)).mono ?_); rintro r W4 ⟨rfl, hc4, hg4⟩; have HC4 := Lib.hid hc4; clear hc4; try have x0' := cell_grown hg4 x0 (by omega); try have x1' := cell_grown hg4 x1 (by omega); try have x2' := cell_grown hg4 x2 (by omega); try have f0' : W4.frozen? ⟨h, 0, none⟩ = false := (World.frozen?_of_block (a := ⟨h, 0, none⟩) (hg4.block h (World.block_lt_of_cell? W3 ⟨h, 0, none⟩ x0) (fun q => by injection q with q; omega))).trans f0; try have f1' : W4.frozen? ⟨h, 1, none⟩ = false := (World.frozen?_of_block (a := ⟨h, 1, none⟩) (hg4.block h (World.block_lt_of_cell? W3 ⟨h, 0, none⟩ x0) (fun q => by injection q with q; omega))).trans f1; try have f2' : W4.frozen? ⟨h, 2, none⟩ = false := (World.frozen?_of_block (a := ⟨h, 2, none⟩) (hg4.block h (World.block_lt_of_cell? W3 ⟨h, 0, none⟩ x0) (fun q => by injection q with q; omega))).trans f2))
                    all_goals go_wp2_with fail
                    all_goals go_meet
                    all_goals first | exact ⟨by first | rfl | simp, after_a HM3.out hKg hwK hh hwh HS'.out m2 hg4 HC4.out⟩ | exact ⟨by first | rfl | simp, after_b HM3.out hKg hwK hh hwh HS'.out m2 hg4 HC4.out⟩
                  · have q0 : (kd == 0) = false := beq_eq_false_iff_ne.2 k0
                    by_cases k1 : kd = 1
                    · subst k1
                      have hrb := rnumber_any (xs.drop p) p e (IntKind.u64.wrap nn) (by rw [List.length_drop, HNN.out]; omega) (drop_bytes HBY.out p) W1
                      have hcall : ∀ W, Cur 91 W K g xs p e → Calls Try.prog 35 #[.pointer (some ⟨g, 0, none⟩), .int .u64 (IntKind.u64.wrap nn)] W (Took u64V W K g xs (tk 0 p e (getN (IntKind.u64.wrap nn) (xs.drop p)))) := fun W hc => number_any (IntKind.u64.wrap nn) hc (by rw [HNN.out]; exact hpk) hKg HBY.out
                      have hR : p ≤ (tk 0 p e (getN (IntKind.u64.wrap nn) (xs.drop p))).2.1 ∧ (tk 0 p e (getN (IntKind.u64.wrap nn) (xs.drop p))).2.1 ≤ k ∧ (e ≠ 0 → (tk 0 p e (getN (IntKind.u64.wrap nn) (xs.drop p))).2.1 = p ∧ (tk 0 p e (getN (IntKind.u64.wrap nn) (xs.drop p))).2.2 = e) := tk_never hpk (by have := (getN_fits (IntKind.u64.wrap nn) (xs.drop p) (drop_bytes HBY.out p)).1; rw [List.length_drop, HNN.out] at this; exact this)
                      generalize tk 0 p e (getN (IntKind.u64.wrap nn) (xs.drop p)) = t at hrb hcall hR
                      obtain ⟨v, p', e'⟩ := t
                      simp only at hR
                      obtain ⟨m1, m2, m3⟩ := hR
                      have hdd : (xs.drop p).drop (p' - p) = xs.drop p' := by rw [List.drop_drop]; congr 1; omega
                      obtain ⟨S', hS'⟩ : ∃ S', strOfNums (xs.drop p') = S' := ⟨_, rfl⟩
                      obtain ⟨V, hV⟩ : ∃ V, v = V := ⟨_, rfl⟩
                      have HRB : Hid (Calls Try.prog 34 #[.agg #[.string S, .int .i64 p, .int .i64 e], .int .u64 (IntKind.u64.wrap nn)] W1 fun r w' => r = .returned (.tuple #[.agg #[.string S', .int .i64 p', .int .i64 e'], .int .u64 v]) ∧ Below W1.heap.size W1 w') := by
                        rw [← HS.out, ← hS']
                        refine hrb.mono fun r w' hh => ⟨?_, hh.2⟩
                        rw [hh.1]
                        simp only [hdd, u64V]
                      have HCALL : Hid (∀ W, Cur 91 W K g xs p e → Calls Try.prog 35 #[.pointer (some ⟨g, 0, none⟩), .int .u64 (IntKind.u64.wrap nn)] W fun r w' => r = .returned (.int .u64 v) ∧ Cur 91 w' K g xs p' e' ∧ W.grownBy w' (some g)) := fun W hc => (hcall W hc).mono fun r w' hh => ⟨by rw [hh.1]; simp only [u64V], hh.2.1, hh.2.2⟩
                      have HS' := Lib.hid hS'; clear hS' hrb hcall hdd hV
                      go_wp2_with fail
                      refine HRB.out.mono ?_
                      rintro r W2 ⟨rfl, hb2⟩
                      go_wp2_with fail
                      have HM3 := Lib.hid ((HM1.out.below hb2 hKg).below ((Below.refl _ _).alloc (Nat.le_refl _) (.cells #[.string S', .int .i64 p', .int .i64 e'] 59)) hKg)
                      have H3 : Held (W2.alloc (.cells #[.string S', .int .i64 p', .int .i64 e'] 59)) W2.heap.size 59 #[.string S', .int .i64 p', .int .i64 e'] := heap_alloc_new _ _
                      have H4 := (HN1.out.below hb2 HN1.out.lt).grown (grown_below ((Below.refl _ _).alloc (Nat.le_refl _) (.cells #[.string S', .int .i64 p', .int .i64 e'] 59)) none) (by simp)
                      have hz3 : N1 < W2.heap.size := Nat.lt_of_lt_of_le HN1.out.lt hb2.size
                      clear hb2 d0 d1 d2 c1 HM1 HH2 HN1 hB1
                      generalize W2.alloc (.cells #[.string S', .int .i64 p', .int .i64 e'] 59) = W3 at *
                      generalize W2.heap.size = N2 at *
                      have y0 := H3.cell 0
                      have y1 := H3.cell 1
                      have y2 := H3.cell 2
                      have z1 := H4.cell 1
                      have H5 := HM3.out.2.2.1
                      rw [HS.out] at H5
                      have x0 := H5.cell 0
                      have x1 := H5.cell 1
                      have x2 := H5.cell 2
                      have f0 := H5.frozen 0
                      have f1 := H5.frozen 1
                      have f2 := H5.frozen 2
                      simp only [List.getElem?_toArray, List.getElem?_cons_zero, List.getElem?_cons_succ] at y0 y1 y2 z1 x0 x1 x2
                      have HK3 := Lib.hid HM3.out.2.1
                      clear H3 H4 H5
                      have n1 : h ≠ N2 := by omega
                      have n2 : N2 ≠ h := by omega
                      have n3 : N2 ≠ g := by omega
                      have n4 : N1 ≠ g := by omega
                      have n5 : N1 ≠ h := by omega
                      have n6 : h ≠ N1 := by omega
                      go_region_held3 (fun W => W.cell? ⟨N2, 0, none⟩ = some (.string S') ∧ W.cell? ⟨N2, 1, none⟩ = some (.int .i64 p') ∧ W.cell? ⟨N2, 2, none⟩ = some (.int .i64 e') ∧ W.cell? ⟨N1, 1, none⟩ = some (.int .i64 nn))
                        (first | go_keep | exact ⟨cell_grown hg4 y0 n3, cell_grown hg4 y1 n3, cell_grown hg4 y2 n3, cell_grown hg4 z1 n4⟩ | exact ⟨cell_grown hg4 (set3_cell_drew y0 n2) n3, cell_grown hg4 (set3_cell_drew y1 n2) n3, cell_grown hg4 (set3_cell_drew y2 n2) n3, cell_grown hg4 (set3_cell_drew z1 n5) n4⟩)
                        (first | ((refine (HCALL.out _ (by first | exact HK3.out.keep (fun _ _ _ => rfl) hKg | exact HK3.out.keep (fun q a1 a2 => set3_block_drew W3 h _ _ _ (by omega)) hKg)).mono ?_); rintro r W4 ⟨rfl, hc4, hg4⟩; have HC4 := Lib.hid hc4; clear hc4; try have x0' := cell_grown hg4 x0 (by omega); try have x1' := cell_grown hg4 x1 (by omega); try have x2' := cell_grown hg4 x2 (by omega); try have f0' : W4.frozen? ⟨h, 0, none⟩ = false := (World.frozen?_of_block (a := ⟨h, 0, none⟩) (hg4.block h (World.block_lt_of_cell? W3 ⟨h, 0, none⟩ x0) (fun q => by injection q with q; omega))).trans f0; try have f1' : W4.frozen? ⟨h, 1, none⟩ = false := (World.frozen?_of_block (a := ⟨h, 1, none⟩) (hg4.block h (World.block_lt_of_cell? W3 ⟨h, 0, none⟩ x0) (fun q => by injection q with q; omega))).trans f1; try have f2' : W4.frozen? ⟨h, 2, none⟩ = false := (World.frozen?_of_block (a := ⟨h, 2, none⟩) (hg4.block h (World.block_lt_of_cell? W3 ⟨h, 0, none⟩ x0) (fun q => by injection q with q; omega))).trans f2))
                      all_goals go_wp2_with fail
                      all_goals go_meet
                      all_goals first | exact ⟨by first | rfl | simp, after_a HM3.out hKg hwK hh hwh HS'.out m2 hg4 HC4.out⟩ | exact ⟨by first | rfl | simp, after_b HM3.out hKg hwK hh hwh HS'.out m2 hg4 HC4.out⟩
                    · have q1 : (kd == 1) = false := beq_eq_false_iff_ne.2 k1
                      by_cases k2 : kd = 2
                      · subst k2
                        have hrb := rsigned_any (xs.drop p) p e (by rw [List.length_drop, HNN.out]; omega) (drop_bytes HBY.out p) W1
                        have hcall : ∀ W, Cur 91 W K g xs p e → Calls Try.prog 37 #[.pointer (some ⟨g, 0, none⟩)] W (Took i64V W K g xs (tk 0 p e (getS (xs.drop p)))) := fun W hc => signed_any hc (by rw [HNN.out]; exact hpk) hKg HBY.out
                        have hR : p ≤ (tk 0 p e (getS (xs.drop p))).2.1 ∧ (tk 0 p e (getS (xs.drop p))).2.1 ≤ k ∧ (e ≠ 0 → (tk 0 p e (getS (xs.drop p))).2.1 = p ∧ (tk 0 p e (getS (xs.drop p))).2.2 = e) := tk_never hpk (by have := (getS_fits (xs.drop p) (drop_bytes HBY.out p)).1; rw [List.length_drop, HNN.out] at this; exact this)
                        generalize tk 0 p e (getS (xs.drop p)) = t at hrb hcall hR
                        obtain ⟨v, p', e'⟩ := t
                        simp only at hR
                        obtain ⟨m1, m2, m3⟩ := hR
                        have hdd : (xs.drop p).drop (p' - p) = xs.drop p' := by rw [List.drop_drop]; congr 1; omega
                        obtain ⟨S', hS'⟩ : ∃ S', strOfNums (xs.drop p') = S' := ⟨_, rfl⟩
                        obtain ⟨V, hV⟩ : ∃ V, v = V := ⟨_, rfl⟩
                        have HRB : Hid (Calls Try.prog 36 #[.agg #[.string S, .int .i64 p, .int .i64 e]] W1 fun r w' => r = .returned (.tuple #[.agg #[.string S', .int .i64 p', .int .i64 e'], .int .i64 v]) ∧ Below W1.heap.size W1 w') := by
                          rw [← HS.out, ← hS']
                          refine hrb.mono fun r w' hh => ⟨?_, hh.2⟩
                          rw [hh.1]
                          simp only [hdd, i64V]
                        have HCALL : Hid (∀ W, Cur 91 W K g xs p e → Calls Try.prog 37 #[.pointer (some ⟨g, 0, none⟩)] W fun r w' => r = .returned (.int .i64 v) ∧ Cur 91 w' K g xs p' e' ∧ W.grownBy w' (some g)) := fun W hc => (hcall W hc).mono fun r w' hh => ⟨by rw [hh.1]; simp only [i64V], hh.2.1, hh.2.2⟩
                        have HS' := Lib.hid hS'; clear hS' hrb hcall hdd hV
                        go_wp2_with fail
                        refine HRB.out.mono ?_
                        rintro r W2 ⟨rfl, hb2⟩
                        go_wp2_with fail
                        have HM3 := Lib.hid ((HM1.out.below hb2 hKg).below ((Below.refl _ _).alloc (Nat.le_refl _) (.cells #[.string S', .int .i64 p', .int .i64 e'] 59)) hKg)
                        have H3 : Held (W2.alloc (.cells #[.string S', .int .i64 p', .int .i64 e'] 59)) W2.heap.size 59 #[.string S', .int .i64 p', .int .i64 e'] := heap_alloc_new _ _
                        have H4 := (HN1.out.below hb2 HN1.out.lt).grown (grown_below ((Below.refl _ _).alloc (Nat.le_refl _) (.cells #[.string S', .int .i64 p', .int .i64 e'] 59)) none) (by simp)
                        have hz3 : N1 < W2.heap.size := Nat.lt_of_lt_of_le HN1.out.lt hb2.size
                        clear hb2 d0 d1 d2 c1 HM1 HH2 HN1 hB1
                        generalize W2.alloc (.cells #[.string S', .int .i64 p', .int .i64 e'] 59) = W3 at *
                        generalize W2.heap.size = N2 at *
                        have y0 := H3.cell 0
                        have y1 := H3.cell 1
                        have y2 := H3.cell 2
                        have z1 := H4.cell 1
                        have H5 := HM3.out.2.2.1
                        rw [HS.out] at H5
                        have x0 := H5.cell 0
                        have x1 := H5.cell 1
                        have x2 := H5.cell 2
                        have f0 := H5.frozen 0
                        have f1 := H5.frozen 1
                        have f2 := H5.frozen 2
                        simp only [List.getElem?_toArray, List.getElem?_cons_zero, List.getElem?_cons_succ] at y0 y1 y2 z1 x0 x1 x2
                        have HK3 := Lib.hid HM3.out.2.1
                        clear H3 H4 H5
                        have n1 : h ≠ N2 := by omega
                        have n2 : N2 ≠ h := by omega
                        have n3 : N2 ≠ g := by omega
                        have n4 : N1 ≠ g := by omega
                        have n5 : N1 ≠ h := by omega
                        have n6 : h ≠ N1 := by omega
                        go_region_held3 (fun W => W.cell? ⟨N2, 0, none⟩ = some (.string S') ∧ W.cell? ⟨N2, 1, none⟩ = some (.int .i64 p') ∧ W.cell? ⟨N2, 2, none⟩ = some (.int .i64 e') ∧ W.cell? ⟨N1, 1, none⟩ = some (.int .i64 nn))
                          (first | go_keep | exact ⟨cell_grown hg4 y0 n3, cell_grown hg4 y1 n3, cell_grown hg4 y2 n3, cell_grown hg4 z1 n4⟩ | exact ⟨cell_grown hg4 (set3_cell_drew y0 n2) n3, cell_grown hg4 (set3_cell_drew y1 n2) n3, cell_grown hg4 (set3_cell_drew y2 n2) n3, cell_grown hg4 (set3_cell_drew z1 n5) n4⟩)
                          (first | ((refine (HCALL.out _ (by first | exact HK3.out.keep (fun _ _ _ => rfl) hKg | exact HK3.out.keep (fun q a1 a2 => set3_block_drew W3 h _ _ _ (by omega)) hKg)).mono ?_); rintro r W4 ⟨rfl, hc4, hg4⟩; have HC4 := Lib.hid hc4; clear hc4; try have x0' := cell_grown hg4 x0 (by omega); try have x1' := cell_grown hg4 x1 (by omega); try have x2' := cell_grown hg4 x2 (by omega); try have f0' : W4.frozen? ⟨h, 0, none⟩ = false := (World.frozen?_of_block (a := ⟨h, 0, none⟩) (hg4.block h (World.block_lt_of_cell? W3 ⟨h, 0, none⟩ x0) (fun q => by injection q with q; omega))).trans f0; try have f1' : W4.frozen? ⟨h, 1, none⟩ = false := (World.frozen?_of_block (a := ⟨h, 1, none⟩) (hg4.block h (World.block_lt_of_cell? W3 ⟨h, 0, none⟩ x0) (fun q => by injection q with q; omega))).trans f1; try have f2' : W4.frozen? ⟨h, 2, none⟩ = false := (World.frozen?_of_block (a := ⟨h, 2, none⟩) (hg4.block h (World.block_lt_of_cell? W3 ⟨h, 0, none⟩ x0) (fun q => by injection q with q; omega))).trans f2))
                        all_goals go_wp2_with fail
                        all_goals go_meet
                        all_goals first | exact ⟨by first | rfl | simp, after_a HM3.out hKg hwK hh hwh HS'.out m2 hg4 HC4.out⟩ | exact ⟨by first | rfl | simp, after_b HM3.out hKg hwK hh hwh HS'.out m2 hg4 HC4.out⟩
                      · have q2 : (kd == 2) = false := beq_eq_false_iff_ne.2 k2
                        by_cases k3 : kd = 3
                        · subst k3
                          have hrb := rtext_any (xs.drop p) p e nn r3 r4 (by rw [List.length_drop, HNN.out]; omega) (drop_bytes HBY.out p) W1
                          have hcall : ∀ W, Cur 91 W K g xs p e → Calls Try.prog 39 #[.pointer (some ⟨g, 0, none⟩), .int .i64 nn] W (Took txtV W K g xs (tk [] p e (getT nn (xs.drop p)))) := fun W hc => text_any nn r3 r4 hc (by rw [HNN.out]; exact hpk) hKg HBY.out
                          have hR : p ≤ (tk [] p e (getT nn (xs.drop p))).2.1 ∧ (tk [] p e (getT nn (xs.drop p))).2.1 ≤ k ∧ (e ≠ 0 → (tk [] p e (getT nn (xs.drop p))).2.1 = p ∧ (tk [] p e (getT nn (xs.drop p))).2.2 = e) := tk_never hpk (by have := (getT_fits nn (xs.drop p) (drop_bytes HBY.out p)).1; rw [List.length_drop, HNN.out] at this; exact this)
                          generalize tk [] p e (getT nn (xs.drop p)) = t at hrb hcall hR
                          obtain ⟨v, p', e'⟩ := t
                          simp only at hR
                          obtain ⟨m1, m2, m3⟩ := hR
                          have hdd : (xs.drop p).drop (p' - p) = xs.drop p' := by rw [List.drop_drop]; congr 1; omega
                          obtain ⟨S', hS'⟩ : ∃ S', strOfNums (xs.drop p') = S' := ⟨_, rfl⟩
                          obtain ⟨V, hV⟩ : ∃ V, strOfNums v = V := ⟨_, rfl⟩
                          have HRB : Hid (Calls Try.prog 38 #[.agg #[.string S, .int .i64 p, .int .i64 e], .int .i64 nn] W1 fun r w' => r = .returned (.tuple #[.agg #[.string S', .int .i64 p', .int .i64 e'], .string V]) ∧ Below W1.heap.size W1 w') := by
                            rw [← HS.out, ← hS']
                            refine hrb.mono fun r w' hh => ⟨?_, hh.2⟩
                            rw [hh.1]
                            simp only [hdd, txtV, hV]
                          have HCALL : Hid (∀ W, Cur 91 W K g xs p e → Calls Try.prog 39 #[.pointer (some ⟨g, 0, none⟩), .int .i64 nn] W fun r w' => r = .returned (.string V) ∧ Cur 91 w' K g xs p' e' ∧ W.grownBy w' (some g)) := fun W hc => (hcall W hc).mono fun r w' hh => ⟨by rw [hh.1]; simp only [txtV, hV], hh.2.1, hh.2.2⟩
                          have HS' := Lib.hid hS'; clear hS' hrb hcall hdd hV
                          go_wp2_with fail
                          refine HRB.out.mono ?_
                          rintro r W2 ⟨rfl, hb2⟩
                          go_wp2_with fail
                          have HM3 := Lib.hid ((HM1.out.below hb2 hKg).below ((Below.refl _ _).alloc (Nat.le_refl _) (.cells #[.string S', .int .i64 p', .int .i64 e'] 59)) hKg)
                          have H3 : Held (W2.alloc (.cells #[.string S', .int .i64 p', .int .i64 e'] 59)) W2.heap.size 59 #[.string S', .int .i64 p', .int .i64 e'] := heap_alloc_new _ _
                          have H4 := (HN1.out.below hb2 HN1.out.lt).grown (grown_below ((Below.refl _ _).alloc (Nat.le_refl _) (.cells #[.string S', .int .i64 p', .int .i64 e'] 59)) none) (by simp)
                          have hz3 : N1 < W2.heap.size := Nat.lt_of_lt_of_le HN1.out.lt hb2.size
                          clear hb2 d0 d1 d2 c1 HM1 HH2 HN1 hB1
                          generalize W2.alloc (.cells #[.string S', .int .i64 p', .int .i64 e'] 59) = W3 at *
                          generalize W2.heap.size = N2 at *
                          have y0 := H3.cell 0
                          have y1 := H3.cell 1
                          have y2 := H3.cell 2
                          have z1 := H4.cell 1
                          have H5 := HM3.out.2.2.1
                          rw [HS.out] at H5
                          have x0 := H5.cell 0
                          have x1 := H5.cell 1
                          have x2 := H5.cell 2
                          have f0 := H5.frozen 0
                          have f1 := H5.frozen 1
                          have f2 := H5.frozen 2
                          simp only [List.getElem?_toArray, List.getElem?_cons_zero, List.getElem?_cons_succ] at y0 y1 y2 z1 x0 x1 x2
                          have HK3 := Lib.hid HM3.out.2.1
                          clear H3 H4 H5
                          have n1 : h ≠ N2 := by omega
                          have n2 : N2 ≠ h := by omega
                          have n3 : N2 ≠ g := by omega
                          have n4 : N1 ≠ g := by omega
                          have n5 : N1 ≠ h := by omega
                          have n6 : h ≠ N1 := by omega
                          go_region_held3 (fun W => W.cell? ⟨N2, 0, none⟩ = some (.string S') ∧ W.cell? ⟨N2, 1, none⟩ = some (.int .i64 p') ∧ W.cell? ⟨N2, 2, none⟩ = some (.int .i64 e') ∧ W.cell? ⟨N1, 1, none⟩ = some (.int .i64 nn))
                            (first | go_keep | exact ⟨cell_grown hg4 y0 n3, cell_grown hg4 y1 n3, cell_grown hg4 y2 n3, cell_grown hg4 z1 n4⟩ | exact ⟨cell_grown hg4 (set3_cell_drew y0 n2) n3, cell_grown hg4 (set3_cell_drew y1 n2) n3, cell_grown hg4 (set3_cell_drew y2 n2) n3, cell_grown hg4 (set3_cell_drew z1 n5) n4⟩)
                            (first | ((refine (HCALL.out _ (by first | exact HK3.out.keep (fun _ _ _ => rfl) hKg | exact HK3.out.keep (fun q a1 a2 => set3_block_drew W3 h _ _ _ (by omega)) hKg)).mono ?_); rintro r W4 ⟨rfl, hc4, hg4⟩; have HC4 := Lib.hid hc4; clear hc4; try have x0' := cell_grown hg4 x0 (by omega); try have x1' := cell_grown hg4 x1 (by omega); try have x2' := cell_grown hg4 x2 (by omega); try have f0' : W4.frozen? ⟨h, 0, none⟩ = false := (World.frozen?_of_block (a := ⟨h, 0, none⟩) (hg4.block h (World.block_lt_of_cell? W3 ⟨h, 0, none⟩ x0) (fun q => by injection q with q; omega))).trans f0; try have f1' : W4.frozen? ⟨h, 1, none⟩ = false := (World.frozen?_of_block (a := ⟨h, 1, none⟩) (hg4.block h (World.block_lt_of_cell? W3 ⟨h, 0, none⟩ x0) (fun q => by injection q with q; omega))).trans f1; try have f2' : W4.frozen? ⟨h, 2, none⟩ = false := (World.frozen?_of_block (a := ⟨h, 2, none⟩) (hg4.block h (World.block_lt_of_cell? W3 ⟨h, 0, none⟩ x0) (fun q => by injection q with q; omega))).trans f2))
                          all_goals go_wp2_with fail
                          all_goals go_meet
                          all_goals first | exact ⟨by first | rfl | simp, after_a HM3.out hKg hwK hh hwh HS'.out m2 hg4 HC4.out⟩ | exact ⟨by first | rfl | simp, after_b HM3.out hKg hwK hh hwh HS'.out m2 hg4 HC4.out⟩
                        · have q3 : (kd == 3) = false := beq_eq_false_iff_ne.2 k3
                          by_cases k4 : kd = 4
                          · subst k4
                            have hrb := rdone_any (xs.drop p) p k e (by rw [List.length_drop, HNN.out]; omega) W1
                            have hcall : ∀ W, Cur 91 W K g xs p e → Calls Try.prog 41 #[.pointer (some ⟨g, 0, none⟩)] W (Took Value.bool W K g xs (((doneI k p e).1, p, (doneI k p e).2))) := fun W hc => by
                              have hd := done_any hc (by rw [HNN.out]; exact hpk) hKg
                              rw [HNN.out] at hd
                              exact hd
                            have hR : p ≤ p ∧ p ≤ k ∧ (e ≠ 0 → p = p ∧ (doneI k p e).2 = e) := ⟨Nat.le_refl _, hpk, fun he => ⟨rfl, by unfold doneI; rw [if_neg he]⟩⟩
                            generalize doneI k p e = t at hrb hcall hR
                            obtain ⟨v, e'⟩ := t
                            simp only at hR hrb hcall
                            obtain ⟨m1, m2, m3⟩ := hR
                            obtain ⟨p', hp'⟩ : ∃ p', p' = p := ⟨p, rfl⟩
                            rw [show ((v, p, e') : Bool × Nat × Int) = (v, p', e') by rw [hp']] at hrb hcall
                            replace m2 : p' ≤ k := by rw [hp']; exact hpk
                            clear m1 m3
                            have hdd : (xs.drop p).drop (p' - p) = xs.drop p' := by rw [List.drop_drop]; congr 1; omega
                            clear hp'
                            obtain ⟨S', hS'⟩ : ∃ S', strOfNums (xs.drop p') = S' := ⟨_, rfl⟩
                            obtain ⟨V, hV⟩ : ∃ V, v = V := ⟨_, rfl⟩
                            have HRB : Hid (Calls Try.prog 40 #[.agg #[.string S, .int .i64 p, .int .i64 e]] W1 fun r w' => r = .returned (.tuple #[.agg #[.string S', .int .i64 p', .int .i64 e'], .bool v]) ∧ Below W1.heap.size W1 w') := by
                              rw [← HS.out, ← hS']
                              refine hrb.mono fun r w' hh => ⟨?_, hh.2⟩
                              rw [hh.1]
                              simp only [hdd]
                            have HCALL : Hid (∀ W, Cur 91 W K g xs p e → Calls Try.prog 41 #[.pointer (some ⟨g, 0, none⟩)] W fun r w' => r = .returned (.bool v) ∧ Cur 91 w' K g xs p' e' ∧ W.grownBy w' (some g)) := fun W hc => (hcall W hc).mono fun r w' hh => ⟨hh.1, hh.2.1, hh.2.2⟩
                            have HS' := Lib.hid hS'; clear hS' hrb hcall hdd hV
                            go_wp2_with fail
                            refine HRB.out.mono ?_
                            rintro r W2 ⟨rfl, hb2⟩
                            go_wp2_with fail
                            have HM3 := Lib.hid ((HM1.out.below hb2 hKg).below ((Below.refl _ _).alloc (Nat.le_refl _) (.cells #[.string S', .int .i64 p', .int .i64 e'] 59)) hKg)
                            have H3 : Held (W2.alloc (.cells #[.string S', .int .i64 p', .int .i64 e'] 59)) W2.heap.size 59 #[.string S', .int .i64 p', .int .i64 e'] := heap_alloc_new _ _
                            have H4 := (HN1.out.below hb2 HN1.out.lt).grown (grown_below ((Below.refl _ _).alloc (Nat.le_refl _) (.cells #[.string S', .int .i64 p', .int .i64 e'] 59)) none) (by simp)
                            have hz3 : N1 < W2.heap.size := Nat.lt_of_lt_of_le HN1.out.lt hb2.size
                            clear hb2 d0 d1 d2 c1 HM1 HH2 HN1 hB1
                            generalize W2.alloc (.cells #[.string S', .int .i64 p', .int .i64 e'] 59) = W3 at *
                            generalize W2.heap.size = N2 at *
                            have y0 := H3.cell 0
                            have y1 := H3.cell 1
                            have y2 := H3.cell 2
                            have z1 := H4.cell 1
                            have H5 := HM3.out.2.2.1
                            rw [HS.out] at H5
                            have x0 := H5.cell 0
                            have x1 := H5.cell 1
                            have x2 := H5.cell 2
                            have f0 := H5.frozen 0
                            have f1 := H5.frozen 1
                            have f2 := H5.frozen 2
                            simp only [List.getElem?_toArray, List.getElem?_cons_zero, List.getElem?_cons_succ] at y0 y1 y2 z1 x0 x1 x2
                            have HK3 := Lib.hid HM3.out.2.1
                            clear H3 H4 H5
                            have n1 : h ≠ N2 := by omega
                            have n2 : N2 ≠ h := by omega
                            have n3 : N2 ≠ g := by omega
                            have n4 : N1 ≠ g := by omega
                            have n5 : N1 ≠ h := by omega
                            have n6 : h ≠ N1 := by omega
                            go_region_held3 (fun W => W.cell? ⟨N2, 0, none⟩ = some (.string S') ∧ W.cell? ⟨N2, 1, none⟩ = some (.int .i64 p') ∧ W.cell? ⟨N2, 2, none⟩ = some (.int .i64 e') ∧ W.cell? ⟨N1, 1, none⟩ = some (.int .i64 nn))
                              (first | go_keep | exact ⟨cell_grown hg4 y0 n3, cell_grown hg4 y1 n3, cell_grown hg4 y2 n3, cell_grown hg4 z1 n4⟩ | exact ⟨cell_grown hg4 (set3_cell_drew y0 n2) n3, cell_grown hg4 (set3_cell_drew y1 n2) n3, cell_grown hg4 (set3_cell_drew y2 n2) n3, cell_grown hg4 (set3_cell_drew z1 n5) n4⟩)
                              (first | ((refine (HCALL.out _ (by first | exact HK3.out.keep (fun _ _ _ => rfl) hKg | exact HK3.out.keep (fun q a1 a2 => set3_block_drew W3 h _ _ _ (by omega)) hKg)).mono ?_); rintro r W4 ⟨rfl, hc4, hg4⟩; have HC4 := Lib.hid hc4; clear hc4; try have x0' := cell_grown hg4 x0 (by omega); try have x1' := cell_grown hg4 x1 (by omega); try have x2' := cell_grown hg4 x2 (by omega); try have f0' : W4.frozen? ⟨h, 0, none⟩ = false := (World.frozen?_of_block (a := ⟨h, 0, none⟩) (hg4.block h (World.block_lt_of_cell? W3 ⟨h, 0, none⟩ x0) (fun q => by injection q with q; omega))).trans f0; try have f1' : W4.frozen? ⟨h, 1, none⟩ = false := (World.frozen?_of_block (a := ⟨h, 1, none⟩) (hg4.block h (World.block_lt_of_cell? W3 ⟨h, 0, none⟩ x0) (fun q => by injection q with q; omega))).trans f1; try have f2' : W4.frozen? ⟨h, 2, none⟩ = false := (World.frozen?_of_block (a := ⟨h, 2, none⟩) (hg4.block h (World.block_lt_of_cell? W3 ⟨h, 0, none⟩ x0) (fun q => by injection q with q; omega))).trans f2))
                            all_goals go_wp2_with fail
                            all_goals go_meet
                            all_goals first | exact ⟨by first | rfl | simp, after_a HM3.out hKg hwK hh hwh HS'.out m2 hg4 HC4.out⟩ | exact ⟨by first | rfl | simp, after_b HM3.out hKg hwK hh hwh HS'.out m2 hg4 HC4.out⟩
                          · have q4 : (kd == 4) = false := beq_eq_false_iff_ne.2 k4
                            by_cases k5 : kd = 5
                            · subst k5
                              have HCALL := Lib.hid (stop_any nn HM1.out.2.1)
                              go_wp2_with fail
                              refine HCALL.out.mono ?_
                              rintro r W2 ⟨rfl, hc2, hg2⟩
                              have hne1 : h ≠ g := by omega
                              have hne2 : N1 ≠ g := by omega
                              have HH3 := Lib.hid (HH2.out.grown hg2 (fun q => hne1 (by injection q)))
                              have HN3 := Lib.hid (HN1.out.grown hg2 (fun q => hne2 (by injection q)))
                              have hB2 : Below w.heap.size w W2 := hB1.grown hg2 hB1.size (fun q hq => by injection hq with hq; omega)
                              have x0 := HH3.out.cell 0
                              have x1 := HH3.out.cell 1
                              have x2 := HH3.out.cell 2
                              have z1 := HN3.out.cell 1
                              simp only [List.getElem?_toArray, List.getElem?_cons_zero, List.getElem?_cons_succ] at x0 x1 x2 z1
                              have HC2 := Lib.hid hc2; clear hc2 hg2 HCALL
                              clear d0 d1 d2 c1 HH2 HN1 HM1 hB1
                              go_wp2_with fail
                              refine (rstop_any S p e nn W2).mono ?_
                              rintro r W3 ⟨rfl, hb3⟩
                              have H4 := HH3.out.below hb3 HH3.out.lt
                              have hB3 : Below w.heap.size w W3 := hB2.trans (hb3.mono hB2.size)
                              have y0 := H4.cell 0
                              have y1 := H4.cell 1
                              have y2 := H4.cell 2
                              have f0 := H4.frozen 0
                              have f1 := H4.frozen 1
                              have f2 := H4.frozen 2
                              simp only [List.getElem?_toArray, List.getElem?_cons_zero, List.getElem?_cons_succ] at y0 y1 y2
                              have HC3 := Lib.hid (HC2.out.below hb3 hKg)
                              have HH4 := Lib.hid H4; clear H4 hb3 x0 x1 x2 z1
                              go_wp2_with fail
                              go_meet
                              exact ⟨rfl, after_c HS.out hpk hKg hh hwh HC3.out HH4.out hB3⟩
                            · have q5 : (kd == 5) = false := beq_eq_false_iff_ne.2 k5
                              go_wp2_with fail
                              go_meet
                              exact ⟨rfl, p, e, HM1.out⟩
                case rest =>
                  obtain ⟨rfl, p', e', hM⟩ := hcut
                  obtain ⟨S, hS⟩ : ∃ S, strOfNums (xs.drop p') = S := ⟨_, rfl⟩
                  have hsz : S.size = k - p' := by rw [← hS, strOfNums_size, List.length_drop, HNN.out]
                  have hp' : p' ≤ k := hM.1
                  have H5 : Held wc h 59 #[.string S, .int .i64 p', .int .i64 e'] := by rw [← hS]; exact hM.2.2.1
                  clear hS
                  have x0 := H5.cell 0
                  have x1 := H5.cell 1
                  have x2 := H5.cell 2
                  simp only [List.getElem?_toArray, List.getElem?_cons_zero, List.getElem?_cons_succ] at x0 x1 x2
                  clear H5
                  have hcw : ∀ n, Cur 91 (wc.drewN n) K g xs p' e' := fun n => hM.2.1.keep (fun _ _ _ => rfl) hKg
                  have HQ1 : Hid (∀ n, Calls Try.prog 44 #[.pointer (some ⟨g, 0, none⟩)] (wc.drewN n) fun r w'' => r = .returned (.int .i64 p') ∧ ∃ m, w'' = wc.drewN m) := fun n => (at_any (hcw n)).mono fun r w'' hh => ⟨hh.1, n, hh.2.symm⟩
                  have HQ2 : Hid (∀ n, Calls Try.prog 45 #[.pointer (some ⟨g, 0, none⟩)] (wc.drewN n) fun r w'' => r = .returned (.int .i64 ((k - p' : Nat) : Int)) ∧ ∃ m, w'' = wc.drewN m) := fun n => (left_any (hcw n) (by rw [HNN.out]; exact hp')).mono fun r w'' hh => by
                    obtain ⟨hr, m, hm⟩ := hh
                    rw [HNN.out] at hr
                    exact ⟨hr, n + m, by rw [hm, World.drewN_drewN]⟩
                  have HQ3 : Hid (∀ n, Calls Try.prog 46 #[.pointer (some ⟨g, 0, none⟩)] (wc.drewN n) fun r w'' => r = .returned (.int .i64 e') ∧ ∃ m, w'' = wc.drewN m) := fun n => (err_any (hcw n)).mono fun r w'' hh => ⟨hh.1, n, hh.2.symm⟩
                  have HM2 := Lib.hid hM; clear hM hcw
                  go_wp2_with fail
                  go_quiet ((first | (go_at_call 44; exact HQ1.out _) | (go_at_call 45; exact HQ2.out _) | (go_at_call 46; exact HQ3.out _)))
                  go_wp2_with fail
                  go_roundg (gk - 1)
                  case measure => omega
                  case rel => exact ⟨j + 1, p', e', by omega, by go_num, HM2.out.1, HM2.out.2.1.keep (fun _ _ _ => rfl) hKg, HM2.out.2.2.1, below_drewN HM2.out.2.2.2 _⟩
              · obtain rfl : j = len1 := by omega
                have hbw := HM.out.2.2.2
                go_wp2_with (go_at_call 30; refine (cfixed_any _).mono ?_; rintro e w3 ⟨rfl, hb3⟩)
                go_ret
                exact ⟨rfl, hbw.trans (hb3.mono hbw.size)⟩

set_option maxRecDepth 100000 in
theorem lifted (os : Os) (started : os.Started) (H : Type) (enc : TypeId × Value → H) :
    ReturnsInHanded {} Try.checked os 10 .any (Rows.cursorPlaysSpec.pre6 enc Try.prog Try.f10 Rows.cursorPlaysRow.domain false) (Rows.cursorPlaysSpec.post enc Try.prog Try.f10 false true false false) := by
  refine returnsInHanded_of_change (C := Try.checked) own started (by kernel_rfl) Try.func10
    (ChangeSpec.witness6 (enc := enc) (C := Try.checked) false ⟨#[], #[.slice none 0 0, .slice none 0 0], []⟩ 8 (by kernel_rfl) (by kernel_rfl) (by kernel_rfl) (by kernel_rfl)) ?_
  intro W base args ds gs before hval0 hW hcnd _
  have hval : ∀ (j : Nat) t v, Try.f10.params[j]? = some t → args[j]? = some v → Value.okWide Try.prog W .any base t v := hval0
  have hW' := hW
  obtain ⟨p, q, hA0, hV, rfl, hfz, hnd⟩ := hW
  have hA : DataW.TrodAll enc Try.prog W 0 (fun _ => true) true Try.f10.params.toList args.toList ds p := hA0
  rw [Try.params10] at hA hval
  obtain ⟨v0, vs0, d0, ds0, p0, q0, hargs, rfl, rfl, h0, r0⟩ := trodAll_cons hA
  obtain ⟨v1, vs1, d1, ds1, p1, q1, rfl, rfl, rfl, h1, r1⟩ := trodAll_cons r0
  obtain ⟨rfl, rfl, rfl⟩ := trodAll_nil r1
  obtain rfl : args = #[v0, v1] := by cases args; simp_all
  obtain ⟨rfl, rfl⟩ := trodVars_none hV
  obtain ⟨a0, len0, cap0, rfl⟩ := okWide_slice Try.underlying22 (hval 0 22 v0 rfl rfl)
  obtain ⟨a1, len1, cap1, rfl⟩ := okWide_slice Try.underlying55 (hval 1 55 v1 rfl rfl)
  have k0 := h0
  have k1 := h1
  have lt0 : ∀ x ∈ p0, x.block < W.heap.size := by obtain ⟨m, hm⟩ := k0; exact DataW.trod_lt m _ _ _ hm
  have lt1 : ∀ x ∈ p1, x.block < W.heap.size := by obtain ⟨m, hm⟩ := k1; exact DataW.trod_lt m _ _ _ hm
  obtain ⟨z0, w0⟩ : ∃ zs, IsRow .u8 W a0 len0 cap0 zs := by
    obtain ⟨fuel, hf⟩ := h0
    rcases open_ints Try.underlying22 Try.underlying5 (by kernel_rfl) hf with ⟨hcs, _⟩ | ⟨x, l, c, zs, hcs, _, hl, hm, hz, _, hcell, hwz⟩
    · simp [Value.cells] at hcs
      obtain ⟨rfl, rfl, rfl⟩ := hcs
      exact ⟨[], .inl ⟨rfl, rfl, rfl, rfl⟩⟩
    · simp [Value.cells] at hcs
      obtain ⟨rfl, rfl, rfl⟩ := hcs
      exact ⟨zs, .inr ⟨_, rfl, hl, hm, by simpa using hz, hcell, hwz⟩⟩
  obtain ⟨l, w1⟩ : ∃ l, IsSteps W a1 len1 cap1 l := by
    obtain ⟨fuel, hf⟩ := h1
    exact steps_of (by simpa [Value.cells] using hf)
  clear hA0 hval0
  refine (walk a0 len0 cap0 z0 a1 len1 cap1 l W w0 w1).mono fun e W' ⟨he, bel⟩ => ?_
  subst he
  exact ⟨_, rfl, _, _, _, [], _, [], hW', trodAll_mk1 (shut_bool Try.underlying4 _), (trodAll_cons_mk (Below.trod laidOut (by kernel_rfl) (of_decide_eq_true (by kernel_rfl)) k0 bel lt0) (trodAll_cons_mk (Below.trod laidOut (by kernel_rfl) (of_decide_eq_true (by kernel_rfl)) k1 bel lt1) trodAll_mk0)), rfl, bel.frame _, fun h => by cases h⟩

theorem over : Rows.cursorPlaysRow.holds Try.pinned (OpenSpec.ofChange Rows.cursorPlaysSpec) :=
  OpenClaim.holds_of_wide 10 Try.f10 rfl rfl rfl rfl rfl rfl rfl ⟨rfl, rfl, rfl, rfl, rfl⟩ rfl rfl rfl rfl rfl (by kernel_rfl) Try.func10 (by kernel_rfl)
    (of_decide_eq_true (by kernel_rfl)) (by unfold Func.isWrapper; first | (rw [if_pos (by decide +kernel)]; kernel_rfl) | (rw [if_neg (by decide +kernel)]; exact ⟨rfl, rfl⟩))
    (fun os started H enc _ => lifted os started H enc)

theorem proved : Rows.CursorPlaysSaid := over
#print axioms proved
end Go.Proofs.Ytbbcbhecppnboaa.cursorPlays
