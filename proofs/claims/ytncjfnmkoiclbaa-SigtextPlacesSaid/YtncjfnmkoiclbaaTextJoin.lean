/-
  A predicate's line, as the program makes it: wordOf, strings.Join at types' words, lineOf.
-/
import Derived.Test.YtncjfnmkoiclbaaStrLib
import Derived.Test.YtncjfnmkoiclbaaTextRefPred
import Derived.Deep.RegionHeld3
namespace Go.Proofs.Ytncjfnmkoiclbaa
open Go.RowKit

/-- A type's word as a text. -/
def wordV (t : Int) : ByteArray := strOfNums (wordT t)
theorem str_of_data (xs : List Int) : (⟨((strOfNums xs).data.toList).toArray⟩ : ByteArray) = strOfNums xs := by rw [Lib.mk_data]
theorem join_words : ∀ (t : Int) (l : List Int), Lib.join (((t :: l).map wordV).map (·.data.toList)) [44] = (strOfNums (argsF true (t :: l))).data.toList := by
  have tail : ∀ l : List Int, Lib.joinTail [44] ((l.map wordV).map (·.data.toList)) = (strOfNums (argsF false l)).data.toList := by
    intro l
    induction l with
    | nil => rfl
    | cons t l ih =>
      have h1 : Lib.joinTail [44] (((t :: l).map wordV).map (·.data.toList)) = [44] ++ (wordV t).data.toList ++ Lib.joinTail [44] ((l.map wordV).map (·.data.toList)) := by simp [Lib.joinTail]
      rw [h1, ih]
      simp [argsF, strOfNums_data, wordV]
  intro t l
  rw [List.map_cons, List.map_cons, Lib.join_cons, tail]
  simp [argsF, strOfNums_data, wordV]

set_option maxRecDepth 100000 in
theorem join_any (A : Option Addr) (c : Nat) (ar : List Int) (ha : ar.length ≤ 1000000) (w : World) (h : VRow w w.heap.size (.slice A ar.length c) (ar.map fun t => .string (wordV t))) :
    Calls Try.prog 38 #[.slice A ar.length c, .string ⟨#[44]⟩] w fun e w' => e = .returned (.string (strOfNums (argsF true ar))) ∧ Below w.heap.size w w' := by
  cases ar with
  | nil => exact (Any.strings_Join_none lays156 extra156 A c ⟨#[44]⟩ w).mono fun e w' ⟨he, hw⟩ => ⟨he, hw ▸ Below.refl _ _⟩
  | cons t l =>
    obtain ⟨A', c', hv, h1, h2, h3, h4⟩ := h
    injection hv with e1 e2 e3
    subst e1 e3
    obtain ⟨b, o, rfl, hb, hc⟩ := h4 (by simp)
    rw [List.length_map] at h1
    have hlen := argsF_len true (t :: l)
    have hj := join_words t l
    have := Any.strings_Join lays156 extra156 b o c ((t :: l).map wordV) ⟨#[44]⟩ w (fun j x hx => hc j (.string x) (by
        rw [List.getElem?_map] at hx ⊢
        cases hq : (t :: l)[j]? with
        | none => rw [hq] at hx; cases hx
        | some q =>
          rw [hq] at hx
          simp only [Option.map_some, Option.some.injEq] at hx ⊢
          rw [hx])) hb (by rw [List.length_map]; omega) (by rw [List.length_map]; exact h1) (by
      rw [show (⟨#[44]⟩ : ByteArray).data.toList = [44] from rfl, hj, strOfNums_data, List.length_map]
      omega)
    rw [List.length_map, show (⟨#[44]⟩ : ByteArray).data.toList = [44] from rfl, hj, str_of_data] at this
    exact this

set_option maxRecDepth 100000 in
set_option maxHeartbeats 1000000 in
theorem word_any (t : Int) (w : World) : Calls Try.prog 37 #[.int .i64 t] w fun e w' => e = .returned (.string (wordV t)) ∧ w' = w := by
  by_cases h : t = 1
  · subst h
    go_enter Try.func37, Try.ntmps37
    go_wp2_with fail
    go_ret
    exact ⟨rfl, rfl⟩
  · have h1 : (t == 1) = false := beq_eq_false_iff_ne.2 h
    have h2 : wordV t = ⟨#[115, 116, 114, 105, 110, 103]⟩ := by unfold wordV wordT; rw [if_neg h]; rfl
    rw [h2]
    clear h h2
    go_enter Try.func37, Try.ntmps37
    go_wp2_with fail
    go_ret
    exact ⟨rfl, rfl⟩

theorem Try.infoStrB : (Try.prog.info? 9).map (fun i => (i.zero, i.size, i.bytes)) = some (some (.string ⟨#[]⟩), 1, 16) := by kernel_rfl

set_option maxRecDepth 100000 in
set_option maxHeartbeats 2000000 in
theorem line_any (nm ar : List Int) (A : Option Addr) (c : Nat) (hn : nm.length ≤ 1000000) (ha : ar.length ≤ 1000000) (w : World) (hrow : IRow w w.heap.size (.slice A ar.length c) ar) :
    Calls Try.prog 30 #[.agg #[.string (strOfNums nm), .slice A ar.length c]] w fun e w' => e = .returned (.string (strOfNums (lineP ⟨nm, ar⟩))) ∧ Below w.heap.size w w' := by
  obtain ⟨i0, hi, hz0, hz1, hz2⟩ := info_parts Try.infoStrB
  obtain ⟨_, hc1, hc2⟩ : ∃ _ : True, ar.length ≤ c ∧ c ≤ 9223372036854775807 := by
    obtain ⟨A', c', hv, q1, q2, _⟩ := hrow
    injection hv with _ _ e3
    rw [List.length_map] at q1
    unfold maxLen at q2
    exact ⟨trivial, by omega, by omega⟩
  obtain ⟨n, hn0⟩ : ∃ n, w.heap.size = n := ⟨_, rfl⟩
  obtain ⟨w1, hw1⟩ : ∃ w1, w.alloc (.cells #[.string (strOfNums nm), .slice A ar.length c] 39) = w1 := ⟨_, rfl⟩
  have h1 : Held w1 n 39 #[.string (strOfNums nm), .slice A ar.length c] := by rw [← hw1, ← hn0]; exact heap_alloc_new w _
  have b1 : Below n w w1 := by rw [← hw1, ← hn0]; exact (Below.refl _ _).alloc (Nat.le_refl _) _
  rw [hn0] at hrow ⊢
  have HH1 := Lib.hid h1
  have HB1 := Lib.hid b1
  have HROW := Lib.hid hrow
  have hx1 := h1.cell 1
  have hl1 := h1.lt
  simp at hx1
  clear h1 b1 hrow
  go_enter Try.func30, Try.ntmps30
  go_wp2_with fail
  clear hn0
  go_loopg [3, 9] ar.length (fun gk v i wr => ∃ (k : Nat) (B : Option Addr) (d : Nat), k ≤ ar.length ∧ i = .int .i64 k ∧ v = .slice B k d ∧ Hid (ar.length - k = gk) ∧ Hid (wr.ownsRow (n + 1) 9 1 (.slice B k d) k ((ar.take k).map fun t => .string (wordV t))) ∧ Hid (Held wr n 39 #[.string (strOfNums nm), .slice A ar.length c]) ∧ Hid (Below n w wr))
  case atStart => exact ⟨0, none, 0, Nat.zero_le _, rfl, rfl, Lib.hid rfl, Lib.hid (World.ownsRow_nil _ _ _ _), HH1, HB1⟩
  case round =>
    obtain ⟨k, B, d, hk, rfl, rfl, HGK, HOW, HHR, HBR⟩ := hrel
    by_cases hlt : k < ar.length
    · obtain ⟨b, o, rfl, hb, ht⟩ := (HROW.out.below HBR.out).at hlt
      have HTK := Lib.hid (show ((ar.take (k + 1)).map fun t => Value.string (wordV t)) = ((ar.take k).map fun t => Value.string (wordV t)) ++ [.string (wordV (ar.getD k 0))] by
        rw [List.take_add_one, List.getElem?_eq_getElem hlt, List.map_append, List.getD, List.getElem?_eq_getElem hlt]
        rfl)
      obtain ⟨t, hT⟩ : ∃ t, ar.getD k 0 = t := ⟨_, rfl⟩
      rw [hT] at ht HTK
      have HWD := Lib.hid (fun W => word_any t W)
      have hnw : n + 1 ≤ wr.heap.size := HHR.out.lt
      clear hT
      go_wp2_with fail
      refine (HWD.out _).mono ?_
      rintro e w2 ⟨rfl, rfl⟩
      go_wp2_with (at_builtin; refine wpList_append_own _ rfl _ _ 74 rfl (n + 1) 9 i0 (.string ⟨#[]⟩) 1 16 Try.underlying74 hi hz0 hz1 hz2 rfl (by decide) _ _ _ rfl (HOW.out.alloc _) ⟨w2.heap.size, 0, none⟩ 1 1 [.string (wordV t)] rfl rfl (cell_one_new _ _ _) (by simp [Value.oneCell']) (by simp only [maxLen]; omega) (by omega) (by simp; omega) ?_; intro v3 w3 hown3 hg3 hn3; have hlow : ∀ j, (Value.slice B k d).ownBlock = some j → n + 1 ≤ j := (fun j e => (World.ownsRow.lt HOW.out j e).1); have hb3 : Below n w w3 := (HBR.out.alloc (by omega) _).grown hg3 (by simp; omega) (fun j e => by have := hlow j e; omega); have hal : Below w2.heap.size w2 (w2.alloc (.cells #[.string (wordV t)] 9)) := (Below.refl _ _).alloc (Nat.le_refl _) _; have hr3 := (HHR.out.below hal HHR.out.lt).grown hg3 (fun e => by have := hlow _ e.symm; omega); obtain ⟨A3, c3, rfl⟩ := own_form hown3; have HO3 := Lib.hid hown3; have HB3 := Lib.hid hb3; have HR3 := Lib.hid hr3; clear hown3 hb3 hg3 hn3 hr3 hal hlow)
      go_roundg (ar.length - (k + 1))
      case measure => have := HGK.out; omega
      case rel => exact ⟨k + 1, A3, c3, by omega, by go_num, rfl, Lib.hid rfl, Lib.hid (by rw [HTK.out]; exact HO3.out), HR3, HB3⟩
    · obtain rfl : k = ar.length := by omega
      have how := HOW.out
      rw [List.take_length] at how
      have HJN := Lib.hid (fun W (h : Below wr.heap.size wr W) => join_any B d ar ha W (((VRow.of_own how).below h).more h.size))
      have x0 := HHR.out.cell 0
      have hlr := HHR.out.lt
      simp at x0
      have hlen := argsF_len true ar
      have HFIN := Lib.hid (show lineP ⟨nm, ar⟩ = nm ++ [40] ++ argsF true ar ++ [41] from rfl)
      have hadd : ∀ (W : World) (k l : List Int), k.length + l.length ≤ 9223372036854775807 → (Op.stringOp .add (strOfNums k) (strOfNums l)).run Try.prog W = .ok (.string (strOfNums (k ++ l))) W := fun W k l h => add_strs (P := Try.prog) W k l h
      generalize argsF true ar = J at HJN HFIN hlen
      have a1 : ∀ W, (Op.stringOp .add (strOfNums nm) { data := #[40] }).run Try.prog W = .ok (.string (strOfNums (nm ++ [40]))) W := fun W => hadd W nm [40] (by simp; omega)
      have a2 : ∀ W, (Op.stringOp .add (strOfNums (nm ++ [40])) (strOfNums J)).run Try.prog W = .ok (.string (strOfNums (nm ++ [40] ++ J))) W := fun W => hadd W (nm ++ [40]) J (by simp; omega)
      have a3 : ∀ W, (Op.stringOp .add (strOfNums (nm ++ [40] ++ J)) { data := #[41] }).run Try.prog W = .ok (.string (strOfNums (nm ++ [40] ++ J ++ [41]))) W := fun W => hadd W (nm ++ [40] ++ J) [41] (by simp; omega)
      obtain ⟨X1, hX1⟩ : ∃ X1, nm ++ [40] = X1 := ⟨_, rfl⟩
      rw [hX1] at a1 a2 a3 HFIN
      obtain ⟨X2, hX2⟩ : ∃ X2, X1 ++ J = X2 := ⟨_, rfl⟩
      rw [hX2] at a2 a3 HFIN
      have HALL := Lib.hid (fun W (h : Below wr.heap.size wr W) => (h.cell (p := ⟨n, 0, none⟩) hlr).trans x0)
      clear hadd hX1 hX2 how hlen
      go_wp2_with fail
      go_region_held3 (fun W => W.cell? ⟨n, 0, none⟩ = some (.string (strOfNums nm)))
        (first | exact HALL.out _ (Below.refl _ _) | exact HALL.out _ (Below.refl _ _).drew | exact HALL.out _ b2)
        (first | (go_at_call 38; (with_reducible refine (HJN.out _ (Below.refl _ _).drew).mono ?_); rintro e w2 ⟨rfl, hb2⟩; have b2 : Below wr.heap.size wr w2 := (Below.refl _ _).drew.trans hb2))
      go_wp2_with fail
      go_ret
      exact ⟨by rw [HFIN.out]; rfl, HBR.out.trans (b2.mono (by omega))⟩
#print axioms line_any
end Go.Proofs.Ytncjfnmkoiclbaa
