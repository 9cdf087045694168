/-
  The document's own answers for signatures as text: a predicate's line, a signature's text.
-/
import Derived.Test.YtncjfnmkoiclbaaSigRef
import Derived.Test.YtncjfnmkoiclbaaPlainSigtext
import Derived.Test.YtncjfnmkoiclbaaCur
namespace Go.Proofs.Ytncjfnmkoiclbaa
open Go.RowKit

theorem argsF_take {l : List Int} {k : Nat} (hk : k < l.length) : argsF true (l.take (k + 1)) = argsF true (l.take k) ++ (if k = 0 then [] else [44]) ++ wordT (l.getD k 0) := by
  rw [List.take_add_one, List.getElem?_eq_getElem hk]
  simp only [Option.toList_some]
  rw [argsF_snoc, List.getD, List.getElem?_eq_getElem hk]
  congr 2
  cases k with
  | zero => simp
  | succ k =>
    have : (l.take (k + 1)).isEmpty = false := by
      rw [List.isEmpty_eq_false_iff]
      intro e
      have := congrArg List.length e
      rw [List.length_take, List.length_nil] at this
      omega
    simp [this]
theorem argsF_len : ∀ (b : Bool) (l : List Int), (argsF b l).length ≤ l.length * 7
  | _, [] => by simp [argsF]
  | b, t :: l => by
    have := argsF_len false l
    have hw : (wordT t).length ≤ 6 := by unfold wordT; split <;> simp
    simp only [argsF, List.length_append, List.length_cons]
    cases b <;> simp <;> omega
theorem lineP_len (p : Pr) : (lineP p).length ≤ p.name.length + p.args.length * 7 + 2 := by
  have := argsF_len true p.args
  simp only [lineP, List.length_append, List.length_cons, List.length_nil]
  omega

set_option maxRecDepth 100000 in
set_option maxHeartbeats 1000000 in
theorem rline_any (nm ar : List Int) (A : Option Addr) (c : Nat) (hn : nm.length ≤ 1000000) (ha : ar.length ≤ 1000000) (w : World) (hrow : IRow w w.heap.size (.slice A ar.length c) ar) :
    Calls Try.prog 19 #[.agg #[.string (strOfNums nm), .slice A ar.length c]] w fun e w' => e = .returned (.string (strOfNums (lineP ⟨nm, ar⟩))) ∧ Below w.heap.size w w' := by
  obtain ⟨_, hc1, hc2⟩ : ∃ _ : True, ar.length ≤ c ∧ c ≤ 9223372036854775807 := by
    obtain ⟨A', c', hv, q1, q2, _⟩ := hrow
    injection hv with _ _ e3
    rw [List.length_map] at q1
    unfold maxLen at q2
    exact ⟨trivial, by omega, by omega⟩
  have hlen := argsF_len true ar
  have hadd : ∀ (W : World) (k l : List Int), k.length + l.length ≤ 9223372036854775807 → (Op.stringOp .add (strOfNums k) (strOfNums l)).run Try.prog W = .ok (.string (strOfNums (k ++ l))) W := fun W k l h => add_strs (P := Try.prog) W k l h
  have h40 : ∀ W, (Op.stringOp .add (strOfNums nm) { data := #[40] }).run Try.prog W = .ok (.string (strOfNums (nm ++ [40]))) W := fun W => hadd W nm [40] (by simp; omega)
  have hbox : Held (w.alloc (.cells #[.string (strOfNums nm), .slice A ar.length c] 39)) w.heap.size 39 #[.string (strOfNums nm), .slice A ar.length c] := heap_alloc_new w _
  have ba : Below w.heap.size w (w.alloc (.cells #[.string (strOfNums nm), .slice A ar.length c] 39)) := (Below.refl _ _).alloc (Nat.le_refl _) _
  have HBX := Lib.hid hbox
  have HB := Lib.hid ba
  have HROW := Lib.hid (hrow.below ba)
  have HADD := Lib.hid hadd
  obtain ⟨w1, hw1⟩ : ∃ w1, w.alloc (.cells #[.string (strOfNums nm), .slice A ar.length c] 39) = w1 := ⟨_, rfl⟩
  rw [hw1] at HBX HB HROW
  have hx1 := HBX.out.cell 1
  have hx0 := HBX.out.cell 0
  simp at hx0 hx1
  have hbl := HBX.out.lt
  clear hrow hbox ba hadd
  go_enter Try.func19, Try.ntmps19
  go_wp2_with fail
  go_loopg [3, 4] ar.length (fun gk s i wr => ∃ k : Nat, k ≤ ar.length ∧ i = .int .i64 k ∧ s = .string (strOfNums (nm ++ [40] ++ argsF true (ar.take k))) ∧ Hid (ar.length - k = gk) ∧ w1 = wr)
  case atStart => exact ⟨0, Nat.zero_le _, rfl, by simp [argsF], Lib.hid rfl, rfl⟩
  case round =>
    obtain ⟨k, hk, rfl, rfl, HGK, rfl⟩ := hrel
    have htl := argsF_len true (ar.take k)
    rw [List.length_take] at htl
    by_cases hlt : k < ar.length
    · obtain ⟨b, o, rfl, hb, ht⟩ := HROW.out.at hlt
      obtain ⟨t, hT⟩ : ∃ t, ar.getD k 0 = t := ⟨_, rfl⟩
      have hnext := argsF_take hlt
      rw [hT] at ht hnext
      have HNX := Lib.hid hnext
      clear hnext
      generalize hX : nm ++ [40] ++ argsF true (ar.take k) = X at *
      have hXl : X.length ≤ 9000000 := by rw [← hX]; simp; omega
      have HX := Lib.hid hX
      clear hX
      by_cases h0 : k = 0
      · subst h0
        rw [Nat.add_zero] at ht
        by_cases h1 : t = 1
        · subst h1
          have hs2 : ∀ W, (Op.stringOp .add (strOfNums X) { data := #[105, 110, 116] }).run Try.prog W = .ok (.string (strOfNums (X ++ [105, 110, 116]))) W := fun W => HADD.out W _ [105, 110, 116] (by simp; omega)
          go_wp2_with fail
          go_roundg (ar.length - (0 + 1))
          case measure => have := HGK.out; omega
          case rel => exact ⟨0 + 1, by omega, by go_num, by rw [HNX.out]; rw [← HX.out]; simp [wordT], Lib.hid rfl, rfl⟩
        · have hne : (t == 1) = false := beq_eq_false_iff_ne.2 h1
          have hwd : wordT t = [115, 116, 114, 105, 110, 103] := if_neg h1
          have HW := Lib.hid hwd
          clear hwd h1
          have hs2 : ∀ W, (Op.stringOp .add (strOfNums X) { data := #[115, 116, 114, 105, 110, 103] }).run Try.prog W = .ok (.string (strOfNums (X ++ [115, 116, 114, 105, 110, 103]))) W := fun W => HADD.out W _ [115, 116, 114, 105, 110, 103] (by simp; omega)
          go_wp2_with fail
          go_roundg (ar.length - (0 + 1))
          case measure => have := HGK.out; omega
          case rel => exact ⟨0 + 1, by omega, by go_num, by rw [HNX.out]; rw [← HX.out, HW.out]; simp, Lib.hid rfl, rfl⟩
      · have hk0i : (0 : Int) < k := by omega
        have hcm : ∀ W, (Op.stringOp .add (strOfNums X) { data := #[44] }).run Try.prog W = .ok (.string (strOfNums (X ++ [44]))) W := fun W => HADD.out W _ [44] (by simp; omega)
        by_cases h1 : t = 1
        · subst h1
          have hs2 : ∀ W, (Op.stringOp .add (strOfNums (X ++ [44])) { data := #[105, 110, 116] }).run Try.prog W = .ok (.string (strOfNums ((X ++ [44]) ++ [105, 110, 116]))) W := fun W => HADD.out W _ [105, 110, 116] (by simp; omega)
          go_wp2_with fail
          go_roundg (ar.length - (k + 1))
          case measure => have := HGK.out; omega
          case rel => exact ⟨k + 1, by omega, by go_num, by rw [HNX.out]; rw [← HX.out, if_neg h0]; simp [wordT], Lib.hid rfl, rfl⟩
        · have hne : (t == 1) = false := beq_eq_false_iff_ne.2 h1
          have hwd : wordT t = [115, 116, 114, 105, 110, 103] := if_neg h1
          have HW := Lib.hid hwd
          clear hwd h1
          have hs2 : ∀ W, (Op.stringOp .add (strOfNums (X ++ [44])) { data := #[115, 116, 114, 105, 110, 103] }).run Try.prog W = .ok (.string (strOfNums ((X ++ [44]) ++ [115, 116, 114, 105, 110, 103]))) W := fun W => HADD.out W _ [115, 116, 114, 105, 110, 103] (by simp; omega)
          go_wp2_with fail
          go_roundg (ar.length - (k + 1))
          case measure => have := HGK.out; omega
          case rel => exact ⟨k + 1, by omega, by go_num, by rw [HNX.out]; rw [← HX.out, if_neg h0, HW.out]; simp, Lib.hid rfl, rfl⟩
    · obtain rfl : k = ar.length := by omega
      rw [List.take_length]
      have HFIN := Lib.hid (show lineP ⟨nm, ar⟩ = nm ++ [40] ++ argsF true ar ++ [41] from rfl)
      generalize hY : nm ++ [40] ++ argsF true ar = Y at HFIN ⊢
      have hYl : Y.length ≤ 9000000 := by rw [← hY]; simp; omega
      have h41 : ∀ W, (Op.stringOp .add (strOfNums Y) { data := #[41] }).run Try.prog W = .ok (.string (strOfNums (Y ++ [41]))) W := fun W => HADD.out W _ [41] (by simp; omega)
      clear hY
      go_wp2_with fail
      go_ret
      exact ⟨by rw [HFIN.out]; rfl, HB.out⟩
#print axioms rline_any

theorem okName_len {s : List Int} (h : okName s = true) : s.length ≤ 32 := by
  unfold okName at h
  simp only [Bool.and_eq_true, decide_eq_true_eq] at h
  exact h.1.1.2
theorem printP_len : ∀ (l : List Pr), (∀ p ∈ l, p.name.length ≤ 32 ∧ p.args.length ≤ 8) → (printP l).length ≤ l.length * 100
  | [], _ => by simp [printP]
  | p :: l, h => by
    have h1 := printP_len l (fun q hq => h q (List.mem_cons_of_mem _ hq))
    have h2 := h p (List.mem_cons_self ..)
    have h3 := lineP_len p
    simp only [printP, List.length_append, List.length_cons, List.length_nil]
    omega
theorem checkP_small {l : List Pr} (h : checkP l = 0) : l.length ≤ 64 ∧ ∀ p ∈ l, p.name.length ≤ 32 ∧ p.args.length ≤ 8 := by
  obtain ⟨h1, h2⟩ := checkP_zero.1 h
  refine ⟨h1, fun p hp => ?_⟩
  obtain ⟨i, hi⟩ := List.mem_iff_getElem?.1 hp
  obtain ⟨q1, _, q3, _⟩ := h2 i p hi
  exact ⟨okName_len q1, q3⟩
/-- What Print answers of a signature. -/
def textP (l : List Pr) : List Int := if checkP l = 0 then printP l else []

set_option maxRecDepth 100000 in
set_option maxHeartbeats 1000000 in
theorem rprint_any (A : Option Addr) (c : Nat) (ds : List Pd) (w : World) (hrow : PredRow w w.heap.size (.slice A ds.length c) ds) :
    Calls Try.prog 17 #[.slice A ds.length c] w fun e w' => e = .returned (.tuple #[.string (strOfNums (textP (ds.map (·.p)))), .int .i64 (checkP (ds.map (·.p)))]) ∧ Below w.heap.size w w' := by
  obtain ⟨_, hc1, hc2⟩ : ∃ _ : True, ds.length ≤ c ∧ c ≤ 9223372036854775807 := by
    obtain ⟨A', c', hv, q1, q2⟩ := hrow.form
    injection hv with _ _ e3
    exact ⟨trivial, by omega, by omega⟩
  have hck := rcheck_any A c ds w hrow
  have HROW := Lib.hid hrow
  clear hrow
  by_cases h0 : checkP (ds.map (·.p)) = 0
  · obtain ⟨hs1, hs2⟩ := checkP_small h0
    rw [List.length_map] at hs1
    have HS2 := Lib.hid hs2
    have HT := Lib.hid (show textP (ds.map (·.p)) = printP (ds.map (·.p)) from if_pos h0)
    rw [h0] at hck ⊢
    have HCK := Lib.hid hck
    clear hck h0 hs2
    have hadd : ∀ (W : World) (k l : List Int), k.length + l.length ≤ 9223372036854775807 → (Op.stringOp .add (strOfNums k) (strOfNums l)).run Try.prog W = .ok (.string (strOfNums (k ++ l))) W := fun W k l h => add_strs (P := Try.prog) W k l h
    have HADD := Lib.hid hadd
    clear hadd
    go_enter Try.func17, Try.ntmps17
    go_wp2_with fail
    refine HCK.out.mono ?_
    rintro e w1 ⟨rfl, rfl⟩
    go_wp2_with fail
    go_loopg [5, 6] ds.length (fun gk s i wr => ∃ k : Nat, k ≤ ds.length ∧ i = .int .i64 k ∧ s = .string (strOfNums (printP ((ds.map (·.p)).take k))) ∧ Hid (ds.length - k = gk) ∧ Below w.heap.size w wr)
    case atStart => exact ⟨0, Nat.zero_le _, rfl, by simp [printP]; rfl, Lib.hid rfl, Below.refl _ _⟩
    case round =>
      obtain ⟨k, hk, rfl, rfl, HGK, hbw⟩ := hrel
      by_cases hlt : k < ds.length
      · obtain ⟨d, hd⟩ : ∃ d, ds[k]? = some d := ⟨_, List.getElem?_eq_getElem hlt⟩
        have hnx : printP ((ds.map (·.p)).take (k + 1)) = printP ((ds.map (·.p)).take k) ++ lineP d.p ++ [10] := by
          rw [List.take_add_one, at_pr hd, printP_append]
          simp [printP]
        have hpl := printP_len ((ds.map (·.p)).take k) (fun p hp => HS2.out p (List.mem_of_mem_take hp))
        rw [List.length_take, List.length_map] at hpl
        have hdl := HS2.out d.p (List.mem_map.2 ⟨d, List.mem_of_getElem? hd, rfl⟩)
        have hll := lineP_len d.p
        obtain ⟨b, o, rfl, hb, x0, x1, hir, hfit, ha1, ha2⟩ := (HROW.out.below hbw).at hd
        have HNX := Lib.hid hnx
        have HLN := Lib.hid (rline_any d.p.name d.p.args d.A d.c (by omega) (by omega) wr (hir.more hbw.size))
        have HBW := Lib.hid hbw
        have hzw := hbw.size
        clear hnx hir hfit hd hbw
        change Hid (Calls _ _ _ _ (fun e w' => e = .returned (.string (strOfNums (lineP d.p))) ∧ Below wr.heap.size wr w')) at HLN
        generalize printP ((ds.map (·.p)).take k) = X at *
        obtain ⟨L, hL⟩ : ∃ L, lineP d.p = L := ⟨_, rfl⟩
        rw [hL] at HLN HNX hll
        clear hL
        have ha : ∀ W, (Op.stringOp .add (strOfNums X) (strOfNums L)).run Try.prog W = .ok (.string (strOfNums (X ++ L))) W := fun W => HADD.out W X L (by omega)
        have hb2 : ∀ W, (Op.stringOp .add (strOfNums (X ++ L)) { data := #[10] }).run Try.prog W = .ok (.string (strOfNums (X ++ L ++ [10]))) W := fun W => HADD.out W (X ++ L) [10] (by simp; omega)
        go_wp2_with fail
        refine HLN.out.mono ?_
        rintro e w2 ⟨rfl, hb3⟩
        have HB2 := Lib.hid (HBW.out.trans (hb3.mono hzw))
        clear hb3
        go_wp2_with fail
        go_roundg (ds.length - (k + 1))
        case measure => have := HGK.out; omega
        case rel => exact ⟨k + 1, by omega, by go_num, by rw [HNX.out, List.append_assoc], Lib.hid rfl, HB2.out⟩
      · obtain rfl : k = ds.length := by omega
        have HB := Lib.hid hbw
        clear hbw
        go_wp2_with fail
        go_ret2
        exact ⟨by rw [HT.out, List.take_of_length_le (by rw [List.length_map]; exact Nat.le_refl _)]; rfl, HB.out⟩
  · have hne : (checkP (ds.map (·.p)) != 0) = true := bne_iff_ne.2 h0
    have HT := Lib.hid (show textP (ds.map (·.p)) = [] from if_neg h0)
    generalize checkP (ds.map (·.p)) = C at hck hne ⊢
    have HCK := Lib.hid hck
    clear hck h0
    go_enter Try.func17, Try.ntmps17
    go_wp2_with fail
    refine HCK.out.mono ?_
    rintro e w1 ⟨rfl, rfl⟩
    go_wp2_with fail
    go_ret2
    exact ⟨by rw [HT.out]; rfl, Below.refl _ _⟩
#print axioms rprint_any
end Go.Proofs.Ytncjfnmkoiclbaa
