/-
  The chapter's example of a feed, which each statement of this layer asks again: it is met, whatever the world.
-/
import Derived.Test.YtfaedecfpnmnjaaFeedGive
import Derived.Test.YtfaedecfpnmnjaaApart
namespace Go.Proofs.Ytfaedecfpnmnjaa
open Go.RowKit

theorem enc_ab : (encFr 2 [97, 98]).length = 12 := by
  have e : encI 2 = [2] := encI_small (by omega)
  rw [encFr_length]
  simp [e]
theorem enc_ab_byte : Bytes (encFr 2 [97, 98]) := encFr_bytes (.inr rfl) (by simp) (by
  intro x hx
  simp only [List.mem_cons, List.not_mem_nil, or_false] at hx
  rcases hx with rfl | rfl <;> omega)
theorem get_ab : getFr ((encFr 2 [97, 98]).drop 0) = ((2, [97, 98]), 12, 0) := by
  rw [List.drop_zero, ← List.append_nil (encFr 2 [97, 98]), getFr_enc (.inr rfl) (by simp) [], enc_ab]

set_option maxRecDepth 100000 in
set_option maxHeartbeats 1000000 in
theorem dfix_any (w : World) : Calls Try.prog 22 #[] w fun e w' => e = .returned (.bool true) ∧ Below w.heap.size w w' := by
  have hp := fun W h => fput_any 2 (.inr rfl) (some ⟨w.heap.size, 0, none⟩) 2 [97, 98] (by simp) (by simp) W h
  have hl := enc_ab
  have hby := enc_ab_byte
  have hg := get_ab
  rw [hl] at hp
  generalize encFr 2 [97, 98] = xs at hp hl hby hg
  have hbg : Begins xs 0 := by unfold Begins; rw [hg]
  have hpt : PartsS xs 0 [frS xs 0] := .fr 0 [] (by omega) hbg (.stop _ (by rw [hg]; simp only; omega))
  have kc := fun (w : World) (C : Array Value) (n c g : Nat) (h : g = w.heap.size) => Joins.run_convert_bytes_const_at (P := Try.prog) w 22 5 C n c g h Try.underlying22 Try.underlying5
  have hkc := kc w #[.int .u8 97, .int .u8 98] 2 2 w.heap.size rfl
  have HP := Lib.hid hp
  have HL := Lib.hid hl
  have HBY := Lib.hid hby
  have HPART := Lib.hid (fun k T a o (hk : k < xs.length) h => fd_part (T := T) (a := a) (o := o) hby hpt hk h)
  have HWH := Lib.hid (fun T a o h => fd_whole (T := T) (a := a) (o := o) hby hbg (by rw [hg]; exact hl.symm) h)
  clear hp hl hby hg hbg hpt kc
  go_enter Try.func22, Try.ntmps22
  go_wp2_with fail
  refine (HP.out _ (Row.of_cells (g := w.heap.size) (xs := [97, 98]) (by simp) (by simp) (fun i hi => by
    have h := heap_alloc_new w (.cells #[.int .u8 97, .int .u8 98] 5 (2, 3))
    have hi2 : i < 2 := by simpa using hi
    rcases (by omega : i = 0 ∨ i = 1) with rfl | rfl
    · simp only [World.cell?, h]
      rfl
    · simp only [World.cell?, h]
      rfl))).mono ?_
  rintro e w1 ⟨cap, gb, rfl, hown, hb1⟩
  have bw1 : Below w.heap.size w w1 := ((Below.refl _ _).alloc (Nat.le_refl _) _).trans (hb1.mono (by simp))
  have hcap := own_cap hown
  obtain ⟨hcap1, hcap2⟩ := hcap
  have HR1 := Lib.hid (Row.of_own hown)
  have HB1 := Lib.hid bw1
  clear hown hb1 bw1
  go_wp2_with fail
  refine (fnew_any _).mono ?_
  rintro e w2 ⟨rfl, hf2, hb2⟩
  have HF2 := Lib.hid hf2
  have HR2 := Lib.hid (HR1.out.below hb2)
  have HB2 := Lib.hid (HB1.out.trans (hb2.mono HB1.out.size))
  have hzw1 : w.heap.size ≤ w1.heap.size := HB1.out.size
  clear hf2 hb2
  obtain ⟨g, hgg⟩ : ∃ g, w1.heap.size = g := ⟨_, rfl⟩
  rw [hgg] at HF2 HR2 hzw1 ⊢
  clear hgg HR1
  go_wp2_with fail
  go_loopw [24] (fun i wr => ∃ (k : Nat) (vh : Value) (T : List Sg) (a o : Nat), k ≤ 12 ∧ i = .int .i64 k ∧ Hid (Fed wr g g vh (xs.take k) T a o) ∧ Hid (Row wr g (.slice (some ⟨gb, 0, none⟩) 12 cap) xs) ∧ Hid (Below w.heap.size w wr)) (fun i _ => 12 - (intOf i).toNat)
  case atStart => exact ⟨0, .slice none 0 0, [], 0, 0, Nat.zero_le _, rfl, Lib.hid ⟨HF2.out, World.ownsRow_nil _ _ _ _, Fd.start⟩, Lib.hid HR2.out, Lib.hid HB2.out⟩
  case round =>
    obtain ⟨k, vh, T, a, o, hk, rfl, HFD, HRO, HBW⟩ := hrel
    have hgl := HFD.out.1.lt
    by_cases hlt : k < 12
    · obtain rfl : T = [] := HPART.out k T a o (by rw [HL.out]; exact hlt) HFD.out.2.2
      have hr := (HRO.out.drop (k := k) (by rw [HL.out]; omega)).take (k := 1) (by rw [List.length_drop, HL.out]; omega)
      have hyl : ((xs.drop k).take 1).length = 1 := by rw [List.length_take, List.length_drop, HL.out]; omega
      rw [if_neg (by omega), Option.map_some, Go.WideShapes.add_plain, Nat.zero_add, hyl] at hr
      have htk : xs.take k ++ (xs.drop k).take 1 = xs.take (k + 1) := by rw [List.take_add]
      have hgv := give_any wr g g vh (xs.take k) [] a o HFD.out (fun x hx => HBY.out x (List.mem_of_mem_take hx)) (Nat.le_of_lt hgl) (some ⟨gb, k, none⟩) (cap - k) ((xs.drop k).take 1) (fun x hx => HBY.out x (List.mem_of_mem_drop (List.mem_of_mem_take hx))) (by rw [hyl]; exact hr.more (Nat.le_of_lt hgl)) (by rw [htk, List.length_take, HL.out]; omega)
      rw [hyl, htk] at hgv
      have HGV := Lib.hid hgv
      have hown := fun j (e : vh.ownBlock = some j) => (HFD.out.2.1.lt j e).1
      have HOWN := Lib.hid hown
      clear hgv hr hyl htk hown
      have k0 : (0 : Int) ≤ k := by omega
      have k1 : (k : Int) < 12 := by omega
      have hcap3 : (12 : Int) ≤ cap := by omega
      go_wp2_with fail
      refine HGV.out.mono ?_
      rintro e w3 ⟨v3, ps, vh', a', o', rfl, hs3, _, hfd3, hbut3, _, _, _⟩
      have hpl : ps.length = k / 11 := by
        rcases (by omega : k < 11 ∨ k = 11) with h | rfl
        · have := HPART.out (k + 1) _ a' o' (by rw [HL.out]; omega) hfd3.2.2
          have := congrArg List.length this
          rw [List.length_append, List.length_map] at this
          simp at this
          rw [this]
          simp
          omega
        · have h2 := hfd3.2.2
          rw [List.take_of_length_le (by rw [HL.out]; exact Nat.le_refl _)] at h2
          have := (HWH.out _ _ _ h2).1
          rw [List.length_append, List.length_map] at this
          simpa using this
      have hlow : Below g wr w3 := hbut3.low (Nat.le_of_lt hgl) (Nat.le_refl _) HOWN.out
      have HR3 := Lib.hid (HRO.out.below hlow)
      have HB3 := Lib.hid (HBW.out.trans (hlow.mono hzw1))
      have HFD3 := Lib.hid hfd3
      obtain ⟨A3, c3, rfl, _, _⟩ := hs3.form
      rw [hpl]
      have hq : (k : Int).tdiv 11 = ((k / 11 : Nat) : Int) := by rw [Int.tdiv_eq_ediv_of_nonneg (by omega)]; omega
      have hql : k / 11 ≤ 1 := by omega
      clear hs3 hfd3 hbut3 hlow hpl
      go_wp2_with fail
      go_roundw
      case rel => exact ⟨k + 1, vh', _, a', o', by omega, by go_num, HFD3, HR3, HB3⟩
      case measure => simp [intOf]; omega
    · obtain rfl : k = 12 := by omega
      have h2 := HFD.out.2.2
      rw [List.take_of_length_le (by rw [HL.out]; exact Nat.le_refl _)] at h2
      have ho := (HWH.out _ _ _ h2).2
      obtain ⟨Ah, nh, ch, rfl⟩ : ∃ Ah nh ch, vh = .slice Ah nh ch := by obtain ⟨A, c, e⟩ := own_form HFD.out.2.1; exact ⟨A, _, c, e⟩
      have hnh : nh = 0 := by
        obtain ⟨_, _, e⟩ := own_form HFD.out.2.1
        injection e with _ e _
        rw [List.length_take] at e
        have := HL.out
        omega
      subst hnh
      have htl : (xs.take 12).length = 12 := by rw [List.length_take, HL.out]; omega
      have hf := HFD.out.1
      rw [htl] at hf
      have HH := Lib.hid (held_any wr g Ah 0 ch _ _ _ hf)
      have HT := Lib.hid (total_any wr g _ _ _ _ hf)
      clear hf h2 htl
      go_wp2_with fail
      refine HH.out.mono ?_
      rintro e w5 ⟨rfl, rfl⟩
      go_wp2_with fail
      refine HT.out.mono ?_
      rintro e w6 ⟨rfl, rfl⟩
      go_wp2_with fail
      go_ret
      exact ⟨rfl, HBW.out⟩
#print axioms dfix_any
end Go.Proofs.Ytfaedecfpnmnjaa
