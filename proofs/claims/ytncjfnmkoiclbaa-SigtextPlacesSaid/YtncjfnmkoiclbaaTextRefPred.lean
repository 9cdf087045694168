/-
  The document's own way through a line: Pred.
-/
import Derived.Test.YtncjfnmkoiclbaaTextRef
import Derived.Test.YtncjfnmkoiclbaaTextPred
import Derived.Deep.RegionHeld3
namespace Go.Proofs.Ytncjfnmkoiclbaa
open Go.RowKit

theorem psAt_bounds (s : List Int) : ∀ i, -1 ≤ (psAt s i).frm ∧ (psAt s i).frm ≤ i ∧ (psAt s i).args.length ≤ i ∧ (psAt s i).name.length ≤ i ∧ ∀ x ∈ (psAt s i).name, x ∈ s
  | 0 => by simp [psAt]
  | i + 1 => by
    obtain ⟨h1, h2, h3, h4, h5⟩ := psAt_bounds s i
    rw [psAt, psStep]
    split
    · refine ⟨by simp only; omega, by simp only; omega, by simp only; omega, by simp only [List.length_take]; omega, fun x hx => List.mem_of_mem_take hx⟩
    · split
      · refine ⟨by simp only; omega, by simp only; omega, ?_, by simp only; omega, h5⟩
        have : ∀ t : List Int, (typeOf t).length ≤ 1 := fun t => by unfold typeOf; split <;> (try split) <;> simp
        simp only [List.length_append]
        have := this ((s.take i).drop (psAt s i).frm.toNat)
        omega
      · exact ⟨h1, by omega, by omega, by omega, h5⟩
theorem own_put1 {w : World} {n m k i : Nat} {e : TypeId} {size : Nat} {v u : Value} {us : List Value} (h : w.ownsRow n e size v k us) (hm : m < n) : (w.setCell ⟨m, i, none⟩ u).ownsRow n e size v k us :=
  World.ownsRow.kept h (grown_put w m i u) (.inr (own_low h hm))
/-- What '==' of a text and a constant comes to. -/
theorem eq_const {xs : List Int} (ys : List Int) (hx : ∀ x ∈ xs, 0 ≤ x ∧ x < 256) (hy : ∀ y ∈ ys, 0 ≤ y ∧ y < 256) : ((strOfNums xs).toList == ys.map fun n => UInt8.ofNat n.toNat) = decide (xs = ys) := by
  rw [← strOfNums_data, ← Lib.toList_data]
  exact str_eq_dec hx hy
theorem line_bytes {nm zs : List Int} (h : ∀ x ∈ nm, 0 ≤ x ∧ x < 256) : ∀ x ∈ lineP ⟨nm, zs⟩, 0 ≤ x ∧ x < 256 := by
  have hargs : ∀ (b : Bool) (l : List Int), ∀ x ∈ argsF b l, 0 ≤ x ∧ x < 256 := by
    intro b l
    induction l generalizing b with
    | nil => intro x hx; simp [argsF] at hx
    | cons t l ih =>
      intro x hx
      rw [argsF] at hx
      rcases List.mem_append.1 hx with hx | hx
      · rcases List.mem_append.1 hx with hx | hx
        · cases b <;> simp at hx
          omega
        · unfold wordT at hx
          split at hx <;> (simp only [List.mem_cons, List.not_mem_nil, or_false] at hx; omega)
      · exact ih false x hx
  intro x hx
  unfold lineP at hx
  simp only [List.mem_append, List.mem_singleton] at hx
  rcases hx with ((hx | rfl) | hx) | rfl
  · exact h x hx
  · omega
  · exact hargs true zs x hx
  · omega
theorem below_put {w : World} {B m i : Nat} (u : Value) (hm : B ≤ m) : Below B w (w.setCell ⟨m, i, none⟩ u) := (Below.refl _ _).setCell (p := ⟨m, i, none⟩) hm u

set_option maxRecDepth 100000 in
set_option maxHeartbeats 4000000 in
theorem rpred_any (xs : List Int) (hb : ∀ x ∈ xs, 0 ≤ x ∧ x < 256) (hl : xs.length ≤ 1000000) (w : World) :
    Calls Try.prog 34 #[.string (strOfNums xs)] w fun e w' => (∃ A c, e = .returned (.tuple #[.agg #[.string (strOfNums (predR xs).name), .slice A (predR xs).args.length c], .bool (okLine xs)]) ∧ OwnA w' w.heap.size ⟨predR xs, A, c⟩) ∧ Below w.heap.size w w' := by
  obtain ⟨i0, hi, hz0, hz1, hz2⟩ := info_parts Try.infoIntB
  have hsz := strOfNums_size xs
  obtain ⟨n, hn⟩ : ∃ n, w.heap.size = n := ⟨_, rfl⟩
  have ha : Held (w.alloc (.cells #[.string ⟨#[]⟩, .slice none 0 0] 39)) n 39 #[.string ⟨#[]⟩, .slice none 0 0] := by rw [← hn]; exact heap_alloc_new w _
  have sa : (w.alloc (.cells #[.string ⟨#[]⟩, .slice none 0 0] 39)).heap.size = n + 1 := by rw [← hn]; simp
  have hp : Held ((w.alloc (.cells #[.string ⟨#[]⟩, .slice none 0 0] 39)).alloc (.cells #[.string ⟨#[]⟩, .slice none 0 0] 39)) (n + 1) 39 #[.string ⟨#[]⟩, .slice none 0 0] := by rw [← sa]; exact heap_alloc_new _ _
  have hr : Held ((w.alloc (.cells #[.string ⟨#[]⟩, .slice none 0 0] 39)).alloc (.cells #[.string ⟨#[]⟩, .slice none 0 0] 39)) n 39 #[.string ⟨#[]⟩, .slice none 0 0] := ha.below ((Below.refl _ _).alloc (Nat.le_refl _) _) (by omega)
  have hbb : Below n w ((w.alloc (.cells #[.string ⟨#[]⟩, .slice none 0 0] 39)).alloc (.cells #[.string ⟨#[]⟩, .slice none 0 0] 39)) := ((Below.refl n w).alloc (by omega) _).alloc (by omega) _
  have HP := Lib.hid hp
  have HR := Lib.hid hr
  have HB := Lib.hid hbb
  have HN := Lib.hid hn
  have HBY := Lib.hid hb
  rw [hn]
  clear ha sa hp hr hbb hn hb
  go_enter Try.func34, Try.ntmps34
  go_wp2_with fail
  rw [HN.out]
  go_loopg [5, 6] xs.length (fun gk f i wr => ∃ (k : Nat) (nm zs : List Int) (fr : Int) (A : Option Addr) (c : Nat), k ≤ xs.length ∧ i = .int .i64 k ∧ f = .int .i64 fr ∧ Hid (xs.length - k = gk) ∧ Hid (psAt xs k = ⟨nm, zs, fr⟩) ∧ Hid (wr.ownsRow (n + 2) 3 1 (.slice A zs.length c) zs.length (zs.map (.int .i64))) ∧ Hid (Held wr (n + 1) 39 #[.string (strOfNums nm), .slice A zs.length c]) ∧ Hid (Held wr n 39 #[.string ⟨#[]⟩, .slice none 0 0]) ∧ Hid (Below n w wr))
  case atStart => exact ⟨0, [], [], -1, none, 0, Nat.zero_le _, rfl, rfl, Lib.hid rfl, Lib.hid rfl, Lib.hid (World.ownsRow_nil _ _ _ _), HP, HR, HB⟩
  case round =>
    obtain ⟨k, nm, zs, fr, A, c, hk, rfl, rfl, HGK, HPS, HOW, HHP, HHR, HBR⟩ := hrel
    obtain ⟨g1, g2, g3, g4, g5⟩ := psAt_bounds xs k
    rw [HPS.out] at g1 g2 g3 g4 g5
    simp only at g1 g2 g3 g4 g5
    have G5 := Lib.hid g5
    have hnw : n + 2 ≤ wr.heap.size := HHP.out.lt
    clear g5
    have c0 := HHP.out.cell 0
    have c1 := HHP.out.cell 1
    have z0 := HHP.out.frozen 0
    have z1 := HHP.out.frozen 1
    have zl := HHP.out.lt
    simp at c0 c1
    by_cases hlt : k < xs.length
    · have hat := str_at xs HBY.out k hlt (by omega)
      obtain ⟨z, hz⟩ : ∃ z, xs.getD k 0 = z := ⟨_, rfl⟩
      rw [hz] at hat
      have HZ := Lib.hid hz
      clear hz
      by_cases hf : fr < 0
      · by_cases h40 : z = 40
        · have HST := Lib.hid (show psAt xs (k + 1) = ⟨xs.take k, zs, (k : Int) + 1⟩ by rw [psAt, HPS.out, psStep, if_pos ⟨hf, by rw [HZ.out]; exact h40⟩])
          have hcut : (strOfNums xs).extract 0 k = strOfNums (xs.take k) := by rw [str_cut]; rfl
          subst h40
          go_wp2_with fail
          go_roundg (xs.length - (k + 1))
          case measure => have := HGK.out; omega
          case rel => exact ⟨k + 1, xs.take k, zs, (k : Int) + 1, A, c, by omega, by go_num, rfl, Lib.hid rfl, HST, Lib.hid (own_put1 HOW.out (by omega)), Lib.hid (by simpa using HHP.out.put 0 (.string (strOfNums (xs.take k)))), Lib.hid (HHR.out.below (below_put (B := n + 1) _ (Nat.le_refl _)) (Nat.lt_succ_self _)), Lib.hid (HBR.out.setCell (p := ⟨n + 1, 0, none⟩) (Nat.le_succ _) _)⟩
        · have hne : (z == 40) = false := beq_eq_false_iff_ne.2 h40
          have HST := Lib.hid (show psAt xs (k + 1) = ⟨nm, zs, fr⟩ by rw [psAt, HPS.out]; exact psStep_none (fun _ => by rw [HZ.out]; exact h40) (fun h => absurd hf (by simp only at h; omega)))
          go_wp2_with fail
          go_roundg (xs.length - (k + 1))
          case measure => have := HGK.out; omega
          case rel => exact ⟨k + 1, nm, zs, fr, A, c, by omega, by go_num, rfl, Lib.hid rfl, HST, HOW, HHP, HHR, HBR⟩
      · have hfl : fr ≤ (k : Int) := g2
        have hf0 : (0 : Int) ≤ fr := by omega
        have hcut : (strOfNums xs).extract fr.toNat k = strOfNums ((xs.take k).drop fr.toNat) := str_cut xs fr.toNat k
        have hwb : ∀ x ∈ (xs.take k).drop fr.toNat, 0 ≤ x ∧ x < 256 := fun x hx => HBY.out x (List.mem_of_mem_take (List.mem_of_mem_drop hx))
        obtain ⟨word, hwd0⟩ : ∃ word, (xs.take k).drop fr.toNat = word := ⟨_, rfl⟩
        rw [hwd0] at hcut hwb
        have HWD := Lib.hid hwd0
        clear hwd0
        by_cases h44 : z = 44
        · 
          have HZ44 : Hid (z = 44 ∨ z = 41) := Lib.hid (.inl h44)
          subst h44
          have HPX := Lib.hid (show psAt xs (k + 1) = ⟨nm, zs ++ typeOf word, (k : Int) + 1⟩ by
            rw [psAt, HPS.out, psStep, if_neg (by simp only; omega), if_pos ⟨by simp only; omega, by have := HZ.out; omega⟩]
            simp only [HWD.out])
          by_cases hw1 : word = [105, 110, 116]
          · have HST := Lib.hid (show psAt xs (k + 1) = ⟨nm, zs ++ [1], (k : Int) + 1⟩ by rw [HPX.out, hw1]; rfl)
            have q1 : ((strOfNums word).toList == ([105, 110, 116] : List UInt8)) = true := (eq_const [105, 110, 116] hwb (by simp)).trans (decide_eq_true hw1)
            clear HPX hw1
            go_wp2_with (at_builtin; refine wpList_append_own _ rfl _ _ 37 rfl (n + 2) 3 i0 (.int .i64 0) 1 8 Try.underlying37 hi hz0 hz1 hz2 rfl (by decide) _ _ _ rfl (HOW.out.alloc _) ⟨wr.heap.size, 0, none⟩ 1 1 [.int .i64 1] rfl rfl (cell_one_new _ _ _) (by simp [Value.oneCell']) (by simp only [maxLen]; omega) (by omega) (by simp; omega) ?_; intro v3 w3 hown3 hg3 hn3; have hlow : ∀ j, (Value.slice A zs.length c).ownBlock = some j → n + 2 ≤ j := fun j e => (World.ownsRow.lt HOW.out j e).1; have hb3 : Below n w w3 := (HBR.out.alloc (by omega) _).grown hg3 (by simp; omega) (fun j e => by have := hlow j e; omega); have hal : Below wr.heap.size wr (wr.alloc (.cells #[.int .i64 1] 3)) := (Below.refl _ _).alloc (Nat.le_refl _) _; have hp3 := (HHP.out.below hal HHP.out.lt).grown hg3 (fun e => by have := hlow _ e.symm; omega); have hr3 := (HHR.out.below hal HHR.out.lt).grown hg3 (fun e => by have := hlow _ e.symm; omega); obtain ⟨A3, c3, rfl⟩ := own_form hown3; have HO3 := Lib.hid hown3; have HB3 := Lib.hid hb3; have HP3 := Lib.hid hp3; have HR3 := Lib.hid hr3; have HEV := Lib.hid (show (zs.map (Value.int .i64) ++ [.int .i64 1]) = (zs ++ [1]).map (.int .i64) by simp); have y0 := hp3.cell 0; have y1 := hp3.cell 1; have yz1 := hp3.frozen 1; have yl := hp3.lt; simp at y0 y1; clear hown3 hb3 hg3 hn3 hp3 hr3 hal hlow c0 c1 z0 z1 zl)
            go_roundg (xs.length - (k + 1))
            case measure => have := HGK.out; omega
            case rel => exact ⟨k + 1, nm, zs ++ [1], (k : Int) + 1, A3, c3, by omega, by go_num, rfl, Lib.hid rfl, HST, Lib.hid (by rw [← HEV.out, List.length_append, show zs.length + [(1 : Int)].length = zs.length + 1 from rfl]; exact own_put1 HO3.out (by omega)), Lib.hid (by rw [List.length_append, show zs.length + [(1 : Int)].length = zs.length + 1 from rfl]; simpa using HP3.out.put 1 (.slice A3 (zs.length + 1) c3)), Lib.hid (HR3.out.below (below_put (B := n + 1) _ (Nat.le_refl _)) (Nat.lt_succ_self _)), Lib.hid (HB3.out.setCell (p := ⟨n + 1, 1, none⟩) (Nat.le_succ _) _)⟩
          · by_cases hw2 : word = [115, 116, 114, 105, 110, 103]
            · have HST := Lib.hid (show psAt xs (k + 1) = ⟨nm, zs ++ [2], (k : Int) + 1⟩ by rw [HPX.out, hw2]; rfl)
              have q1 : ((strOfNums word).toList == ([105, 110, 116] : List UInt8)) = false := (eq_const [105, 110, 116] hwb (by simp)).trans (decide_eq_false hw1)
              have q2 : ((strOfNums word).toList == ([115, 116, 114, 105, 110, 103] : List UInt8)) = true := (eq_const [115, 116, 114, 105, 110, 103] hwb (by simp)).trans (decide_eq_true hw2)
              clear HPX hw1 hw2
              go_wp2_with (at_builtin; refine wpList_append_own _ rfl _ _ 37 rfl (n + 2) 3 i0 (.int .i64 0) 1 8 Try.underlying37 hi hz0 hz1 hz2 rfl (by decide) _ _ _ rfl (HOW.out.alloc _) ⟨wr.heap.size, 0, none⟩ 1 1 [.int .i64 2] rfl rfl (cell_one_new _ _ _) (by simp [Value.oneCell']) (by simp only [maxLen]; omega) (by omega) (by simp; omega) ?_; intro v3 w3 hown3 hg3 hn3; have hlow : ∀ j, (Value.slice A zs.length c).ownBlock = some j → n + 2 ≤ j := fun j e => (World.ownsRow.lt HOW.out j e).1; have hb3 : Below n w w3 := (HBR.out.alloc (by omega) _).grown hg3 (by simp; omega) (fun j e => by have := hlow j e; omega); have hal : Below wr.heap.size wr (wr.alloc (.cells #[.int .i64 2] 3)) := (Below.refl _ _).alloc (Nat.le_refl _) _; have hp3 := (HHP.out.below hal HHP.out.lt).grown hg3 (fun e => by have := hlow _ e.symm; omega); have hr3 := (HHR.out.below hal HHR.out.lt).grown hg3 (fun e => by have := hlow _ e.symm; omega); obtain ⟨A3, c3, rfl⟩ := own_form hown3; have HO3 := Lib.hid hown3; have HB3 := Lib.hid hb3; have HP3 := Lib.hid hp3; have HR3 := Lib.hid hr3; have HEV := Lib.hid (show (zs.map (Value.int .i64) ++ [.int .i64 2]) = (zs ++ [2]).map (.int .i64) by simp); have y0 := hp3.cell 0; have y1 := hp3.cell 1; have yz1 := hp3.frozen 1; have yl := hp3.lt; simp at y0 y1; clear hown3 hb3 hg3 hn3 hp3 hr3 hal hlow c0 c1 z0 z1 zl)
              go_roundg (xs.length - (k + 1))
              case measure => have := HGK.out; omega
              case rel => exact ⟨k + 1, nm, zs ++ [2], (k : Int) + 1, A3, c3, by omega, by go_num, rfl, Lib.hid rfl, HST, Lib.hid (by rw [← HEV.out, List.length_append, show zs.length + [(2 : Int)].length = zs.length + 1 from rfl]; exact own_put1 HO3.out (by omega)), Lib.hid (by rw [List.length_append, show zs.length + [(2 : Int)].length = zs.length + 1 from rfl]; simpa using HP3.out.put 1 (.slice A3 (zs.length + 1) c3)), Lib.hid (HR3.out.below (below_put (B := n + 1) _ (Nat.le_refl _)) (Nat.lt_succ_self _)), Lib.hid (HB3.out.setCell (p := ⟨n + 1, 1, none⟩) (Nat.le_succ _) _)⟩
            · have HST := Lib.hid (show psAt xs (k + 1) = ⟨nm, zs, (k : Int) + 1⟩ by rw [HPX.out]; unfold typeOf; rw [if_neg hw1, if_neg hw2, List.append_nil])
              have q1 : ((strOfNums word).toList == ([105, 110, 116] : List UInt8)) = false := (eq_const [105, 110, 116] hwb (by simp)).trans (decide_eq_false hw1)
              have q2 : ((strOfNums word).toList == ([115, 116, 114, 105, 110, 103] : List UInt8)) = false := (eq_const [115, 116, 114, 105, 110, 103] hwb (by simp)).trans (decide_eq_false hw2)
              clear HPX hw1 hw2
              go_wp2_with fail
              go_roundg (xs.length - (k + 1))
              case measure => have := HGK.out; omega
              case rel => exact ⟨k + 1, nm, zs, (k : Int) + 1, A, c, by omega, by go_num, rfl, Lib.hid rfl, HST, HOW, HHP, HHR, HBR⟩
        · have hn44 : (z == 44) = false := beq_eq_false_iff_ne.2 h44
          by_cases h41 : z = 41
          · 
            subst h41
            have HPX := Lib.hid (show psAt xs (k + 1) = ⟨nm, zs ++ typeOf word, (k : Int) + 1⟩ by
              rw [psAt, HPS.out, psStep, if_neg (by simp only; omega), if_pos ⟨by simp only; omega, by have := HZ.out; omega⟩]
              simp only [HWD.out])
            by_cases hw1 : word = [105, 110, 116]
            · have HST := Lib.hid (show psAt xs (k + 1) = ⟨nm, zs ++ [1], (k : Int) + 1⟩ by rw [HPX.out, hw1]; rfl)
              have q1 : ((strOfNums word).toList == ([105, 110, 116] : List UInt8)) = true := (eq_const [105, 110, 116] hwb (by simp)).trans (decide_eq_true hw1)
              clear HPX hw1
              go_wp2_with (at_builtin; refine wpList_append_own _ rfl _ _ 37 rfl (n + 2) 3 i0 (.int .i64 0) 1 8 Try.underlying37 hi hz0 hz1 hz2 rfl (by decide) _ _ _ rfl (HOW.out.alloc _) ⟨wr.heap.size, 0, none⟩ 1 1 [.int .i64 1] rfl rfl (cell_one_new _ _ _) (by simp [Value.oneCell']) (by simp only [maxLen]; omega) (by omega) (by simp; omega) ?_; intro v3 w3 hown3 hg3 hn3; have hlow : ∀ j, (Value.slice A zs.length c).ownBlock = some j → n + 2 ≤ j := fun j e => (World.ownsRow.lt HOW.out j e).1; have hb3 : Below n w w3 := (HBR.out.alloc (by omega) _).grown hg3 (by simp; omega) (fun j e => by have := hlow j e; omega); have hal : Below wr.heap.size wr (wr.alloc (.cells #[.int .i64 1] 3)) := (Below.refl _ _).alloc (Nat.le_refl _) _; have hp3 := (HHP.out.below hal HHP.out.lt).grown hg3 (fun e => by have := hlow _ e.symm; omega); have hr3 := (HHR.out.below hal HHR.out.lt).grown hg3 (fun e => by have := hlow _ e.symm; omega); obtain ⟨A3, c3, rfl⟩ := own_form hown3; have HO3 := Lib.hid hown3; have HB3 := Lib.hid hb3; have HP3 := Lib.hid hp3; have HR3 := Lib.hid hr3; have HEV := Lib.hid (show (zs.map (Value.int .i64) ++ [.int .i64 1]) = (zs ++ [1]).map (.int .i64) by simp); have y0 := hp3.cell 0; have y1 := hp3.cell 1; have yz1 := hp3.frozen 1; have yl := hp3.lt; simp at y0 y1; clear hown3 hb3 hg3 hn3 hp3 hr3 hal hlow c0 c1 z0 z1 zl)
              go_roundg (xs.length - (k + 1))
              case measure => have := HGK.out; omega
              case rel => exact ⟨k + 1, nm, zs ++ [1], (k : Int) + 1, A3, c3, by omega, by go_num, rfl, Lib.hid rfl, HST, Lib.hid (by rw [← HEV.out, List.length_append, show zs.length + [(1 : Int)].length = zs.length + 1 from rfl]; exact own_put1 HO3.out (by omega)), Lib.hid (by rw [List.length_append, show zs.length + [(1 : Int)].length = zs.length + 1 from rfl]; simpa using HP3.out.put 1 (.slice A3 (zs.length + 1) c3)), Lib.hid (HR3.out.below (below_put (B := n + 1) _ (Nat.le_refl _)) (Nat.lt_succ_self _)), Lib.hid (HB3.out.setCell (p := ⟨n + 1, 1, none⟩) (Nat.le_succ _) _)⟩
            · by_cases hw2 : word = [115, 116, 114, 105, 110, 103]
              · have HST := Lib.hid (show psAt xs (k + 1) = ⟨nm, zs ++ [2], (k : Int) + 1⟩ by rw [HPX.out, hw2]; rfl)
                have q1 : ((strOfNums word).toList == ([105, 110, 116] : List UInt8)) = false := (eq_const [105, 110, 116] hwb (by simp)).trans (decide_eq_false hw1)
                have q2 : ((strOfNums word).toList == ([115, 116, 114, 105, 110, 103] : List UInt8)) = true := (eq_const [115, 116, 114, 105, 110, 103] hwb (by simp)).trans (decide_eq_true hw2)
                clear HPX hw1 hw2
                go_wp2_with (at_builtin; refine wpList_append_own _ rfl _ _ 37 rfl (n + 2) 3 i0 (.int .i64 0) 1 8 Try.underlying37 hi hz0 hz1 hz2 rfl (by decide) _ _ _ rfl (HOW.out.alloc _) ⟨wr.heap.size, 0, none⟩ 1 1 [.int .i64 2] rfl rfl (cell_one_new _ _ _) (by simp [Value.oneCell']) (by simp only [maxLen]; omega) (by omega) (by simp; omega) ?_; intro v3 w3 hown3 hg3 hn3; have hlow : ∀ j, (Value.slice A zs.length c).ownBlock = some j → n + 2 ≤ j := fun j e => (World.ownsRow.lt HOW.out j e).1; have hb3 : Below n w w3 := (HBR.out.alloc (by omega) _).grown hg3 (by simp; omega) (fun j e => by have := hlow j e; omega); have hal : Below wr.heap.size wr (wr.alloc (.cells #[.int .i64 2] 3)) := (Below.refl _ _).alloc (Nat.le_refl _) _; have hp3 := (HHP.out.below hal HHP.out.lt).grown hg3 (fun e => by have := hlow _ e.symm; omega); have hr3 := (HHR.out.below hal HHR.out.lt).grown hg3 (fun e => by have := hlow _ e.symm; omega); obtain ⟨A3, c3, rfl⟩ := own_form hown3; have HO3 := Lib.hid hown3; have HB3 := Lib.hid hb3; have HP3 := Lib.hid hp3; have HR3 := Lib.hid hr3; have HEV := Lib.hid (show (zs.map (Value.int .i64) ++ [.int .i64 2]) = (zs ++ [2]).map (.int .i64) by simp); have y0 := hp3.cell 0; have y1 := hp3.cell 1; have yz1 := hp3.frozen 1; have yl := hp3.lt; simp at y0 y1; clear hown3 hb3 hg3 hn3 hp3 hr3 hal hlow c0 c1 z0 z1 zl)
                go_roundg (xs.length - (k + 1))
                case measure => have := HGK.out; omega
                case rel => exact ⟨k + 1, nm, zs ++ [2], (k : Int) + 1, A3, c3, by omega, by go_num, rfl, Lib.hid rfl, HST, Lib.hid (by rw [← HEV.out, List.length_append, show zs.length + [(2 : Int)].length = zs.length + 1 from rfl]; exact own_put1 HO3.out (by omega)), Lib.hid (by rw [List.length_append, show zs.length + [(2 : Int)].length = zs.length + 1 from rfl]; simpa using HP3.out.put 1 (.slice A3 (zs.length + 1) c3)), Lib.hid (HR3.out.below (below_put (B := n + 1) _ (Nat.le_refl _)) (Nat.lt_succ_self _)), Lib.hid (HB3.out.setCell (p := ⟨n + 1, 1, none⟩) (Nat.le_succ _) _)⟩
              · have HST := Lib.hid (show psAt xs (k + 1) = ⟨nm, zs, (k : Int) + 1⟩ by rw [HPX.out]; unfold typeOf; rw [if_neg hw1, if_neg hw2, List.append_nil])
                have q1 : ((strOfNums word).toList == ([105, 110, 116] : List UInt8)) = false := (eq_const [105, 110, 116] hwb (by simp)).trans (decide_eq_false hw1)
                have q2 : ((strOfNums word).toList == ([115, 116, 114, 105, 110, 103] : List UInt8)) = false := (eq_const [115, 116, 114, 105, 110, 103] hwb (by simp)).trans (decide_eq_false hw2)
                clear HPX hw1 hw2
                go_wp2_with fail
                go_roundg (xs.length - (k + 1))
                case measure => have := HGK.out; omega
                case rel => exact ⟨k + 1, nm, zs, (k : Int) + 1, A, c, by omega, by go_num, rfl, Lib.hid rfl, HST, HOW, HHP, HHR, HBR⟩
          · have hn41 : (z == 41) = false := beq_eq_false_iff_ne.2 h41
            have HST := Lib.hid (show psAt xs (k + 1) = ⟨nm, zs, fr⟩ by rw [psAt, HPS.out]; exact psStep_none (fun h => absurd h (by simp only; omega)) (fun _ => ⟨by rw [HZ.out]; exact h44, by rw [HZ.out]; exact h41⟩))
            go_wp2_with fail
            go_roundg (xs.length - (k + 1))
            case measure => have := HGK.out; omega
            case rel => exact ⟨k + 1, nm, zs, fr, A, c, by omega, by go_num, rfl, Lib.hid rfl, HST, HOW, HHP, HHR, HBR⟩
    · obtain rfl : k = xs.length := by omega
      have HPR := Lib.hid (show predR xs = ⟨nm, zs⟩ by unfold predR; rw [HPS.out])
      have hokl : okLine xs = (okName nm && decide (lineP ⟨nm, zs⟩ = xs)) := by unfold okLine; rw [HPR.out]
      have hfin : ∀ (W' : World) (R : Bool), okLine xs = R → Below wr.heap.size wr W' → (∃ A c, Ending.returned (.tuple #[.agg #[.string (strOfNums nm), .slice A zs.length c], .bool R]) = Ending.returned (.tuple #[.agg #[.string (strOfNums (predR xs).name), .slice A (predR xs).args.length c], .bool (okLine xs)]) ∧ OwnA ((W'.setCell ⟨n, 0, none⟩ (.string (strOfNums nm))).setCell ⟨n, 1, none⟩ (.slice A zs.length c)) n ⟨predR xs, A, c⟩) := fun W' R hR hB' => by
        refine ⟨A, c, by rw [HPR.out, hR], ?_⟩
        unfold OwnA
        rw [HPR.out]
        exact own_base (own_put1 (own_put1 (own_below HOW.out hB') (by omega)) (by omega)) (by omega)
      have HFI := Lib.hid (fun (W' : World) (R : Bool) (hR : okLine xs = R) (hB' : Below wr.heap.size wr W') => (show (∃ A' c', Ending.returned (.tuple #[.agg #[.string (strOfNums nm), .slice A zs.length c], .bool R]) = Ending.returned (.tuple #[.agg #[.string (strOfNums (predR xs).name), .slice A' (predR xs).args.length c'], .bool (okLine xs)]) ∧ OwnA ((W'.setCell ⟨n, 0, none⟩ (.string (strOfNums nm))).setCell ⟨n, 1, none⟩ (.slice A zs.length c)) n ⟨predR xs, A', c'⟩) ∧ Below n w ((W'.setCell ⟨n, 0, none⟩ (.string (strOfNums nm))).setCell ⟨n, 1, none⟩ (.slice A zs.length c)) from
        ⟨⟨A, c, by rw [HPR.out, hR], by
          unfold OwnA
          rw [HPR.out]
          exact own_base (own_put1 (own_put1 (own_below HOW.out hB') (by omega)) (by omega)) (by omega)⟩, ((HBR.out.trans (hB'.mono (by omega))).setCell (p := ⟨n, 0, none⟩) (Nat.le_refl _) _).setCell (p := ⟨n, 1, none⟩) (Nat.le_refl _) _⟩))
      clear hfin
      have hrow : IRow wr wr.heap.size (.slice A zs.length c) zs := VRow.of_own HOW.out
      have hnb : ∀ x ∈ nm, 0 ≤ x ∧ x < 256 := fun x hx => HBY.out x (G5.out x hx)
      have HNM := Lib.hid (fun W => rname_any nm hnb (by omega) W)
      have HLN := Lib.hid (fun W (h : Below wr.heap.size wr W) => rline_any nm zs A c (by omega) (by omega) W ((hrow.below h).more h.size))
      have hlb : ∀ x ∈ lineP ⟨nm, zs⟩, 0 ≤ x ∧ x < 256 := line_bytes hnb
      have heq := str_eq_dec hlb HBY.out
      have HKP := Lib.hid (fun (W W' : World) (h : Below wr.heap.size wr W) (h2 : Below W.heap.size W W') => h.trans (h2.mono h.size))
      have HALL := Lib.hid (fun (W : World) (h : Below wr.heap.size wr W) => (⟨(h.cell (p := ⟨n + 1, 0, none⟩) zl).trans c0, (h.cell (p := ⟨n + 1, 1, none⟩) zl).trans c1⟩ : W.cell? ⟨n + 1, 0, none⟩ = some (.string (strOfNums nm)) ∧ W.cell? ⟨n + 1, 1, none⟩ = some (.slice A zs.length c)))
      change Hid (∀ W, Below wr.heap.size wr W → Calls _ _ _ _ (fun e w' => e = .returned (.string (strOfNums (lineP ⟨nm, zs⟩))) ∧ Below W.heap.size W w')) at HLN
      obtain ⟨L, hL⟩ : ∃ L, lineP ⟨nm, zs⟩ = L := ⟨_, rfl⟩
      rw [hL] at HLN heq hokl
      have hll : L.length ≤ 9000000 := by
        have := lineP_len ⟨nm, zs⟩
        rw [hL] at this
        simp only at this
        omega
      have hslL := strOfNums_size L
      have HPT := Lib.hid (fun (W : World) (u v : Value) (h : W.cell? ⟨n + 1, 0, none⟩ = some (.string (strOfNums nm)) ∧ W.cell? ⟨n + 1, 1, none⟩ = some (.slice A zs.length c)) => (⟨((World.cell?_setCell_far _ ⟨n, 1, none⟩ ⟨n + 1, 0, none⟩ v (by simp)).trans (World.cell?_setCell_far _ ⟨n, 0, none⟩ ⟨n + 1, 0, none⟩ u (by simp))).trans h.1, ((World.cell?_setCell_far _ ⟨n, 1, none⟩ ⟨n + 1, 1, none⟩ v (by simp)).trans (World.cell?_setCell_far _ ⟨n, 0, none⟩ ⟨n + 1, 1, none⟩ u (by simp))).trans h.2⟩ : ((W.setCell ⟨n, 0, none⟩ u).setCell ⟨n, 1, none⟩ v).cell? ⟨n + 1, 0, none⟩ = some (.string (strOfNums nm)) ∧ ((W.setCell ⟨n, 0, none⟩ u).setCell ⟨n, 1, none⟩ v).cell? ⟨n + 1, 1, none⟩ = some (.slice A zs.length c)))
      clear hL hlb hrow hnb
      generalize decide (L = xs) = R at heq hokl
      cases hok : okName nm with
      | false =>
        rw [hok, Bool.false_and] at hokl
        rw [hok] at HNM
        have HOK := Lib.hid hokl
        clear hok hokl heq HLN hll hslL
        go_wp2_with fail
        have hS0 := HALL.out _ (Below.refl _ _).drew
        refine wp_region_held_drew (S := fun W => W.cell? ⟨n + 1, 0, none⟩ = some (.string (strOfNums nm)) ∧ W.cell? ⟨n + 1, 1, none⟩ = some (.slice A zs.length c)) (by kernel_rfl) hS0 (fun _ => ?_)
        refine wpAnyH_take (i := 0) (v := .agg #[.string (strOfNums nm), .slice A zs.length c]) rfl (by kernel_rfl) (by kernel_rfl) (by kernel_rfl) (fun _ _ _ h => h) (Or.inl ⟨by rfl, fun W hW => by obtain ⟨q0, q1⟩ := hW; go_simp⟩) hS0 ?_
        try simp only [List.getElem_toArray, List.getElem_cons_zero, Act.put, List.setIfInBounds_toArray, List.set_cons_zero, List.set_cons_succ]
        refine wpAnyH_take (i := 1) (v := .pointer (some ⟨n + 1, 0, none⟩)) rfl (by kernel_rfl) (by kernel_rfl) (by kernel_rfl) (fun _ _ _ h => h) (Or.inl ⟨by rfl, fun W _ => by go_simp⟩) hS0 ?_
        try simp only [List.getElem_toArray, List.getElem_cons_zero, List.getElem_cons_succ, Act.put, List.setIfInBounds_toArray, List.set_cons_zero, List.set_cons_succ]
        refine wpAnyH_take (i := 2) (v := .string (strOfNums nm)) rfl (by kernel_rfl) (by kernel_rfl) (by kernel_rfl) (fun _ _ _ h => h) (Or.inl ⟨by rfl, fun W hW => by obtain ⟨q0, q1⟩ := hW; go_simp⟩) hS0 ?_
        try simp only [List.getElem_toArray, List.getElem_cons_zero, List.getElem_cons_succ, Act.put, List.setIfInBounds_toArray, List.set_cons_zero, List.set_cons_succ]
        refine wpAnyH_ready (rs := [3]) (by kernel_rfl) (by simp) ?_
        refine AllReadyH.cons rfl (fun K hK => ?_) AllReadyH.nil
        go_simp
        refine (HNM.out _).mono ?_
        rintro e w7 ⟨rfl, rfl⟩
        refine hK.out _ _ hS0 (fun _ => ?_)
        clear hK K
        try simp only [List.getElem_toArray, List.getElem_cons_zero, List.getElem_cons_succ, Act.put, List.setIfInBounds_toArray, List.set_cons_zero, List.set_cons_succ]
        refine wpAnyH_take (i := 4) (v := .bool false) rfl (by kernel_rfl) (by kernel_rfl) (by kernel_rfl) (fun _ _ _ h => h) (Or.inl ⟨by rfl, fun W _ => by go_simp⟩) hS0 ?_
        try simp only [List.getElem_toArray, List.getElem_cons_zero, List.getElem_cons_succ, Act.put, List.setIfInBounds_toArray, List.set_cons_zero, List.set_cons_succ]
        refine wpAnyH_take (i := 5) (v := undef) rfl (by kernel_rfl) (by kernel_rfl) (by kernel_rfl) (fun _ _ _ h => h) (Or.inr ⟨by rfl, rfl⟩) hS0 ?_
        try simp only [List.getElem_toArray, List.getElem_cons_zero, List.getElem_cons_succ, Act.put, List.setIfInBounds_toArray, List.set_cons_zero, List.set_cons_succ]
        refine wpAnyH_take (i := 6) (v := undef) rfl (by kernel_rfl) (by kernel_rfl) (by kernel_rfl) (fun _ _ _ h => h) (Or.inr ⟨by rfl, rfl⟩) hS0 ?_
        try simp only [List.getElem_toArray, List.getElem_cons_zero, List.getElem_cons_succ, Act.put, List.setIfInBounds_toArray, List.set_cons_zero, List.set_cons_succ]
        refine wpAnyH_take (i := 7) (v := undef) rfl (by kernel_rfl) (by kernel_rfl) (by kernel_rfl) (fun _ _ _ h => h) (Or.inr ⟨by rfl, rfl⟩) hS0 ?_
        try simp only [List.getElem_toArray, List.getElem_cons_zero, List.getElem_cons_succ, Act.put, List.setIfInBounds_toArray, List.set_cons_zero, List.set_cons_succ]
        refine wpAnyH_take (i := 8) (v := undef) rfl (by kernel_rfl) (by kernel_rfl) (by kernel_rfl) (fun _ _ _ h => h) (Or.inr ⟨by rfl, rfl⟩) hS0 ?_
        try simp only [List.getElem_toArray, List.getElem_cons_zero, List.getElem_cons_succ, Act.put, List.setIfInBounds_toArray, List.set_cons_zero, List.set_cons_succ]
        refine wpAnyH_take (i := 9) (v := .bool false) rfl (by kernel_rfl) (by kernel_rfl) (by kernel_rfl) (fun _ _ _ h => h) (Or.inl ⟨by rfl, fun W _ => by go_simp⟩) hS0 ?_
        try simp only [List.getElem_toArray, List.getElem_cons_zero, List.getElem_cons_succ, Act.put, List.setIfInBounds_toArray, List.set_cons_zero, List.set_cons_succ]
        have b7 : Below wr.heap.size wr wr.drew := (Below.refl _ _).drew
        have r0 := HHR.out.cell 0
        have r1 := HHR.out.cell 1
        have rz0 := HHR.out.frozen 0
        have rz1 := HHR.out.frozen 1
        have rl := HHR.out.lt
        simp at r0 r1 rl
        have hS9 := HPT.out _ (.string (strOfNums nm)) (.slice A zs.length c) hS0
        refine wpAnyH_ready (rs := [10]) (by kernel_rfl) (by simp) ?_
        refine AllReadyH.cons rfl (fun K hK => ?_) AllReadyH.nil
        go_simp
        refine hK.out _ _ (show _ from ?_) (fun _ => ?_)
        · exact hS9
        clear hK K
        try simp only [List.getElem_toArray, List.getElem_cons_zero, List.getElem_cons_succ, Act.put, List.setIfInBounds_toArray, List.set_cons_zero, List.set_cons_succ]
        refine wpAnyH_take (i := 11) (v := .bool false) rfl (by kernel_rfl) (by kernel_rfl) (by kernel_rfl) (fun _ _ _ h => h) (Or.inl ⟨by rfl, fun W _ => by go_simp⟩) hS9 ?_
        try simp only [List.getElem_toArray, List.getElem_cons_zero, List.getElem_cons_succ, Act.put, List.setIfInBounds_toArray, List.set_cons_zero, List.set_cons_succ]
        refine wpAnyH_done (by kernel_rfl) ?_ _
        go_wp2_with fail
        have hfin := (HHR.out.put 0 (.string (strOfNums nm))).put 1 (.slice A zs.length c)
        have e0 := hfin.cell 0
        have e1 := hfin.cell 1
        simp at e0 e1
        exact bodyPost_ret (v := .tuple #[.agg #[.string (strOfNums nm), .slice A zs.length c], .bool false]) (by simp [results, Try.results34, go_sem, e0, e1]) rfl (HFI.out _ _ HOK.out b7)
      | true =>
        rw [hok, Bool.true_and] at hokl
        rw [hok] at HNM
        have HOK := Lib.hid hokl
        clear hok hokl
        go_wp2_with fail
        have hS0 := HALL.out _ (Below.refl _ _).drew
        refine wp_region_held_drew (S := fun W => W.cell? ⟨n + 1, 0, none⟩ = some (.string (strOfNums nm)) ∧ W.cell? ⟨n + 1, 1, none⟩ = some (.slice A zs.length c)) (by kernel_rfl) hS0 (fun _ => ?_)
        refine wpAnyH_take (i := 0) (v := .agg #[.string (strOfNums nm), .slice A zs.length c]) rfl (by kernel_rfl) (by kernel_rfl) (by kernel_rfl) (fun _ _ _ h => h) (Or.inl ⟨by rfl, fun W hW => by obtain ⟨q0, q1⟩ := hW; go_simp⟩) hS0 ?_
        try simp only [List.getElem_toArray, List.getElem_cons_zero, Act.put, List.setIfInBounds_toArray, List.set_cons_zero, List.set_cons_succ]
        refine wpAnyH_take (i := 1) (v := .pointer (some ⟨n + 1, 0, none⟩)) rfl (by kernel_rfl) (by kernel_rfl) (by kernel_rfl) (fun _ _ _ h => h) (Or.inl ⟨by rfl, fun W _ => by go_simp⟩) hS0 ?_
        try simp only [List.getElem_toArray, List.getElem_cons_zero, List.getElem_cons_succ, Act.put, List.setIfInBounds_toArray, List.set_cons_zero, List.set_cons_succ]
        refine wpAnyH_take (i := 2) (v := .string (strOfNums nm)) rfl (by kernel_rfl) (by kernel_rfl) (by kernel_rfl) (fun _ _ _ h => h) (Or.inl ⟨by rfl, fun W hW => by obtain ⟨q0, q1⟩ := hW; go_simp⟩) hS0 ?_
        try simp only [List.getElem_toArray, List.getElem_cons_zero, List.getElem_cons_succ, Act.put, List.setIfInBounds_toArray, List.set_cons_zero, List.set_cons_succ]
        refine wpAnyH_ready (rs := [3]) (by kernel_rfl) (by simp) ?_
        refine AllReadyH.cons rfl (fun K hK => ?_) AllReadyH.nil
        go_simp
        refine (HNM.out _).mono ?_
        rintro e w7 ⟨rfl, rfl⟩
        refine hK.out _ _ hS0 (fun _ => ?_)
        clear hK K
        try simp only [List.getElem_toArray, List.getElem_cons_zero, List.getElem_cons_succ, Act.put, List.setIfInBounds_toArray, List.set_cons_zero, List.set_cons_succ]
        refine wpAnyH_take (i := 4) (v := .bool true) rfl (by kernel_rfl) (by kernel_rfl) (by kernel_rfl) (fun _ _ _ h => h) (Or.inl ⟨by rfl, fun W _ => by go_simp⟩) hS0 ?_
        try simp only [List.getElem_toArray, List.getElem_cons_zero, List.getElem_cons_succ, Act.put, List.setIfInBounds_toArray, List.set_cons_zero, List.set_cons_succ]
        refine wpAnyH_take (i := 5) (v := .agg #[.string (strOfNums nm), .slice A zs.length c]) rfl (by kernel_rfl) (by kernel_rfl) (by kernel_rfl) (fun _ _ _ h => h) (Or.inl ⟨by rfl, fun W hW => by obtain ⟨q0, q1⟩ := hW; go_simp⟩) hS0 ?_
        try simp only [List.getElem_toArray, List.getElem_cons_zero, List.getElem_cons_succ, Act.put, List.setIfInBounds_toArray, List.set_cons_zero, List.set_cons_succ]
        refine wpAnyH_take (i := 7) (v := .string (strOfNums xs)) rfl (by kernel_rfl) (by kernel_rfl) (by kernel_rfl) (fun _ _ _ h => h) (Or.inl ⟨by rfl, fun W _ => by go_simp⟩) hS0 ?_
        try simp only [List.getElem_toArray, List.getElem_cons_zero, List.getElem_cons_succ, Act.put, List.setIfInBounds_toArray, List.set_cons_zero, List.set_cons_succ]
        refine wpAnyH_ready (rs := [6]) (by kernel_rfl) (by simp) ?_
        refine AllReadyH.cons rfl (fun K hK => ?_) AllReadyH.nil
        go_simp
        refine (HLN.out _ (Below.refl _ _).drew).mono ?_
        rintro e w8 ⟨rfl, hb8⟩
        have b7 : Below wr.heap.size wr w8 := HKP.out _ _ (Below.refl _ _).drew hb8
        have hS8 := HALL.out _ b7
        refine hK.out _ _ hS8 (fun _ => ?_)
        clear hK K hb8
        try simp only [List.getElem_toArray, List.getElem_cons_zero, List.getElem_cons_succ, Act.put, List.setIfInBounds_toArray, List.set_cons_zero, List.set_cons_succ]
        refine wpAnyH_take (i := 8) (v := .bool R) rfl (by kernel_rfl) (by kernel_rfl) (by kernel_rfl) (fun _ _ _ h => h) (Or.inl ⟨by rfl, fun W _ => by go_simp⟩) hS8 ?_
        try simp only [List.getElem_toArray, List.getElem_cons_zero, List.getElem_cons_succ, Act.put, List.setIfInBounds_toArray, List.set_cons_zero, List.set_cons_succ]
        refine wpAnyH_take (i := 9) (v := .bool R) rfl (by kernel_rfl) (by kernel_rfl) (by kernel_rfl) (fun _ _ _ h => h) (Or.inl ⟨by rfl, fun W _ => by go_simp⟩) hS8 ?_
        try simp only [List.getElem_toArray, List.getElem_cons_zero, List.getElem_cons_succ, Act.put, List.setIfInBounds_toArray, List.set_cons_zero, List.set_cons_succ]
        have r0 := (HHR.out.below b7 HHR.out.lt).cell 0
        have r1 := (HHR.out.below b7 HHR.out.lt).cell 1
        have rz0 := (HHR.out.below b7 HHR.out.lt).frozen 0
        have rz1 := (HHR.out.below b7 HHR.out.lt).frozen 1
        have rl := (HHR.out.below b7 HHR.out.lt).lt
        simp at r0 r1 rl
        have hS9 := HPT.out _ (.string (strOfNums nm)) (.slice A zs.length c) hS8
        refine wpAnyH_ready (rs := [10]) (by kernel_rfl) (by simp) ?_
        refine AllReadyH.cons rfl (fun K hK => ?_) AllReadyH.nil
        go_simp
        refine hK.out _ _ (show _ from ?_) (fun _ => ?_)
        · exact hS9
        clear hK K
        try simp only [List.getElem_toArray, List.getElem_cons_zero, List.getElem_cons_succ, Act.put, List.setIfInBounds_toArray, List.set_cons_zero, List.set_cons_succ]
        refine wpAnyH_take (i := 11) (v := .bool R) rfl (by kernel_rfl) (by kernel_rfl) (by kernel_rfl) (fun _ _ _ h => h) (Or.inl ⟨by rfl, fun W _ => by go_simp⟩) hS9 ?_
        try simp only [List.getElem_toArray, List.getElem_cons_zero, List.getElem_cons_succ, Act.put, List.setIfInBounds_toArray, List.set_cons_zero, List.set_cons_succ]
        refine wpAnyH_done (by kernel_rfl) ?_ _
        go_wp2_with fail
        have hfin := ((HHR.out.below b7 HHR.out.lt).put 0 (.string (strOfNums nm))).put 1 (.slice A zs.length c)
        have e0 := hfin.cell 0
        have e1 := hfin.cell 1
        simp at e0 e1
        exact bodyPost_ret (v := .tuple #[.agg #[.string (strOfNums nm), .slice A zs.length c], .bool R]) (by simp [results, Try.results34, go_sem, e0, e1]) rfl (HFI.out _ _ HOK.out b7)
#print axioms rpred_any
end Go.Proofs.Ytncjfnmkoiclbaa
