/-
  find.first: the first place, from a place on, at which Get answers one of some errors' numbers; Next and Open; Count.
-/
import Derived.Test.YtpphgmddancocaaFindAt
import Derived.Test.YtpphgmddancocaaCells
import Derived.OwnWalk
import Derived.WalkMore
import Derived.Deep.LoopGhost
namespace Go.Proofs.Ytpphgmddancocaa
open Go.RowKit

/-- Does Get answer one of these at a place? -/
def oneOf (ws xs : List Int) (a : Nat) : Bool := decide ((getFr (xs.drop a)).2.2 ∈ ws)
/-- The first place from frm on. -/
def firstW (ws xs : List Int) (frm : Int) : Int := firstI (oneOf ws xs) (xs.length - frm.toNat) frm.toNat
/-- What a search answers. -/
def Placed (w : World) (r : Int) (e : Ending) (w' : World) : Prop := e = .returned (.tuple #[.int .i64 (max r 0), .bool (decide (0 ≤ r))]) ∧ Below w.heap.size w w'
theorem firstW_found {ws xs : List Int} {frm : Int} {r : Nat} (h1 : frm.toNat ≤ r) (h2 : r < xs.length) (hn : ∀ j : Nat, frm.toNat ≤ j → j < r → oneOf ws xs j = false) (hr : (getFr (xs.drop r)).2.2 ∈ ws) : firstW ws xs frm = (r : Int) :=
  first_found _ _ r h1 (by omega) hn (by simp [oneOf, hr])
theorem firstW_none {ws xs : List Int} {frm : Int} (hn : ∀ j : Nat, frm.toNat ≤ j → j < xs.length → oneOf ws xs j = false) : firstW ws xs frm = -1 :=
  first_none _ _ (fun j h1 h2 => hn j h1 (by omega))
theorem placed_found {w w' : World} {r : Int} (n : Nat) (h : r = n) (hb : Below w.heap.size w w') : Placed w r (.returned (.tuple #[.int .i64 n, .bool true])) w' := by
  subst h
  refine ⟨?_, hb⟩
  rw [show max (n : Int) 0 = (n : Int) by omega, show decide (0 ≤ (n : Int)) = true by simp]
theorem placed_none {w w' : World} {r : Int} (h : r = -1) (hb : Below w.heap.size w w') : Placed w r (.returned (.tuple #[.int .i64 0, .bool false])) w' := by
  subst h
  exact ⟨rfl, hb⟩
theorem intVs_at {ws : List Int} {k : Nat} (h : k < ws.length) : (ws.map (Value.int .i64))[k]? = some (.int .i64 (ws.getD k 0)) := by simp [List.getD, List.getElem?_eq_getElem h]

set_option maxRecDepth 100000 in
set_option maxHeartbeats 2000000 in
theorem first_any (A : Option Addr) (c : Nat) (xs : List Int) (hsm : xs.length ≤ 9223372036854775807) (w : World) (hrow : Row w w.heap.size (.slice A xs.length c) xs) (hb : ∀ x ∈ xs, 0 ≤ x ∧ x < 256)
    (frm : Int) (h1 : -9223372036854775808 ≤ frm) (h2 : frm ≤ 9223372036854775807) (D : Option Addr) (dn dc : Nat) (ws : List Int) (hws : VRow w w.heap.size (.slice D dn dc) (ws.map (.int .i64))) (hwn : dn ≤ 1000) :
    Calls Try.prog 53 #[.slice A xs.length c, .int .i64 frm, .slice D dn dc] w (Placed w (firstW ws xs frm)) := by
  obtain ⟨hdn, _, _⟩ := hws.length
  rw [List.length_map] at hdn
  subst hdn
  have hM : max frm 0 = ((frm.toNat : Nat) : Int) := by omega
  have hm2 : frm.toNat ≤ 9223372036854775807 := by omega
  have hfound := fun r => @firstW_found ws xs frm r
  have hnone := @firstW_none ws xs frm
  have HAT := Lib.hid (fun W (h : Row W W.heap.size (.slice A xs.length c) xs) k hk => at_in A c xs hsm W h hb k hk)
  generalize firstW ws xs frm = R at hfound hnone ⊢
  generalize frm.toNat = M at hM hm2 hfound hnone
  have HF := Lib.hid hfound
  have HN := Lib.hid hnone
  have HROW := Lib.hid hrow
  have HWS := Lib.hid hws
  clear hrow hb hws hfound hnone
  go_enter Try.func53, Try.ntmps53
  go_wp2_with fail
  go_step3
  go_wp2_with fail
  go_step3
  go_wp2_with fail
  have HM := Lib.hid hM; clear hM
  go_loopg [8, 9, 10] (xs.length - M) (fun g p f i wr => ∃ a : Nat, p = .int .i64 0 ∧ f = .bool false ∧ i = .int .i64 a ∧ M ≤ a ∧ a ≤ 9223372036854775807 ∧ Hid (xs.length - a = g) ∧ Hid (∀ j : Nat, M ≤ j → j < a → oneOf ws xs j = false) ∧ Below w.heap.size w wr)
  case atStart => exact ⟨M, rfl, rfl, rfl, Nat.le_refl _, hm2, Lib.hid rfl, Lib.hid (fun j h1 h2 => by omega), Below.refl _ _⟩
  case round =>
    obtain ⟨a, rfl, rfl, rfl, ha, ha2, HG0, HO, hbw⟩ := hrel
    have hsw := hbw.size
    by_cases hlt : a < xs.length
    · have HA := Lib.hid (HAT.out wr ((HROW.out.below hbw).more hsw) a (by omega))
      generalize hT : getFr (xs.drop a) = T at HA
      have HT := Lib.hid hT; clear hT
      have HBW := Lib.hid hbw; clear hbw
      go_wp2_with fail
      refine HA.out.mono ?_
      rintro e w1 ⟨A1, c1, rfl, _, hb1⟩
      have hz1 := hb1.size
      have hbw1 : Below w.heap.size w w1 := HBW.out.trans (hb1.mono hsw)
      have HBW1 := Lib.hid (hbw1.alloc (by omega) (.cells #[.int .i64 T.1.1, .slice A1 T.1.2.length c1] 33))
      clear hb1 hbw1
      obtain ⟨er, hE⟩ : ∃ er, T.2.2 = er := ⟨_, rfl⟩
      rw [hE]
      have HE := Lib.hid hE; clear hE
      go_wp2_with fail
      obtain ⟨w2, hw2⟩ : ∃ w2, w1.alloc (.cells #[.int .i64 T.1.1, .slice A1 T.1.2.length c1] 33) = w2 := ⟨_, rfl⟩
      rw [hw2] at HBW1 ⊢
      clear hw2 hz1
      have HWS2 := Lib.hid (HWS.out.below HBW1.out)
      go_loopg [8, 9, 33] ws.length (fun g p f i wr => ∃ k : Nat, p = .int .i64 0 ∧ f = .bool false ∧ i = .int .i64 k ∧ k ≤ ws.length ∧ Hid (ws.length - k = g) ∧ Hid (∀ j : Nat, j < k → ws.getD j 0 ≠ er) ∧ w2 = wr)
      case atStart => exact ⟨0, rfl, rfl, rfl, Nat.zero_le _, Lib.hid rfl, Lib.hid (fun j h => absurd h (Nat.not_lt_zero _)), rfl⟩
      case round =>
        obtain ⟨k, rfl, rfl, rfl, hk, HG1, HJ, rfl⟩ := hrel
        by_cases hkl : k < ws.length
        · have hc : ∃ b o, D = some ⟨b, o, none⟩ ∧ w2.cell? ⟨b, o + k, none⟩ = some (.int .i64 (ws.getD k 0)) := by
            obtain ⟨_, _, hv, _, _, _, h4⟩ := HWS2.out
            injection hv with e1 _ _
            obtain ⟨b, o, e, _, hc⟩ := h4 (by rw [List.length_map]; omega)
            exact ⟨b, o, e1.trans e, hc k _ (intVs_at hkl)⟩
          obtain ⟨b, o, rfl, hck⟩ := hc
          obtain ⟨y, hy⟩ : ∃ y, ws.getD k 0 = y := ⟨_, rfl⟩
          rw [hy] at hck
          have HY := Lib.hid hy; clear hy
          by_cases hye : er = y
          · subst hye
            have hin : (getFr (xs.drop a)).2.2 ∈ ws := by
              rw [HT.out, HE.out, ← HY.out, List.getD, List.getElem?_eq_getElem hkl]
              simp
            have hR := HF.out a ha hlt HO.out hin
            have HR := Lib.hid hR
            clear hR hin
            go_wp2_with fail
            rw [Exit.noGoto_ret]
            go_ret2
            exact placed_found a HR.out HBW1.out
          · have hb1 : (er == y) = false := beq_eq_false_iff_ne.2 hye
            have hj2 : ∀ j : Nat, j < k + 1 → ws.getD j 0 ≠ er := fun j hj => by
              rcases Nat.lt_or_ge j k with h | h
              · exact HJ.out j h
              · obtain rfl : j = k := by omega
                rw [HY.out]
                exact fun e => hye e.symm
            have HJ2 := Lib.hid hj2
            clear hye hj2
            go_wp2_with fail
            go_roundg (ws.length - (k + 1))
            case measure => have := HG1.out; omega
            case rel => exact ⟨k + 1, rfl, rfl, by go_num, by omega, Lib.hid rfl, HJ2, rfl⟩
        · obtain rfl : k = ws.length := by omega
          have hno : oneOf ws xs a = false := by
            unfold oneOf
            rw [decide_eq_false_iff_not, HT.out, HE.out]
            intro hm
            obtain ⟨j, hj, e⟩ := List.getElem_of_mem hm
            exact HJ.out j hj (by rw [List.getD, List.getElem?_eq_getElem hj]; exact e)
          have ho2 : ∀ j : Nat, M ≤ j → j < a + 1 → oneOf ws xs j = false := fun j q1 q2 => by
            rcases Nat.lt_or_ge j a with h | h
            · exact HO.out j q1 h
            · obtain rfl : j = a := by omega
              exact hno
          have HO2 := Lib.hid ho2
          clear hno ho2
          go_wp2_with fail
          go_roundg (xs.length - (a + 1))
          case measure => have := HG0.out; omega
          case rel => exact ⟨a + 1, rfl, rfl, by go_num, by omega, by omega, Lib.hid rfl, HO2, HBW1.out⟩
    · have hge : xs.length ≤ a := by omega
      have hR := HN.out (fun j q1 q2 => HO.out j q1 (by omega))
      have HR := Lib.hid hR
      clear hR
      have HB := Lib.hid hbw
      clear hbw
      go_wp2_with fail
      go_ret2
      exact placed_none HR.out HB.out
#print axioms first_any
end Go.Proofs.Ytpphgmddancocaa
