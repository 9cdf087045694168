/-
  find.At, the first place, find.Next, find.Open.
-/
import Derived.Test.YtfaedecfpnmnjaaFrameGet
import Derived.Test.YtfaedecfpnmnjaaPlainFrames
import Derived.Test.YtfaedecfpnmnjaaSlices
import Derived.OwnWalk
import Derived.WalkMore
import Derived.Deep.LoopGhost
namespace Go.Proofs.Ytfaedecfpnmnjaa
open Go.RowKit

/-- A row of bytes is one still, behind a store into a block that holds no byte. -/
theorem Row.past_put {w : World} {B g : Nat} {t : TypeId} {cs : Array Value} {v : Value} {xs : List Int} (h : Row w B v xs) (hg : Held w g t cs) (hcs : ∀ (i : Nat) (n : Int), cs[i]? ≠ some (.int .u8 n)) (i : Nat) (u : Value) :
    Row (w.setCell ⟨g, i, none⟩ u) B v xs :=
  h.keep_but (g := g) (fun k _ hn => Below.heap_setCell _ ⟨g, i, none⟩ _ k (by simp only; exact hn)) (fun j n => by rw [hg.cell j]; exact hcs j n)
theorem two_nob {x : Int} {v : Value} (hv : ∀ n, v ≠ .int .u8 n) (i : Nat) (n : Int) : (#[Value.int .i64 x, v] : Array Value)[i]? ≠ some (.int .u8 n) := by
  match i with
  | 0 => simp
  | 1 => simpa using hv n
  | i + 2 => simp

set_option maxRecDepth 100000 in
set_option maxHeartbeats 1000000 in
theorem at_new (A : Option Addr) (c : Nat) (xs : List Int) (hsm : xs.length ≤ 9223372036854775807) (w : World) (hrow : Row w w.heap.size (.slice A xs.length c) xs) (hb : ∀ x ∈ xs, 0 ≤ x ∧ x < 256) (k : Nat) (hk : k ≤ xs.length) :
    Calls Try.prog 12 #[.slice A xs.length c, .int .i64 k] w (FNew w (getFr (xs.drop k))) := by
  have hcs : xs.length ≤ c ∧ c ≤ 9223372036854775807 := by
    obtain ⟨_, _, hv, q1, q2, _⟩ := hrow
    injection hv with _ _ e3
    subst e3
    unfold maxLen at q2
    exact ⟨q1, by omega⟩
  obtain ⟨hlc, hcm⟩ := hcs
  have hrr := hrow.drop hk
  have hrow0 := hrow
  have hbr : ∀ x ∈ xs.drop k, 0 ≤ x ∧ x < 256 := drop_bytes hb k
  have hrl : (xs.drop k).length = xs.length - k := by simp
  have hget := fun W (h : Row W W.heap.size (.slice (if c = k then A else A.map (·.add k)) (xs.drop k).length (c - k)) (xs.drop k)) => fget_new (if c = k then A else A.map (·.add k)) (c - k) (xs.drop k) (by omega) W h hbr
  rw [hrl] at hrr hget
  clear hrow hb hbr hrl
  generalize getFr (xs.drop k) = t at hget ⊢
  have k0 : (0 : Int) ≤ k := by omega
  have k1 : (k : Int) ≤ (xs.length : Int) := by omega
  by_cases hck : c = k
  · subst hck
    rw [if_pos rfl, Nat.sub_self, show xs.length - c = 0 by omega] at hrr hget
    have HG := Lib.hid hget
    have HR := Lib.hid hrr
    clear hrr hget
    have HR0 := Lib.hid ((HR.out.below ((Below.refl _ _).alloc (Nat.le_refl _) (.cells #[.int .i64 0, .slice none 0 0] 30))).more (by simp : w.heap.size ≤ (w.alloc (.cells #[.int .i64 0, .slice none 0 0] 30)).heap.size))
    go_enter Try.func12, Try.ntmps12
    go_wp2_with fail
    refine (HG.out _ HR0.out).mono ?_
    rintro e w1 ⟨A1, c1, rfl, hrow1, hb1, hn1⟩
    have HN1 := Lib.hid (fun a e => Nat.le_trans (by simp : w.heap.size ≤ (w.alloc (.cells #[.int .i64 0, .slice none 0 0] 30)).heap.size) (hn1 a e)); clear hn1
    have hz1 : w.heap.size + 1 ≤ w1.heap.size := by simpa using hb1.size
    have hres : Held w1 w.heap.size 30 #[.int .i64 0, .slice none 0 0] := (hb1.block w.heap.size (by simp)).trans (heap_alloc_new w _)
    have bw1 : Below w.heap.size w w1 := ((Below.refl _ _).alloc (Nat.le_refl _) _).trans (hb1.mono (by simp))
    have hf0 := hres.frozen 0
    have hf1 := hres.frozen 1
    have hr0 := hres.cell 0
    have hr1 := hres.cell 1
    simp at hr0 hr1
    have HROW1 := Lib.hid hrow1
    have HB1 := Lib.hid bw1
    have HRES := Lib.hid hres
    clear hb1 hrow1 bw1 hres
    go_wp2_with fail
    have hfin := (HRES.out.put 0 (.int .i64 t.1.1)).put 1 (.slice A1 t.1.2.length c1)
    have e0 := hfin.cell 0
    have e1 := hfin.cell 1
    simp at e0 e1
    refine bodyPost_ret (v := .tuple #[.agg #[.int .i64 t.1.1, .slice A1 t.1.2.length c1], .int .i64 t.2.1, .int .i64 t.2.2]) (by simp [results, Try.results12, go_sem, e0, e1]) rfl ?_
    refine ⟨A1, c1, rfl, ?_, ?_, HN1.out⟩
    · have h1 := HROW1.out.past_put HRES.out (two_nob (by simp)) 0 (.int .i64 t.1.1)
      have h2 := h1.past_put (by simpa using HRES.out.put 0 (.int .i64 t.1.1)) (two_nob (by simp)) 1 (.slice A1 t.1.2.length c1)
      exact h2.more (by simp)
    · exact (HB1.out.setCell (p := ⟨w.heap.size, 0, none⟩) (Nat.le_refl _) _).setCell (p := ⟨w.heap.size, 1, none⟩) (Nat.le_refl _) _
  · rw [if_neg hck] at hrr hget
    have hkc : k < c := by omega
    have hnil : A ≠ none := fun e => by
      obtain ⟨_, _, hv, _, _, q3, _⟩ := hrow0
      injection hv with e1 _ e3
      have := q3 (e1.symm.trans e)
      omega
    obtain ⟨ad, rfl⟩ := Option.ne_none_iff_exists'.1 hnil
    rw [Option.map_some] at hrr hget
    have HG := Lib.hid hget
    have HR := Lib.hid hrr
    clear hrr hget hnil hrow0
    have HR0 := Lib.hid ((HR.out.below ((Below.refl _ _).alloc (Nat.le_refl _) (.cells #[.int .i64 0, .slice none 0 0] 30))).more (by simp : w.heap.size ≤ (w.alloc (.cells #[.int .i64 0, .slice none 0 0] 30)).heap.size))
    go_enter Try.func12, Try.ntmps12
    go_wp2_with fail
    refine (HG.out _ HR0.out).mono ?_
    rintro e w1 ⟨A1, c1, rfl, hrow1, hb1, hn1⟩
    have HN1 := Lib.hid (fun a e => Nat.le_trans (by simp : w.heap.size ≤ (w.alloc (.cells #[.int .i64 0, .slice none 0 0] 30)).heap.size) (hn1 a e)); clear hn1
    have hz1 : w.heap.size + 1 ≤ w1.heap.size := by simpa using hb1.size
    have hres : Held w1 w.heap.size 30 #[.int .i64 0, .slice none 0 0] := (hb1.block w.heap.size (by simp)).trans (heap_alloc_new w _)
    have bw1 : Below w.heap.size w w1 := ((Below.refl _ _).alloc (Nat.le_refl _) _).trans (hb1.mono (by simp))
    have hf0 := hres.frozen 0
    have hf1 := hres.frozen 1
    have hr0 := hres.cell 0
    have hr1 := hres.cell 1
    simp at hr0 hr1
    have HROW1 := Lib.hid hrow1
    have HB1 := Lib.hid bw1
    have HRES := Lib.hid hres
    clear hb1 hrow1 bw1 hres
    go_wp2_with fail
    have hfin := (HRES.out.put 0 (.int .i64 t.1.1)).put 1 (.slice A1 t.1.2.length c1)
    have e0 := hfin.cell 0
    have e1 := hfin.cell 1
    simp at e0 e1
    refine bodyPost_ret (v := .tuple #[.agg #[.int .i64 t.1.1, .slice A1 t.1.2.length c1], .int .i64 t.2.1, .int .i64 t.2.2]) (by simp [results, Try.results12, go_sem, e0, e1]) rfl ?_
    refine ⟨A1, c1, rfl, ?_, ?_, HN1.out⟩
    · have h1 := HROW1.out.past_put HRES.out (two_nob (by simp)) 0 (.int .i64 t.1.1)
      have h2 := h1.past_put (by simpa using HRES.out.put 0 (.int .i64 t.1.1)) (two_nob (by simp)) 1 (.slice A1 t.1.2.length c1)
      exact h2.more (by simp)
    · exact (HB1.out.setCell (p := ⟨w.heap.size, 0, none⟩) (Nat.le_refl _) _).setCell (p := ⟨w.heap.size, 1, none⟩) (Nat.le_refl _) _
theorem at_in (A : Option Addr) (c : Nat) (xs : List Int) (hsm : xs.length ≤ 9223372036854775807) (w : World) (hrow : Row w w.heap.size (.slice A xs.length c) xs) (hb : ∀ x ∈ xs, 0 ≤ x ∧ x < 256) (k : Nat) (hk : k ≤ xs.length) :
    Calls Try.prog 12 #[.slice A xs.length c, .int .i64 k] w (FGot w (getFr (xs.drop k))) := (at_new A c xs hsm w hrow hb k hk).mono fun _ _ h => h.got

set_option maxRecDepth 100000 in
theorem at_out (A : Option Addr) (c n : Nat) (hn : n ≤ 9223372036854775807) (w : World) (k : Int) (h1 : -9223372036854775808 ≤ k) (h2 : k ≤ 9223372036854775807) (hk : k < 0 ∨ (n : Int) < k) :
    Calls Try.prog 12 #[.slice A n c, .int .i64 k] w (FGot w (noFr 1)) := by
  rcases hk with hk | hk
  · go_enter Try.func12, Try.ntmps12
    go_wp2_with fail
    refine bodyPost_ret (v := .tuple #[.agg #[.int .i64 0, .slice none 0 0], .int .i64 0, .int .i64 1]) (by simp [results, Try.results12, go_sem]) rfl ?_
    exact ⟨none, 0, rfl, Row.nil _ _, (Below.refl _ _).alloc (Nat.le_refl _) _⟩
  · have hk0 : 0 ≤ k := by omega
    go_enter Try.func12, Try.ntmps12
    go_wp2_with fail
    refine bodyPost_ret (v := .tuple #[.agg #[.int .i64 0, .slice none 0 0], .int .i64 0, .int .i64 1]) (by simp [results, Try.results12, go_sem]) rfl ?_
    exact ⟨none, 0, rfl, Row.nil _ _, (Below.refl _ _).alloc (Nat.le_refl _) _⟩
#print axioms at_in
#print axioms at_out
end Go.Proofs.Ytfaedecfpnmnjaa

namespace Go.Proofs.Ytfaedecfpnmnjaa
open Go.RowKit

/-- Does Get answer one of these at a place? -/
def oneOf (ws xs : List Int) (a : Nat) : Bool := decide ((getFr (xs.drop a)).2.2 ∈ ws)
/-- The first place from frm on. -/
def firstW (ws xs : List Int) (frm : Int) : Int := firstI (oneOf ws xs) (xs.length - frm.toNat) frm.toNat
/-- What a search answers. -/
def Placed (w : World) (r : Int) (e : Ending) (w' : World) : Prop := e = .returned (.tuple #[.int .i64 (max r 0), .bool (decide (0 ≤ r))]) ∧ Below w.heap.size w w'
theorem firstW_found {ws xs : List Int} {frm : Int} {r : Nat} (h1 : frm.toNat ≤ r) (h2 : r < xs.length) (hn : ∀ j : Nat, frm.toNat ≤ j → j < r → oneOf ws xs j = false) (hr : (getFr (xs.drop r)).2.2 ∈ ws) : firstW ws xs frm = (r : Int) :=
  first_found _ _ r h1 (by omega) hn (by simp [oneOf, hr])
theorem firstW_none {ws xs : List Int} {frm : Int} (hn : ∀ j : Nat, frm.toNat ≤ j → j < xs.length → oneOf ws xs j = false) : firstW ws xs frm = -1 :=
  first_none _ _ (fun j h1 h2 => hn j h1 (by omega))
theorem placed_found {w w' : World} {r : Int} (n : Nat) (h : r = n) (hb : Below w.heap.size w w') : Placed w r (.returned (.tuple #[.int .i64 n, .bool true])) w' := by
  subst h
  refine ⟨?_, hb⟩
  rw [show max (n : Int) 0 = (n : Int) by omega, show decide (0 ≤ (n : Int)) = true by simp]
theorem placed_none {w w' : World} {r : Int} (h : r = -1) (hb : Below w.heap.size w w') : Placed w r (.returned (.tuple #[.int .i64 0, .bool false])) w' := by
  subst h
  exact ⟨rfl, hb⟩
theorem intVs_at {ws : List Int} {k : Nat} (h : k < ws.length) : (ws.map (Value.int .i64))[k]? = some (.int .i64 (ws.getD k 0)) := by simp [List.getD, List.getElem?_eq_getElem h]

set_option maxRecDepth 100000 in
set_option maxHeartbeats 2000000 in
theorem first_any (A : Option Addr) (c : Nat) (xs : List Int) (hsm : xs.length ≤ 9223372036854775807) (w : World) (hrow : Row w w.heap.size (.slice A xs.length c) xs) (hb : ∀ x ∈ xs, 0 ≤ x ∧ x < 256)
    (frm : Int) (h1 : -9223372036854775808 ≤ frm) (h2 : frm ≤ 9223372036854775807) (D : Option Addr) (dn dc : Nat) (ws : List Int) (hws : VRow w w.heap.size (.slice D dn dc) (ws.map (.int .i64))) (hwn : dn ≤ 1000) :
    Calls Try.prog 27 #[.slice A xs.length c, .int .i64 frm, .slice D dn dc] w (Placed w (firstW ws xs frm)) := by
  obtain ⟨hdn, _, _⟩ := hws.length
  rw [List.length_map] at hdn
  subst hdn
  have hM : max frm 0 = ((frm.toNat : Nat) : Int) := by omega
  have hm2 : frm.toNat ≤ 9223372036854775807 := by omega
  have hfound := fun r => @firstW_found ws xs frm r
  have hnone := @firstW_none ws xs frm
  have HAT := Lib.hid (fun W (h : Row W W.heap.size (.slice A xs.length c) xs) k hk => at_in A c xs hsm W h hb k hk)
  generalize firstW ws xs frm = R at hfound hnone ⊢
  generalize frm.toNat = M at hM hm2 hfound hnone
  have HF := Lib.hid hfound
  have HN := Lib.hid hnone
  have HROW := Lib.hid hrow
  have HWS := Lib.hid hws
  clear hrow hb hws hfound hnone
  go_enter Try.func27, Try.ntmps27
  go_wp2_with fail
  go_step3
  go_wp2_with fail
  go_step3
  go_wp2_with fail
  have HM := Lib.hid hM; clear hM
  go_loopg [8, 9, 10] (xs.length - M) (fun g p f i wr => ∃ a : Nat, p = .int .i64 0 ∧ f = .bool false ∧ i = .int .i64 a ∧ M ≤ a ∧ a ≤ 9223372036854775807 ∧ Hid (xs.length - a = g) ∧ Hid (∀ j : Nat, M ≤ j → j < a → oneOf ws xs j = false) ∧ Below w.heap.size w wr)
  case atStart => exact ⟨M, rfl, rfl, rfl, Nat.le_refl _, hm2, Lib.hid rfl, Lib.hid (fun j h1 h2 => by omega), Below.refl _ _⟩
  case round =>
    obtain ⟨a, rfl, rfl, rfl, ha, ha2, HG0, HO, hbw⟩ := hrel
    have hsw := hbw.size
    by_cases hlt : a < xs.length
    · have HA := Lib.hid (HAT.out wr ((HROW.out.below hbw).more hsw) a (by omega))
      generalize hT : getFr (xs.drop a) = T at HA
      have HT := Lib.hid hT; clear hT
      have HBW := Lib.hid hbw; clear hbw
      go_wp2_with fail
      refine HA.out.mono ?_
      rintro e w1 ⟨A1, c1, rfl, _, hb1⟩
      have hz1 := hb1.size
      have hbw1 : Below w.heap.size w w1 := HBW.out.trans (hb1.mono hsw)
      have HBW1 := Lib.hid (hbw1.alloc (by omega) (.cells #[.int .i64 T.1.1, .slice A1 T.1.2.length c1] 30))
      clear hb1 hbw1
      obtain ⟨er, hE⟩ : ∃ er, T.2.2 = er := ⟨_, rfl⟩
      rw [hE]
      have HE := Lib.hid hE; clear hE
      go_wp2_with fail
      obtain ⟨w2, hw2⟩ : ∃ w2, w1.alloc (.cells #[.int .i64 T.1.1, .slice A1 T.1.2.length c1] 30) = w2 := ⟨_, rfl⟩
      rw [hw2] at HBW1 ⊢
      clear hw2 hz1
      have HWS2 := Lib.hid (HWS.out.below HBW1.out)
      go_loopg [8, 9, 33] ws.length (fun g p f i wr => ∃ k : Nat, p = .int .i64 0 ∧ f = .bool false ∧ i = .int .i64 k ∧ k ≤ ws.length ∧ Hid (ws.length - k = g) ∧ Hid (∀ j : Nat, j < k → ws.getD j 0 ≠ er) ∧ w2 = wr)
      case atStart => exact ⟨0, rfl, rfl, rfl, Nat.zero_le _, Lib.hid rfl, Lib.hid (fun j h => absurd h (Nat.not_lt_zero _)), rfl⟩
      case round =>
        obtain ⟨k, rfl, rfl, rfl, hk, HG1, HJ, rfl⟩ := hrel
        by_cases hkl : k < ws.length
        · have hc : ∃ b o, D = some ⟨b, o, none⟩ ∧ w2.cell? ⟨b, o + k, none⟩ = some (.int .i64 (ws.getD k 0)) := by
            obtain ⟨_, _, hv, _, _, _, h4⟩ := HWS2.out
            injection hv with e1 _ _
            obtain ⟨b, o, e, _, hc⟩ := h4 (by rw [List.length_map]; omega)
            exact ⟨b, o, e1.trans e, hc k _ (intVs_at hkl)⟩
          obtain ⟨b, o, rfl, hck⟩ := hc
          obtain ⟨y, hy⟩ : ∃ y, ws.getD k 0 = y := ⟨_, rfl⟩
          rw [hy] at hck
          have HY := Lib.hid hy; clear hy
          by_cases hye : er = y
          · subst hye
            have hin : (getFr (xs.drop a)).2.2 ∈ ws := by
              rw [HT.out, HE.out, ← HY.out, List.getD, List.getElem?_eq_getElem hkl]
              simp
            have hR := HF.out a ha hlt HO.out hin
            have HR := Lib.hid hR
            clear hR hin
            go_wp2_with fail
            rw [Exit.noGoto_ret]
            go_ret2
            exact placed_found a HR.out HBW1.out
          · have hb1 : (er == y) = false := beq_eq_false_iff_ne.2 hye
            have hj2 : ∀ j : Nat, j < k + 1 → ws.getD j 0 ≠ er := fun j hj => by
              rcases Nat.lt_or_ge j k with h | h
              · exact HJ.out j h
              · obtain rfl : j = k := by omega
                rw [HY.out]
                exact fun e => hye e.symm
            have HJ2 := Lib.hid hj2
            clear hye hj2
            go_wp2_with fail
            go_roundg (ws.length - (k + 1))
            case measure => have := HG1.out; omega
            case rel => exact ⟨k + 1, rfl, rfl, by go_num, by omega, Lib.hid rfl, HJ2, rfl⟩
        · obtain rfl : k = ws.length := by omega
          have hno : oneOf ws xs a = false := by
            unfold oneOf
            rw [decide_eq_false_iff_not, HT.out, HE.out]
            intro hm
            obtain ⟨j, hj, e⟩ := List.getElem_of_mem hm
            exact HJ.out j hj (by rw [List.getD, List.getElem?_eq_getElem hj]; exact e)
          have ho2 : ∀ j : Nat, M ≤ j → j < a + 1 → oneOf ws xs j = false := fun j q1 q2 => by
            rcases Nat.lt_or_ge j a with h | h
            · exact HO.out j q1 h
            · obtain rfl : j = a := by omega
              exact hno
          have HO2 := Lib.hid ho2
          clear hno ho2
          go_wp2_with fail
          go_roundg (xs.length - (a + 1))
          case measure => have := HG0.out; omega
          case rel => exact ⟨a + 1, rfl, rfl, by go_num, by omega, by omega, Lib.hid rfl, HO2, HBW1.out⟩
    · have hge : xs.length ≤ a := by omega
      have hR := HN.out (fun j q1 q2 => HO.out j q1 (by omega))
      have HR := Lib.hid hR
      clear hR
      have HB := Lib.hid hbw
      clear hbw
      go_wp2_with fail
      go_ret2
      exact placed_none HR.out HB.out
#print axioms first_any
end Go.Proofs.Ytfaedecfpnmnjaa

namespace Go.Proofs.Ytfaedecfpnmnjaa
open Go.RowKit

theorem firstW_next (xs : List Int) (frm : Int) : firstW [0] xs frm = nextI false xs frm := by
  unfold firstW nextI
  rw [show oneOf [0] xs = begI false xs from funext fun a => by simp only [oneOf, begI, Bool.false_and, Bool.or_false, List.mem_singleton]; rfl]
theorem firstW_open (xs : List Int) (frm : Int) : firstW [0, 2] xs frm = nextI true xs frm := by
  unfold firstW nextI
  rw [show oneOf [0, 2] xs = begI true xs from funext fun a => by
    simp only [oneOf, begI, Bool.true_and, List.mem_cons, List.not_mem_nil, or_false]
    rw [Bool.eq_iff_iff]
    simp]
/-- A slice that was just laid. -/
theorem vrow_new (w : World) (t : TypeId) (us : List Value) (hu : us.length ≤ 1000) : VRow (w.alloc (.cells us.toArray t)) (w.alloc (.cells us.toArray t)).heap.size (.slice (some ⟨w.heap.size, 0, none⟩) us.length us.length) us := by
  refine ⟨_, _, rfl, Nat.le_refl _, by unfold maxLen; omega, fun h => by simp at h, fun _ => ⟨w.heap.size, 0, rfl, by simp, fun i u hi => ?_⟩⟩
  have h : Held (w.alloc (.cells us.toArray t)) w.heap.size t us.toArray := heap_alloc_new w _
  rw [Nat.zero_add, h.cell i]
  simpa using hi

section
variable (A : Option Addr) (c : Nat) (xs : List Int) (hsm : xs.length ≤ 9223372036854775807) (w : World) (hrow : Row w w.heap.size (.slice A xs.length c) xs) (hb : ∀ x ∈ xs, 0 ≤ x ∧ x < 256) (frm : Int) (h1 : -9223372036854775808 ≤ frm) (h2 : frm ≤ 9223372036854775807)
include hsm hrow hb h1 h2
set_option maxRecDepth 100000 in
theorem next_any : Calls Try.prog 7 #[.slice A xs.length c, .int .i64 frm] w (Placed w (nextI false xs frm)) := by
  have hbx : Below w.heap.size w (w.alloc (.cells #[.int .i64 0] 31)) := (Below.refl _ _).alloc (Nat.le_refl _) _
  have hf := first_any A c xs hsm _ ((hrow.below hbx).more (by simp)) hb frm h1 h2 _ 1 1 [0] (vrow_new w 31 [.int .i64 0] (by simp)) (by omega)
  rw [firstW_next] at hf
  have HF := Lib.hid hf
  have HB := Lib.hid hbx
  clear hf hrow hb hsm hbx
  go_enter Try.func7, Try.ntmps7
  go_wp2_with fail
  refine HF.out.mono ?_
  rintro e w1 ⟨rfl, hb1⟩
  have HB1 := Lib.hid (HB.out.trans (hb1.mono (by simp)))
  clear hb1
  go_wp2_with fail
  go_ret2
  exact ⟨rfl, HB1.out⟩
set_option maxRecDepth 100000 in
theorem open_any : Calls Try.prog 8 #[.slice A xs.length c, .int .i64 frm] w (Placed w (nextI true xs frm)) := by
  have hbx : Below w.heap.size w (w.alloc (.cells #[.int .i64 0, .int .i64 2] 31)) := (Below.refl _ _).alloc (Nat.le_refl _) _
  have hf := first_any A c xs hsm _ ((hrow.below hbx).more (by simp)) hb frm h1 h2 _ 2 2 [0, 2] (vrow_new w 31 [.int .i64 0, .int .i64 2] (by simp)) (by omega)
  rw [firstW_open] at hf
  have HF := Lib.hid hf
  have HB := Lib.hid hbx
  clear hf hrow hb hsm hbx
  go_enter Try.func8, Try.ntmps8
  go_wp2_with fail
  refine HF.out.mono ?_
  rintro e w1 ⟨rfl, hb1⟩
  have HB1 := Lib.hid (HB.out.trans (hb1.mono (by simp)))
  clear hb1
  go_wp2_with fail
  go_ret2
  exact ⟨rfl, HB1.out⟩
end
#print axioms next_any
#print axioms open_any
end Go.Proofs.Ytfaedecfpnmnjaa
