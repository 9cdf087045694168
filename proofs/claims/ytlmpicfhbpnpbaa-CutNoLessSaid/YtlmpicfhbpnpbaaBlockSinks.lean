/-
  What a payload's numbers and texts are handed to, what the functions that take them leave; the table of what is put of an argument.
-/
import Derived.Test.YtlmpicfhbpnpbaaAppRow
import Derived.Test.YtlmpicfhbpnpbaaDictCalls
import Derived.Test.YtlmpicfhbpnpbaaBlobPut
import Derived.Test.YtlmpicfhbpnpbaaPutCode
import Derived.Deep.RegionHeld3
import Derived.Test.YtlmpicfhbpnpbaaFolds
import Derived.Test.YtlmpicfhbpnpbaaPlainBlock
namespace Go.Proofs.Ytlmpicfhbpnpbaa
open Go.RowKit Go.ChangeShapes Go.WideShapes

/-- append as a step of a drawn region: of any row behind a row of the call's own; and where the new row lies. -/
theorem step_append_erow_at {P : Program} {w : World} {ops : Array Oper} {o : Oper} {a : Act} {K : Act → World → Prop} {Q : Exit → Act → World → Prop} {E : Prop} (hgd : o.guard = none) (s x : Operand) (t e : TypeId) (ho : o.op = .call { callee := .builtin .append, args := #[s, x], argTypes := #[t, t] })
    (base : Nat) (i : TypeInfo) (z : Value) (size bytes : Nat) (ht : P.underlying t = some (.slice e)) (hi : P.info? e = some i) (hz : i.zero = some z) (hsize : i.size = size) (hby : i.bytes = bytes) (hzs : z.cells.size = size) (hsz : 0 < size)
    (v : Value) (n : Nat) (xs : List Value) (hs : a.eval s = v) (hown : w.ownsRow base e size v n xs) (B : Nat) (sv : Value) (m : Nat) (us : List Value) (hx : a.eval x = sv) (hr : ERow w B sv m us) (hl : us.length = m * size) (h1 : ∀ u ∈ us, u.oneCell' = true)
    (h63 : n + m ≤ maxLen) (hbytes : (n + m) * bytes ≤ 140737488355328) (hbase : base ≤ w.heap.size) (N : Nat) (hN : n + m = N) (ys : List Value) (hys : xs ++ us = ys)
    (h : ∀ A c w', w'.ownsRow base e size (.slice A N c) N ys → w.grownBy w' v.ownBlock → ((Value.slice A N c).ownBlock = v.ownBlock ∨ (Value.slice A N c).ownBlock = some w.heap.size) → K (a.put o.dst (.slice A N c)) w') : if Region.wanted o (yielded ops a.tmps) = true then Oper.wp P o a w K Q else E := by
  subst hN hys
  have hw : Region.wanted o (yielded ops a.tmps) = true := by simp [Region.wanted, hgd]
  obtain ⟨v', w', hrun, h2, h3, h4⟩ := run_append_erow_at (P := P) w base t o.type e i z size bytes ht hi hz hsize hby hzs hsz v n xs hown B sv m us hr hl h1 h63 hbytes hbase
  obtain ⟨A, c, rfl⟩ := own_form h2
  rw [if_pos hw]
  unfold Oper.wp execOp
  simp only [ho, resolve, invoke, builtin, Sem.run_bind, Sem.run_pure, Result.andThen_ok, List.map_toArray, List.map_cons, List.map_nil, hs, hx, hrun]
  exact h A c w' h2 h3 h4

section
variable {w w' w2 : World} {base g n k : Nat} {v u : Value} {us : List Value} {T : TypeId}
/-- What is of another type is kept by what turns a block of type T and a row of bytes. -/
theorem apart_held {j : Nat} {t : TypeId} {cs : Array Value} (hh : Held w g T #[u]) (ho : w.ownsRow base 5 1 v n us) (hb : But w w' v.ownBlock g) (hk : Held w j t cs) (h1 : t ≠ T) (h2 : t ≠ 5) : Held w' j t cs :=
  hb.held hk (fun e => by
    subst e
    rw [Held, hh] at hk
    injection hk with hk
    injection hk with _ e2
    exact h1 e2.symm) (own_not_held ho hk (Ne.symm h2))
theorem apart_own {n2 k2 size : Nat} {e : TypeId} {vx : Value} {ux : List Value} (hh : Held w g T #[u]) (ho : w.ownsRow base 5 1 v n us) (hb : But w w' v.ownBlock g) (hx : w.ownsRow n2 e size vx k2 ux) (h1 : e ≠ T) (h2 : e ≠ 5) : w'.ownsRow n2 e size vx k2 ux :=
  own_but hx hb (.inr (Ne.symm (own_not_held hx hh h1))) (by
    rcases hx.2 with ⟨rfl, _⟩ | ⟨b, cap, cur, rfl, _, hgb, _⟩
    · exact .inl rfl
    · exact .inr (own_not_held (g := b) ho (show Held w b e cur from hgb) (Ne.symm h2)))
theorem apart_dict {b2 D r : Nat} {vd : Value} {L : List (List Int)} (hh : Held w g T #[u]) (ho : w.ownsRow base 5 1 v n us) (hb : But w w' v.ownBlock g) (hd : DictAt w b2 D r vd L) (h1 : 140 ≠ T) (h2 : 9 ≠ T) : DictAt w' b2 D r vd L := by
  refine ⟨apart_held hh ho hb hd.held h1 (by decide), apart_own hh ho hb hd.own h2 (by decide), ?_, hd.hD, hd.hr, hd.tx⟩
  obtain ⟨es, cl, he, _⟩ := hd.map
  refine hd.map.keep (hb.block r hd.map.lt (fun e => ?_) (own_not_map ho he))
  subst e
  rw [show w.heap[r]? = _ from hh] at he
  cases he

/-- The slice variable g reads as the bytes that were put. -/
structure SnkP (w : World) (base g : Nat) (v : Value) (zs : List Int) : Prop where
  held : Held w g 46 #[v]
  hg : base ≤ g
  own : w.ownsRow base 5 1 v zs.length (zs.map (.int .u8))
/-- The variable g is how many bytes were put. -/
structure SnkS (w : World) (base g : Nat) (v : Value) (zs : List Int) : Prop where
  held : Held w g 3 #[.int .i64 zs.length]
  hg : base ≤ g
  own : w.ownsRow base 5 1 v 0 []

theorem SnkP.below {zs : List Int} (h : SnkP w base g v zs) (hb : Below w.heap.size w w') : SnkP w' base g v zs := ⟨h.held.below hb h.held.lt, h.hg, own_below h.own hb⟩
/-- What is left behind more that was put. -/
def LeftP (w : World) (base g : Nat) (v : Value) (zs : List Int) (w' : World) : Prop := ∃ v', SnkP w' base g v' zs ∧ But w w' v.ownBlock g ∧ ∀ j, v'.ownBlock = some j → v.ownBlock = some j ∨ w.heap.size ≤ j
theorem LeftP.of_below {zs : List Int} (h : SnkP w base g v zs) (hb : Below w.heap.size w w') : LeftP w base g v zs w' := ⟨v, h.below hb, But.of_below hb _ _, fun _ e => .inl e⟩
theorem LeftP.trans {v1 : Value} {zs : List Int} (hb : But w w' v.ownBlock g) (hv : ∀ j, v1.ownBlock = some j → v.ownBlock = some j ∨ w.heap.size ≤ j) (k : LeftP w' base g v1 zs w2) : LeftP w base g v zs w2 := by
  obtain ⟨v2, h1, h2, h3⟩ := k
  refine ⟨v2, h1, hb.trans h2 hv, fun j e => ?_⟩
  rcases h3 j e with h | h
  · exact hv j h
  · exact .inr (Nat.le_trans hb.size h)
theorem LeftP.ahead {zs : List Int} (hb : Below w.heap.size w w') (k : LeftP w' base g v zs w2) : LeftP w base g v zs w2 := LeftP.trans (But.of_below hb _ _) (fun _ e => .inl e) k
theorem LeftP.behind {zs : List Int} (k : LeftP w base g v zs w') (hb : Below w'.heap.size w' w2) : LeftP w base g v zs w2 := by
  obtain ⟨v1, h1, h2, h3⟩ := k
  exact LeftP.trans h2 h3 (LeftP.of_below h1 hb)
theorem LeftP.low {zs ys : List Int} (k : LeftP w base g v zs w') (h : SnkP w base g v ys) (hn : base ≤ w.heap.size) : Below base w w' := by
  obtain ⟨v1, h1, h2, h3⟩ := k
  exact h2.low hn h.hg (fun j e => (World.ownsRow.lt h.own j e).1)
theorem LeftP.size {zs : List Int} (k : LeftP w base g v zs w') : w.heap.size ≤ w'.heap.size := by
  obtain ⟨v1, h1, h2, h3⟩ := k
  exact h2.size
theorem LeftP.held {zs ys : List Int} {j : Nat} {t : TypeId} {cs : Array Value} (k : LeftP w base g v zs w') (h : SnkP w base g v ys) (hk : Held w j t cs) (h1 : t ≠ 46) (h2 : t ≠ 5) : Held w' j t cs := by
  obtain ⟨v1, q1, q2, q3⟩ := k
  exact apart_held h.held h.own q2 hk h1 h2
theorem LeftP.keep {zs ys : List Int} {n2 k2 size : Nat} {e : TypeId} {vx : Value} {ux : List Value} (k : LeftP w base g v zs w') (h : SnkP w base g v ys) (hx : w.ownsRow n2 e size vx k2 ux) (h1 : e ≠ 46) (h2 : e ≠ 5) : w'.ownsRow n2 e size vx k2 ux := by
  obtain ⟨v1, q1, q2, q3⟩ := k
  exact apart_own h.held h.own q2 hx h1 h2
theorem LeftP.dict {zs ys : List Int} {b2 D r : Nat} {vd : Value} {L : List (List Int)} (k : LeftP w base g v zs w') (h : SnkP w base g v ys) (hd : DictAt w b2 D r vd L) : DictAt w' b2 D r vd L := by
  obtain ⟨v1, q1, q2, q3⟩ := k
  exact apart_dict h.held h.own q2 hd (by decide) (by decide)

theorem SnkS.below {zs : List Int} (h : SnkS w base g v zs) (hb : Below w.heap.size w w') : SnkS w' base g v zs := ⟨h.held.below hb h.held.lt, h.hg, own_below h.own hb⟩
/-- What is left behind more that was put. -/
def LeftS (w : World) (base g : Nat) (v : Value) (zs : List Int) (w' : World) : Prop := ∃ v', SnkS w' base g v' zs ∧ But w w' v.ownBlock g ∧ ∀ j, v'.ownBlock = some j → v.ownBlock = some j ∨ w.heap.size ≤ j
theorem LeftS.of_below {zs : List Int} (h : SnkS w base g v zs) (hb : Below w.heap.size w w') : LeftS w base g v zs w' := ⟨v, h.below hb, But.of_below hb _ _, fun _ e => .inl e⟩
theorem LeftS.trans {v1 : Value} {zs : List Int} (hb : But w w' v.ownBlock g) (hv : ∀ j, v1.ownBlock = some j → v.ownBlock = some j ∨ w.heap.size ≤ j) (k : LeftS w' base g v1 zs w2) : LeftS w base g v zs w2 := by
  obtain ⟨v2, h1, h2, h3⟩ := k
  refine ⟨v2, h1, hb.trans h2 hv, fun j e => ?_⟩
  rcases h3 j e with h | h
  · exact hv j h
  · exact .inr (Nat.le_trans hb.size h)
theorem LeftS.ahead {zs : List Int} (hb : Below w.heap.size w w') (k : LeftS w' base g v zs w2) : LeftS w base g v zs w2 := LeftS.trans (But.of_below hb _ _) (fun _ e => .inl e) k
theorem LeftS.behind {zs : List Int} (k : LeftS w base g v zs w') (hb : Below w'.heap.size w' w2) : LeftS w base g v zs w2 := by
  obtain ⟨v1, h1, h2, h3⟩ := k
  exact LeftS.trans h2 h3 (LeftS.of_below h1 hb)
theorem LeftS.low {zs ys : List Int} (k : LeftS w base g v zs w') (h : SnkS w base g v ys) (hn : base ≤ w.heap.size) : Below base w w' := by
  obtain ⟨v1, h1, h2, h3⟩ := k
  exact h2.low hn h.hg (fun j e => (World.ownsRow.lt h.own j e).1)
theorem LeftS.size {zs : List Int} (k : LeftS w base g v zs w') : w.heap.size ≤ w'.heap.size := by
  obtain ⟨v1, h1, h2, h3⟩ := k
  exact h2.size
theorem LeftS.held {zs ys : List Int} {j : Nat} {t : TypeId} {cs : Array Value} (k : LeftS w base g v zs w') (h : SnkS w base g v ys) (hk : Held w j t cs) (h1 : t ≠ 3) (h2 : t ≠ 5) : Held w' j t cs := by
  obtain ⟨v1, q1, q2, q3⟩ := k
  exact apart_held h.held h.own q2 hk h1 h2
theorem LeftS.keep {zs ys : List Int} {n2 k2 size : Nat} {e : TypeId} {vx : Value} {ux : List Value} (k : LeftS w base g v zs w') (h : SnkS w base g v ys) (hx : w.ownsRow n2 e size vx k2 ux) (h1 : e ≠ 3) (h2 : e ≠ 5) : w'.ownsRow n2 e size vx k2 ux := by
  obtain ⟨v1, q1, q2, q3⟩ := k
  exact apart_own h.held h.own q2 hx h1 h2
theorem LeftS.dict {zs ys : List Int} {b2 D r : Nat} {vd : Value} {L : List (List Int)} (k : LeftS w base g v zs w') (h : SnkS w base g v ys) (hd : DictAt w b2 D r vd L) : DictAt w' b2 D r vd L := by
  obtain ⟨v1, q1, q2, q3⟩ := k
  exact apart_dict h.held h.own q2 hd (by decide) (by decide)
end

theorem row_erow {w : World} {B : Nat} {v : Value} {n : Nat} {xs : List Int} (h : w.ownsRow B 5 1 v n (xs.map (.int .u8))) : ERow w w.heap.size v n (xs.map (.int .u8)) := ERow.of_own h

#print axioms step_append_erow_at
#print axioms LeftS.dict
end Go.Proofs.Ytlmpicfhbpnpbaa

namespace Go.Proofs.Ytlmpicfhbpnpbaa
open Go.RowKit Go.ChangeShapes Go.WideShapes

theorem put_nil_own (n : Nat) (hn : n < 18446744073709551616) (w : World) :
    Calls Try.prog 31 #[.slice none 0 0, .int .u64 n] w fun e W' => ∃ A c, e = .returned (.slice A (encI n).length c) ∧ W'.ownsRow w.heap.size 5 1 (.slice A (encI n).length c) (encI n).length ((encI n).map (.int .u8)) ∧ Below w.heap.size w W' := by
  refine (put_nil n hn w).mono ?_
  rintro e w1 ⟨v, rfl, h1, h2⟩
  obtain ⟨A, c, rfl⟩ := own_form h1
  exact ⟨A, c, rfl, h1, h2⟩
theorem bput_nil_own (s : List Int) (hb : ∀ x ∈ s, 0 ≤ x ∧ x < 256) (hs : s.length ≤ 1000000000) (w : World) :
    Calls Try.prog 33 #[.slice none 0 0, .string (strOfNums s)] w fun e W' => ∃ A c, e = .returned (.slice A (encT s).length c) ∧ W'.ownsRow w.heap.size 5 1 (.slice A (encT s).length c) (encT s).length ((encT s).map (.int .u8)) ∧ Below w.heap.size w W' := by
  have h := bput_any none 0 [] s hb (by simp) hs w (Row.nil _ _)
  refine h.mono ?_
  rintro e w1 ⟨v, rfl, h1, h2⟩
  simp only [List.nil_append, List.length_nil, Nat.zero_add] at h1
  obtain ⟨A, c, rfl⟩ := own_form h1
  exact ⟨A, c, rfl, h1, h2⟩
theorem left_put {w w1 w2 : World} {base g : Nat} {v : Value} {zs ys : List Int} {A : Option Addr} {c : Nat} (h : SnkP w base g v zs) (hb : Below w.heap.size w w1) (ho : w2.ownsRow base 5 1 (.slice A ys.length c) ys.length (ys.map (.int .u8))) (hg : w1.grownBy w2 v.ownBlock)
    (hat : (Value.slice A ys.length c).ownBlock = v.ownBlock ∨ (Value.slice A ys.length c).ownBlock = some w1.heap.size) (hh : Held w2 g 46 #[v]) : LeftP w base g v ys (w2.setCell ⟨g, 0, none⟩ (.slice A ys.length c)) := by
  have hh2 := hh.put 0 (.slice A ys.length c)
  have hne := own_not_held ho hh (by decide)
  refine ⟨.slice A ys.length c, ⟨by simpa using hh2, h.hg, ownsRow_setCell_other ho (Ne.symm hne) _⟩, ?_, fun j e => ?_⟩
  · exact (But.of_below hb _ _).trans ((But.of_row hg g).trans (But.of_one (grown_put w2 g 0 _) v.ownBlock) (fun j e => .inl e)) (fun j e => .inl e)
  · rcases hat with q | q
    · exact .inl (q ▸ e)
    · rw [q] at e
      cases e
      exact .inr hb.size
set_option maxRecDepth 100000 in
set_option maxHeartbeats 1000000 in
theorem putn_any {w : World} {base g : Nat} {v : Value} {zs : List Int} (h : SnkP w base g v zs) (n : Nat) (hn : n < 18446744073709551616) (hl : zs.length ≤ 10000000000) (hbs : base ≤ w.heap.size) :
    Calls Try.prog 30 #[.int .u64 n, .pointer (some ⟨g, 0, none⟩)] w fun e w' => e = .returned (.tuple #[]) ∧ LeftP w base g v (zs ++ encI n) w' := by
  obtain ⟨i0, hi, hz0, hz1, hz2⟩ := info_parts Try.infoU8
  have hlen : (encI n).length ≤ 1000000100 := by have := (encI_ten hn).2; omega
  have HC := Lib.hid (fun W => put_nil_own n hn W)
  have HH := Lib.hid (fun (W : World) (hb : Below w.heap.size w W) => (h.below hb))
  have h0 := h
  have hng := own_not_held h.own h.held (by decide)
  generalize encI n = E at hlen HC ⊢
  clear h
  go_enter Try.func30, Try.ntmps30
  go_wp2_with fail
  refine wp_region_held_drew (S := fun _ => True) (by kernel_rfl) trivial (fun _ => ?_)
  refine wpAnyH_take (i := 1) (v := .int .u64 n) rfl (by kernel_rfl) (by kernel_rfl) (by kernel_rfl) (fun _ _ _ h => h) (Or.inl ⟨by rfl, fun W _ => by go_simp⟩) trivial ?_
  try simp only [List.getElem_toArray, List.getElem_cons_zero, List.getElem_cons_succ, Act.put, List.setIfInBounds_toArray, List.set_cons_zero, List.set_cons_succ]
  refine wpAnyH_ready (rs := [0, 2]) (by kernel_rfl) (by simp) ?_
  refine AllReadyH.cons rfl (fun K hK => ?_) (AllReadyH.cons rfl (fun K hK => ?_) AllReadyH.nil)
  · skip
    have y0 := (HH.out _ (Below.refl _ _).drew).held.cell 0
    simp at y0
    go_simp
    clear y0
    refine hK.out _ _ trivial (fun _ => ?_)
    clear hK K
    try simp only [List.getElem_toArray, List.getElem_cons_zero, List.getElem_cons_succ, Act.put, List.setIfInBounds_toArray, List.set_cons_zero, List.set_cons_succ]
    refine wpAnyH_ready (rs := [2]) (by kernel_rfl) (by simp) ?_
    refine AllReadyH.cons rfl (fun K hK => ?_) AllReadyH.nil
    go_simp
    refine (HC.out _).mono ?_
    rintro e w1 ⟨A1, c1, rfl, hown1, hb1⟩
    have b1 : Below w.heap.size w w1 := (Below.refl _ _).drew.trans hb1
    refine hK.out _ _ trivial (fun _ => ?_)
    clear hK K
    try simp only [List.getElem_toArray, List.getElem_cons_zero, List.getElem_cons_succ, Act.put, List.setIfInBounds_toArray, List.set_cons_zero, List.set_cons_succ]
    refine wpAnyH_ready (rs := [3]) (by kernel_rfl) (by simp) ?_
    refine AllReadyH.cons rfl (fun K hK => ?_) AllReadyH.nil
    refine step_append_erow_at (by rfl) (.tmp 3) (.tmp 5) 46 5 (by rfl) base i0 (.int .u8 0) 1 1 Try.underlying46 hi hz0 hz1 hz2 rfl (by decide) v zs.length (zs.map (.int .u8)) (by rfl) (HH.out _ b1).own _ (.slice A1 E.length c1) E.length (E.map (.int .u8)) (by rfl) (ERow.of_own hown1) (by simp) (by simp [Value.oneCell']) (by simp only [maxLen]; omega) (by omega) (by have := b1.size; omega) (zs ++ E).length (by simp) ((zs ++ E).map (.int .u8)) (by simp) ?_
    intro A c w2 hown2 hg2 hat2
    refine hK.out _ _ trivial (fun _ => ?_)
    clear hK K
    try simp only [List.getElem_toArray, List.getElem_cons_zero, List.getElem_cons_succ, Act.put, List.setIfInBounds_toArray, List.set_cons_zero, List.set_cons_succ]
    refine wpAnyH_ready (rs := [4]) (by kernel_rfl) (by simp) ?_
    refine AllReadyH.cons rfl (fun K hK => ?_) AllReadyH.nil
    have hh2 := (HH.out _ b1).held.grown hg2 hng
    have y0 := hh2.cell 0
    have yf := hh2.frozen 0
    simp at y0
    go_simp
    clear y0 yf
    refine hK.out _ _ trivial (fun _ => ?_)
    clear hK K
    try simp only [List.getElem_toArray, List.getElem_cons_zero, List.getElem_cons_succ, Act.put, List.setIfInBounds_toArray, List.set_cons_zero, List.set_cons_succ]
    refine wpAnyH_done (by kernel_rfl) ?_ _
    go_wp2_with fail
    go_end0
    refine ⟨rfl, ?_⟩
    rw [← List.length_append]
    exact left_put h0 b1 hown2 hg2 hat2 hh2
  · skip
    go_simp
    refine (HC.out _).mono ?_
    rintro e w1 ⟨A1, c1, rfl, hown1, hb1⟩
    have b1 : Below w.heap.size w w1 := (Below.refl _ _).drew.trans hb1
    refine hK.out _ _ trivial (fun _ => ?_)
    clear hK K
    try simp only [List.getElem_toArray, List.getElem_cons_zero, List.getElem_cons_succ, Act.put, List.setIfInBounds_toArray, List.set_cons_zero, List.set_cons_succ]
    refine wpAnyH_ready (rs := [0]) (by kernel_rfl) (by simp) ?_
    refine AllReadyH.cons rfl (fun K hK => ?_) AllReadyH.nil
    have y0 := (HH.out _ b1).held.cell 0
    simp at y0
    go_simp
    clear y0
    refine hK.out _ _ trivial (fun _ => ?_)
    clear hK K
    try simp only [List.getElem_toArray, List.getElem_cons_zero, List.getElem_cons_succ, Act.put, List.setIfInBounds_toArray, List.set_cons_zero, List.set_cons_succ]
    refine wpAnyH_ready (rs := [3]) (by kernel_rfl) (by simp) ?_
    refine AllReadyH.cons rfl (fun K hK => ?_) AllReadyH.nil
    refine step_append_erow_at (by rfl) (.tmp 3) (.tmp 5) 46 5 (by rfl) base i0 (.int .u8 0) 1 1 Try.underlying46 hi hz0 hz1 hz2 rfl (by decide) v zs.length (zs.map (.int .u8)) (by rfl) (HH.out _ b1).own _ (.slice A1 E.length c1) E.length (E.map (.int .u8)) (by rfl) (ERow.of_own hown1) (by simp) (by simp [Value.oneCell']) (by simp only [maxLen]; omega) (by omega) (by have := b1.size; omega) (zs ++ E).length (by simp) ((zs ++ E).map (.int .u8)) (by simp) ?_
    intro A c w2 hown2 hg2 hat2
    refine hK.out _ _ trivial (fun _ => ?_)
    clear hK K
    try simp only [List.getElem_toArray, List.getElem_cons_zero, List.getElem_cons_succ, Act.put, List.setIfInBounds_toArray, List.set_cons_zero, List.set_cons_succ]
    refine wpAnyH_ready (rs := [4]) (by kernel_rfl) (by simp) ?_
    refine AllReadyH.cons rfl (fun K hK => ?_) AllReadyH.nil
    have hh2 := (HH.out _ b1).held.grown hg2 hng
    have y0 := hh2.cell 0
    have yf := hh2.frozen 0
    simp at y0
    go_simp
    clear y0 yf
    refine hK.out _ _ trivial (fun _ => ?_)
    clear hK K
    try simp only [List.getElem_toArray, List.getElem_cons_zero, List.getElem_cons_succ, Act.put, List.setIfInBounds_toArray, List.set_cons_zero, List.set_cons_succ]
    refine wpAnyH_done (by kernel_rfl) ?_ _
    go_wp2_with fail
    go_end0
    refine ⟨rfl, ?_⟩
    rw [← List.length_append]
    exact left_put h0 b1 hown2 hg2 hat2 hh2
#print axioms putn_any
set_option maxRecDepth 100000 in
set_option maxHeartbeats 1000000 in
theorem putt_any {w : World} {base g : Nat} {v : Value} {zs : List Int} (h : SnkP w base g v zs) (s : List Int) (hsb : ∀ x ∈ s, 0 ≤ x ∧ x < 256) (hs : s.length ≤ 1000000000) (hl : zs.length ≤ 10000000000) (hbs : base ≤ w.heap.size) :
    Calls Try.prog 32 #[.string (strOfNums s), .pointer (some ⟨g, 0, none⟩)] w fun e w' => e = .returned (.tuple #[]) ∧ LeftP w base g v (zs ++ encT s) w' := by
  obtain ⟨i0, hi, hz0, hz1, hz2⟩ := info_parts Try.infoU8
  have hlen : (encT s).length ≤ 1000000100 := by rw [encT_length]; have := (encI_ten (n := s.length) (by omega)).2; omega
  have HC := Lib.hid (fun W => bput_nil_own s hsb hs W)
  have HH := Lib.hid (fun (W : World) (hb : Below w.heap.size w W) => (h.below hb))
  have h0 := h
  have hng := own_not_held h.own h.held (by decide)
  generalize encT s = E at hlen HC ⊢
  clear h
  go_enter Try.func32, Try.ntmps32
  go_wp2_with fail
  refine wp_region_held_drew (S := fun _ => True) (by kernel_rfl) trivial (fun _ => ?_)
  refine wpAnyH_take (i := 1) (v := .string (strOfNums s)) rfl (by kernel_rfl) (by kernel_rfl) (by kernel_rfl) (fun _ _ _ h => h) (Or.inl ⟨by rfl, fun W _ => by go_simp⟩) trivial ?_
  try simp only [List.getElem_toArray, List.getElem_cons_zero, List.getElem_cons_succ, Act.put, List.setIfInBounds_toArray, List.set_cons_zero, List.set_cons_succ]
  refine wpAnyH_ready (rs := [0, 2]) (by kernel_rfl) (by simp) ?_
  refine AllReadyH.cons rfl (fun K hK => ?_) (AllReadyH.cons rfl (fun K hK => ?_) AllReadyH.nil)
  · skip
    have y0 := (HH.out _ (Below.refl _ _).drew).held.cell 0
    simp at y0
    go_simp
    clear y0
    refine hK.out _ _ trivial (fun _ => ?_)
    clear hK K
    try simp only [List.getElem_toArray, List.getElem_cons_zero, List.getElem_cons_succ, Act.put, List.setIfInBounds_toArray, List.set_cons_zero, List.set_cons_succ]
    refine wpAnyH_ready (rs := [2]) (by kernel_rfl) (by simp) ?_
    refine AllReadyH.cons rfl (fun K hK => ?_) AllReadyH.nil
    go_simp
    refine (HC.out _).mono ?_
    rintro e w1 ⟨A1, c1, rfl, hown1, hb1⟩
    have b1 : Below w.heap.size w w1 := (Below.refl _ _).drew.trans hb1
    refine hK.out _ _ trivial (fun _ => ?_)
    clear hK K
    try simp only [List.getElem_toArray, List.getElem_cons_zero, List.getElem_cons_succ, Act.put, List.setIfInBounds_toArray, List.set_cons_zero, List.set_cons_succ]
    refine wpAnyH_ready (rs := [3]) (by kernel_rfl) (by simp) ?_
    refine AllReadyH.cons rfl (fun K hK => ?_) AllReadyH.nil
    refine step_append_erow_at (by rfl) (.tmp 3) (.tmp 5) 46 5 (by rfl) base i0 (.int .u8 0) 1 1 Try.underlying46 hi hz0 hz1 hz2 rfl (by decide) v zs.length (zs.map (.int .u8)) (by rfl) (HH.out _ b1).own _ (.slice A1 E.length c1) E.length (E.map (.int .u8)) (by rfl) (ERow.of_own hown1) (by simp) (by simp [Value.oneCell']) (by simp only [maxLen]; omega) (by omega) (by have := b1.size; omega) (zs ++ E).length (by simp) ((zs ++ E).map (.int .u8)) (by simp) ?_
    intro A c w2 hown2 hg2 hat2
    refine hK.out _ _ trivial (fun _ => ?_)
    clear hK K
    try simp only [List.getElem_toArray, List.getElem_cons_zero, List.getElem_cons_succ, Act.put, List.setIfInBounds_toArray, List.set_cons_zero, List.set_cons_succ]
    refine wpAnyH_ready (rs := [4]) (by kernel_rfl) (by simp) ?_
    refine AllReadyH.cons rfl (fun K hK => ?_) AllReadyH.nil
    have hh2 := (HH.out _ b1).held.grown hg2 hng
    have y0 := hh2.cell 0
    have yf := hh2.frozen 0
    simp at y0
    go_simp
    clear y0 yf
    refine hK.out _ _ trivial (fun _ => ?_)
    clear hK K
    try simp only [List.getElem_toArray, List.getElem_cons_zero, List.getElem_cons_succ, Act.put, List.setIfInBounds_toArray, List.set_cons_zero, List.set_cons_succ]
    refine wpAnyH_done (by kernel_rfl) ?_ _
    go_wp2_with fail
    go_end0
    refine ⟨rfl, ?_⟩
    rw [← List.length_append]
    exact left_put h0 b1 hown2 hg2 hat2 hh2
  · skip
    go_simp
    refine (HC.out _).mono ?_
    rintro e w1 ⟨A1, c1, rfl, hown1, hb1⟩
    have b1 : Below w.heap.size w w1 := (Below.refl _ _).drew.trans hb1
    refine hK.out _ _ trivial (fun _ => ?_)
    clear hK K
    try simp only [List.getElem_toArray, List.getElem_cons_zero, List.getElem_cons_succ, Act.put, List.setIfInBounds_toArray, List.set_cons_zero, List.set_cons_succ]
    refine wpAnyH_ready (rs := [0]) (by kernel_rfl) (by simp) ?_
    refine AllReadyH.cons rfl (fun K hK => ?_) AllReadyH.nil
    have y0 := (HH.out _ b1).held.cell 0
    simp at y0
    go_simp
    clear y0
    refine hK.out _ _ trivial (fun _ => ?_)
    clear hK K
    try simp only [List.getElem_toArray, List.getElem_cons_zero, List.getElem_cons_succ, Act.put, List.setIfInBounds_toArray, List.set_cons_zero, List.set_cons_succ]
    refine wpAnyH_ready (rs := [3]) (by kernel_rfl) (by simp) ?_
    refine AllReadyH.cons rfl (fun K hK => ?_) AllReadyH.nil
    refine step_append_erow_at (by rfl) (.tmp 3) (.tmp 5) 46 5 (by rfl) base i0 (.int .u8 0) 1 1 Try.underlying46 hi hz0 hz1 hz2 rfl (by decide) v zs.length (zs.map (.int .u8)) (by rfl) (HH.out _ b1).own _ (.slice A1 E.length c1) E.length (E.map (.int .u8)) (by rfl) (ERow.of_own hown1) (by simp) (by simp [Value.oneCell']) (by simp only [maxLen]; omega) (by omega) (by have := b1.size; omega) (zs ++ E).length (by simp) ((zs ++ E).map (.int .u8)) (by simp) ?_
    intro A c w2 hown2 hg2 hat2
    refine hK.out _ _ trivial (fun _ => ?_)
    clear hK K
    try simp only [List.getElem_toArray, List.getElem_cons_zero, List.getElem_cons_succ, Act.put, List.setIfInBounds_toArray, List.set_cons_zero, List.set_cons_succ]
    refine wpAnyH_ready (rs := [4]) (by kernel_rfl) (by simp) ?_
    refine AllReadyH.cons rfl (fun K hK => ?_) AllReadyH.nil
    have hh2 := (HH.out _ b1).held.grown hg2 hng
    have y0 := hh2.cell 0
    have yf := hh2.frozen 0
    simp at y0
    go_simp
    clear y0 yf
    refine hK.out _ _ trivial (fun _ => ?_)
    clear hK K
    try simp only [List.getElem_toArray, List.getElem_cons_zero, List.getElem_cons_succ, Act.put, List.setIfInBounds_toArray, List.set_cons_zero, List.set_cons_succ]
    refine wpAnyH_done (by kernel_rfl) ?_ _
    go_wp2_with fail
    go_end0
    refine ⟨rfl, ?_⟩
    rw [← List.length_append]
    exact left_put h0 b1 hown2 hg2 hat2 hh2
#print axioms putt_any
end Go.Proofs.Ytlmpicfhbpnpbaa

namespace Go.Proofs.Ytlmpicfhbpnpbaa
open Go.RowKit Go.ChangeShapes Go.WideShapes

theorem left_sum {w w1 : World} {base g : Nat} {v : Value} {zs ys : List Int} {Z E : Nat} (h : SnkS w base g v zs) (hb : Below w.heap.size w w1) (hE : ys.length = E) (hZ : zs.length = Z) : LeftS w base g v (zs ++ ys) (w1.setCell ⟨g, 0, none⟩ (.int .i64 ((Z : Int) + (E : Int)))) := by
  have h1 := h.below hb
  have hh2 := h1.held.put 0 (.int .i64 ((Z : Int) + (E : Int)))
  have hne := own_not_held h1.own h1.held (by decide)
  refine ⟨v, ⟨by rw [List.length_append, hE, hZ]; simpa using hh2, h.hg, ownsRow_setCell_other h1.own (Ne.symm hne) _⟩, ?_, fun j e => .inl e⟩
  exact (But.of_below hb _ _).trans (But.of_one (grown_put w1 g 0 _) v.ownBlock) (fun j e => .inl e)
set_option maxRecDepth 100000 in
set_option maxHeartbeats 1000000 in
theorem sumn_any {w : World} {base g : Nat} {v : Value} {zs : List Int} (h : SnkS w base g v zs) (n : Nat) (hn : n < 18446744073709551616) (hl : zs.length ≤ 10000000000) :
    Calls Try.prog 38 #[.int .u64 n, .pointer (some ⟨g, 0, none⟩)] w fun e w' => e = .returned (.tuple #[]) ∧ LeftS w base g v (zs ++ encI n) w' := by
  have hlen : (encI n).length ≤ 1000000100 := by have := (encI_ten hn).2; omega
  have HC := Lib.hid (fun W => size_any n hn W)
  have HH := Lib.hid (fun (W : World) (hb : Below w.heap.size w W) => (h.below hb))
  have h0 := h
  obtain ⟨E, hE⟩ : ∃ E, (encI n).length = E := ⟨_, rfl⟩
  rw [hE] at hlen HC
  obtain ⟨Z, hZ⟩ : ∃ Z, zs.length = Z := ⟨_, rfl⟩
  have HWR := Lib.hid (show IntKind.i64.wrap ((Z : Int) + (E : Int)) = (Z : Int) + (E : Int) from IntWalk.i64_in _ (by omega))
  have HZ := Lib.hid hZ
  have HL := Lib.hid hE
  clear h hE hZ
  go_enter Try.func38, Try.ntmps38
  go_wp2_with fail
  refine wp_region_held_drew (S := fun _ => True) (by kernel_rfl) trivial (fun _ => ?_)
  refine wpAnyH_take (i := 1) (v := .int .u64 n) rfl (by kernel_rfl) (by kernel_rfl) (by kernel_rfl) (fun _ _ _ h => h) (Or.inl ⟨by rfl, fun W _ => by go_simp⟩) trivial ?_
  try simp only [List.getElem_toArray, List.getElem_cons_zero, List.getElem_cons_succ, Act.put, List.setIfInBounds_toArray, List.set_cons_zero, List.set_cons_succ]
  refine wpAnyH_ready (rs := [0, 2]) (by kernel_rfl) (by simp) ?_
  refine AllReadyH.cons rfl (fun K hK => ?_) (AllReadyH.cons rfl (fun K hK => ?_) AllReadyH.nil)
  · skip
    have y0 := (HH.out _ (Below.refl _ _).drew).held.cell 0
    simp at y0
    rw [HZ.out] at y0
    go_simp
    clear y0
    refine hK.out _ _ trivial (fun _ => ?_)
    clear hK K
    try simp only [List.getElem_toArray, List.getElem_cons_zero, List.getElem_cons_succ, Act.put, List.setIfInBounds_toArray, List.set_cons_zero, List.set_cons_succ]
    refine wpAnyH_ready (rs := [2]) (by kernel_rfl) (by simp) ?_
    refine AllReadyH.cons rfl (fun K hK => ?_) AllReadyH.nil
    go_simp
    refine (HC.out _).mono ?_
    rintro e w1 ⟨rfl, hb1⟩
    have b1 : Below w.heap.size w w1 := (Below.refl _ _).drew.trans hb1
    refine hK.out _ _ trivial (fun _ => ?_)
    clear hK K
    try simp only [List.getElem_toArray, List.getElem_cons_zero, List.getElem_cons_succ, Act.put, List.setIfInBounds_toArray, List.set_cons_zero, List.set_cons_succ]
    refine wpAnyH_take (i := 3) (v := .int .i64 ((Z : Int) + (E : Int))) rfl (by kernel_rfl) (by kernel_rfl) (by kernel_rfl) (fun _ _ _ h => h) (Or.inl ⟨by rfl, fun W _ => by have hwr := HWR.out; go_simp⟩) trivial ?_
    try simp only [List.getElem_toArray, List.getElem_cons_zero, List.getElem_cons_succ, Act.put, List.setIfInBounds_toArray, List.set_cons_zero, List.set_cons_succ]
    refine wpAnyH_ready (rs := [4]) (by kernel_rfl) (by simp) ?_
    refine AllReadyH.cons rfl (fun K hK => ?_) AllReadyH.nil
    have hh2 := (HH.out _ b1).held
    have y0 := hh2.cell 0
    have yf := hh2.frozen 0
    simp at y0
    rw [HZ.out] at y0
    go_simp
    clear y0 yf
    refine hK.out _ _ trivial (fun _ => ?_)
    clear hK K
    try simp only [List.getElem_toArray, List.getElem_cons_zero, List.getElem_cons_succ, Act.put, List.setIfInBounds_toArray, List.set_cons_zero, List.set_cons_succ]
    refine wpAnyH_done (by kernel_rfl) ?_ _
    go_wp2_with fail
    go_end0
    exact ⟨rfl, left_sum h0 b1 HL.out HZ.out⟩
  · skip
    go_simp
    refine (HC.out _).mono ?_
    rintro e w1 ⟨rfl, hb1⟩
    have b1 : Below w.heap.size w w1 := (Below.refl _ _).drew.trans hb1
    refine hK.out _ _ trivial (fun _ => ?_)
    clear hK K
    try simp only [List.getElem_toArray, List.getElem_cons_zero, List.getElem_cons_succ, Act.put, List.setIfInBounds_toArray, List.set_cons_zero, List.set_cons_succ]
    refine wpAnyH_ready (rs := [0]) (by kernel_rfl) (by simp) ?_
    refine AllReadyH.cons rfl (fun K hK => ?_) AllReadyH.nil
    have y0 := (HH.out _ b1).held.cell 0
    simp at y0
    rw [HZ.out] at y0
    go_simp
    clear y0
    refine hK.out _ _ trivial (fun _ => ?_)
    clear hK K
    try simp only [List.getElem_toArray, List.getElem_cons_zero, List.getElem_cons_succ, Act.put, List.setIfInBounds_toArray, List.set_cons_zero, List.set_cons_succ]
    refine wpAnyH_take (i := 3) (v := .int .i64 ((Z : Int) + (E : Int))) rfl (by kernel_rfl) (by kernel_rfl) (by kernel_rfl) (fun _ _ _ h => h) (Or.inl ⟨by rfl, fun W _ => by have hwr := HWR.out; go_simp⟩) trivial ?_
    try simp only [List.getElem_toArray, List.getElem_cons_zero, List.getElem_cons_succ, Act.put, List.setIfInBounds_toArray, List.set_cons_zero, List.set_cons_succ]
    refine wpAnyH_ready (rs := [4]) (by kernel_rfl) (by simp) ?_
    refine AllReadyH.cons rfl (fun K hK => ?_) AllReadyH.nil
    have hh2 := (HH.out _ b1).held
    have y0 := hh2.cell 0
    have yf := hh2.frozen 0
    simp at y0
    rw [HZ.out] at y0
    go_simp
    clear y0 yf
    refine hK.out _ _ trivial (fun _ => ?_)
    clear hK K
    try simp only [List.getElem_toArray, List.getElem_cons_zero, List.getElem_cons_succ, Act.put, List.setIfInBounds_toArray, List.set_cons_zero, List.set_cons_succ]
    refine wpAnyH_done (by kernel_rfl) ?_ _
    go_wp2_with fail
    go_end0
    exact ⟨rfl, left_sum h0 b1 HL.out HZ.out⟩
#print axioms sumn_any
set_option maxRecDepth 100000 in
set_option maxHeartbeats 1000000 in
theorem sumt_any {w : World} {base g : Nat} {v : Value} {zs : List Int} (h : SnkS w base g v zs) (s : List Int) (hsb : ∀ x ∈ s, 0 ≤ x ∧ x < 256) (hs : s.length ≤ 1000000000) (hl : zs.length ≤ 10000000000) :
    Calls Try.prog 40 #[.string (strOfNums s), .pointer (some ⟨g, 0, none⟩)] w fun e w' => e = .returned (.tuple #[]) ∧ LeftS w base g v (zs ++ encT s) w' := by
  have hlen : (encT s).length ≤ 1000000100 := by rw [encT_length]; have := (encI_ten (n := s.length) (by omega)).2; omega
  have HC := Lib.hid (fun W => bput_nil_own s hsb hs W)
  have HH := Lib.hid (fun (W : World) (hb : Below w.heap.size w W) => (h.below hb))
  have h0 := h
  obtain ⟨E, hE⟩ : ∃ E, (encT s).length = E := ⟨_, rfl⟩
  rw [hE] at hlen HC
  obtain ⟨Z, hZ⟩ : ∃ Z, zs.length = Z := ⟨_, rfl⟩
  have HWR := Lib.hid (show IntKind.i64.wrap ((Z : Int) + (E : Int)) = (Z : Int) + (E : Int) from IntWalk.i64_in _ (by omega))
  have HZ := Lib.hid hZ
  have HL := Lib.hid hE
  clear h hE hZ
  go_enter Try.func40, Try.ntmps40
  go_wp2_with fail
  refine wp_region_held_drew (S := fun _ => True) (by kernel_rfl) trivial (fun _ => ?_)
  refine wpAnyH_take (i := 1) (v := .string (strOfNums s)) rfl (by kernel_rfl) (by kernel_rfl) (by kernel_rfl) (fun _ _ _ h => h) (Or.inl ⟨by rfl, fun W _ => by go_simp⟩) trivial ?_
  try simp only [List.getElem_toArray, List.getElem_cons_zero, List.getElem_cons_succ, Act.put, List.setIfInBounds_toArray, List.set_cons_zero, List.set_cons_succ]
  refine wpAnyH_ready (rs := [0, 2]) (by kernel_rfl) (by simp) ?_
  refine AllReadyH.cons rfl (fun K hK => ?_) (AllReadyH.cons rfl (fun K hK => ?_) AllReadyH.nil)
  · skip
    have y0 := (HH.out _ (Below.refl _ _).drew).held.cell 0
    simp at y0
    rw [HZ.out] at y0
    go_simp
    clear y0
    refine hK.out _ _ trivial (fun _ => ?_)
    clear hK K
    try simp only [List.getElem_toArray, List.getElem_cons_zero, List.getElem_cons_succ, Act.put, List.setIfInBounds_toArray, List.set_cons_zero, List.set_cons_succ]
    refine wpAnyH_ready (rs := [2]) (by kernel_rfl) (by simp) ?_
    refine AllReadyH.cons rfl (fun K hK => ?_) AllReadyH.nil
    go_simp
    refine (HC.out _).mono ?_
    rintro e w1 ⟨A1, c1, rfl, hown1, hb1⟩
    have b1 : Below w.heap.size w w1 := (Below.refl _ _).drew.trans hb1
    refine hK.out _ _ trivial (fun _ => ?_)
    clear hK K
    try simp only [List.getElem_toArray, List.getElem_cons_zero, List.getElem_cons_succ, Act.put, List.setIfInBounds_toArray, List.set_cons_zero, List.set_cons_succ]
    refine wpAnyH_take (i := 3) (v := .int .i64 (E : Int)) rfl (by kernel_rfl) (by kernel_rfl) (by kernel_rfl) (fun _ _ _ h => h) (Or.inl ⟨by rfl, fun W _ => by go_simp⟩) trivial ?_
    try simp only [List.getElem_toArray, List.getElem_cons_zero, List.getElem_cons_succ, Act.put, List.setIfInBounds_toArray, List.set_cons_zero, List.set_cons_succ]
    refine wpAnyH_take (i := 4) (v := .int .i64 ((Z : Int) + (E : Int))) rfl (by kernel_rfl) (by kernel_rfl) (by kernel_rfl) (fun _ _ _ h => h) (Or.inl ⟨by rfl, fun W _ => by have hwr := HWR.out; go_simp⟩) trivial ?_
    try simp only [List.getElem_toArray, List.getElem_cons_zero, List.getElem_cons_succ, Act.put, List.setIfInBounds_toArray, List.set_cons_zero, List.set_cons_succ]
    refine wpAnyH_ready (rs := [5]) (by kernel_rfl) (by simp) ?_
    refine AllReadyH.cons rfl (fun K hK => ?_) AllReadyH.nil
    have hh2 := (HH.out _ b1).held
    have y0 := hh2.cell 0
    have yf := hh2.frozen 0
    simp at y0
    rw [HZ.out] at y0
    go_simp
    clear y0 yf
    refine hK.out _ _ trivial (fun _ => ?_)
    clear hK K
    try simp only [List.getElem_toArray, List.getElem_cons_zero, List.getElem_cons_succ, Act.put, List.setIfInBounds_toArray, List.set_cons_zero, List.set_cons_succ]
    refine wpAnyH_done (by kernel_rfl) ?_ _
    go_wp2_with fail
    go_end0
    exact ⟨rfl, left_sum h0 b1 HL.out HZ.out⟩
  · skip
    go_simp
    refine (HC.out _).mono ?_
    rintro e w1 ⟨A1, c1, rfl, hown1, hb1⟩
    have b1 : Below w.heap.size w w1 := (Below.refl _ _).drew.trans hb1
    refine hK.out _ _ trivial (fun _ => ?_)
    clear hK K
    try simp only [List.getElem_toArray, List.getElem_cons_zero, List.getElem_cons_succ, Act.put, List.setIfInBounds_toArray, List.set_cons_zero, List.set_cons_succ]
    refine wpAnyH_take (i := 3) (v := .int .i64 (E : Int)) rfl (by kernel_rfl) (by kernel_rfl) (by kernel_rfl) (fun _ _ _ h => h) (Or.inl ⟨by rfl, fun W _ => by go_simp⟩) trivial ?_
    try simp only [List.getElem_toArray, List.getElem_cons_zero, List.getElem_cons_succ, Act.put, List.setIfInBounds_toArray, List.set_cons_zero, List.set_cons_succ]
    refine wpAnyH_ready (rs := [0]) (by kernel_rfl) (by simp) ?_
    refine AllReadyH.cons rfl (fun K hK => ?_) AllReadyH.nil
    have y0 := (HH.out _ b1).held.cell 0
    simp at y0
    rw [HZ.out] at y0
    go_simp
    clear y0
    refine hK.out _ _ trivial (fun _ => ?_)
    clear hK K
    try simp only [List.getElem_toArray, List.getElem_cons_zero, List.getElem_cons_succ, Act.put, List.setIfInBounds_toArray, List.set_cons_zero, List.set_cons_succ]
    refine wpAnyH_take (i := 4) (v := .int .i64 ((Z : Int) + (E : Int))) rfl (by kernel_rfl) (by kernel_rfl) (by kernel_rfl) (fun _ _ _ h => h) (Or.inl ⟨by rfl, fun W _ => by have hwr := HWR.out; go_simp⟩) trivial ?_
    try simp only [List.getElem_toArray, List.getElem_cons_zero, List.getElem_cons_succ, Act.put, List.setIfInBounds_toArray, List.set_cons_zero, List.set_cons_succ]
    refine wpAnyH_ready (rs := [5]) (by kernel_rfl) (by simp) ?_
    refine AllReadyH.cons rfl (fun K hK => ?_) AllReadyH.nil
    have hh2 := (HH.out _ b1).held
    have y0 := hh2.cell 0
    have yf := hh2.frozen 0
    simp at y0
    rw [HZ.out] at y0
    go_simp
    clear y0 yf
    refine hK.out _ _ trivial (fun _ => ?_)
    clear hK K
    try simp only [List.getElem_toArray, List.getElem_cons_zero, List.getElem_cons_succ, Act.put, List.setIfInBounds_toArray, List.set_cons_zero, List.set_cons_succ]
    refine wpAnyH_done (by kernel_rfl) ?_ _
    go_wp2_with fail
    go_end0
    exact ⟨rfl, left_sum h0 b1 HL.out HZ.out⟩
#print axioms sumt_any
end Go.Proofs.Ytlmpicfhbpnpbaa

namespace Go.Proofs.Ytlmpicfhbpnpbaa
open Go.RowKit Go.ChangeShapes Go.WideShapes

/-- The table, where x holds the dictionary. -/
abbrev TabV (x : Nat) : Value := .agg #[.nilFunc, .func (.func 83) #[] #[], .func (.func 85) #[] #[.pointer (some ⟨x, 0, none⟩)]]

set_option maxRecDepth 100000 in
theorem table_any (D : Nat) (w : World) : Calls Try.prog 55 #[.pointer (some ⟨D, 0, none⟩)] w fun e w' => ∃ x, e = .returned (TabV x) ∧ Held w' x 103 #[.pointer (some ⟨D, 0, none⟩)] ∧ w.heap.size ≤ x ∧ Below w.heap.size w w' := by
  obtain ⟨N, hN⟩ : ∃ N, w.heap.size = N := ⟨_, rfl⟩
  obtain ⟨w1, hw1⟩ : ∃ w1, w.alloc (.cells #[.pointer (some ⟨D, 0, none⟩)] 103) = w1 := ⟨_, rfl⟩
  have b1 : Below N w w1 := by rw [← hw1]; exact (Below.refl _ _).alloc (by omega) _
  have s1 : w1.heap.size = N + 1 := by rw [← hw1, World.size_alloc, hN]
  have h1 : Held w1 N 103 #[.pointer (some ⟨D, 0, none⟩)] := by rw [← hw1, ← hN]; exact heap_alloc_new w _
  obtain ⟨w2, hw2⟩ : ∃ w2, w1.alloc (.cells #[.nilFunc, .nilFunc, .nilFunc] 107) = w2 := ⟨_, rfl⟩
  have b2 : Below (N + 1) w1 w2 := by rw [← hw2]; exact (Below.refl _ _).alloc (by omega) _
  have h2 : Held w2 (N + 1) 107 #[.nilFunc, .nilFunc, .nilFunc] := by rw [← hw2, ← s1]; exact heap_alloc_new w1 _
  have c0 := h2.cell 0
  have c1 := h2.cell 1
  have c2 := h2.cell 2
  have f0 := h2.frozen 0
  have f1 := h2.frozen 1
  have f2 := h2.frozen 2
  simp at c0 c1 c2
  obtain ⟨F1, hF1⟩ : ∃ F, Value.func (.func 83) #[] #[] = F := ⟨_, rfl⟩
  obtain ⟨F2, hF2⟩ : ∃ F, Value.func (.func 85) #[] #[.pointer (some ⟨N, 0, none⟩)] = F := ⟨_, rfl⟩
  have p0 := h2.put 0 .nilFunc
  have p1 := p0.put 1 F1
  have p2 := p1.put 2 F2
  have q0 : (store ⟨N + 1, 0, none⟩ .nilFunc).run Try.prog w2 = .ok () (w2.setCell ⟨N + 1, 0, none⟩ .nilFunc) := by rw [run_store _ _ _ _ _ rfl, c0]; simp [f0]
  have q1 : (store ⟨N + 1, 1, none⟩ F1).run Try.prog (w2.setCell ⟨N + 1, 0, none⟩ .nilFunc) = .ok () ((w2.setCell ⟨N + 1, 0, none⟩ .nilFunc).setCell ⟨N + 1, 1, none⟩ F1) := by
    rw [run_store _ _ _ _ _ (by rw [← hF1]; rfl), p0.cell 1]; simp [p0.frozen 1]
  have q2 : (store ⟨N + 1, 2, none⟩ F2).run Try.prog ((w2.setCell ⟨N + 1, 0, none⟩ .nilFunc).setCell ⟨N + 1, 1, none⟩ F1) = .ok () (((w2.setCell ⟨N + 1, 0, none⟩ .nilFunc).setCell ⟨N + 1, 1, none⟩ F1).setCell ⟨N + 1, 2, none⟩ F2) := by
    rw [run_store _ _ _ _ _ (by rw [← hF2]; rfl), p1.cell 2]; simp [p1.frozen 2]
  obtain ⟨w3, hw3⟩ : ∃ w3, ((w2.setCell ⟨N + 1, 0, none⟩ .nilFunc).setCell ⟨N + 1, 1, none⟩ F1).setCell ⟨N + 1, 2, none⟩ F2 = w3 := ⟨_, rfl⟩
  rw [hw3] at q2 p2
  have HH1 := Lib.hid (show Held w3 N 103 #[.pointer (some ⟨D, 0, none⟩)] by rw [← hw3]; exact Held.other_put (Held.other_put (Held.other_put (h1.below b2 (by omega)) (by omega) _) (by omega) _) (by omega) _)
  have HB3 := Lib.hid (show Below N w w3 by rw [← hw3]; exact (((b1.trans (b2.mono (by omega))).setCell (Nat.le_succ N) _).setCell (Nat.le_succ N) _).setCell (Nat.le_succ N) _)
  have c0 := p2.cell 0
  have c1 := p2.cell 1
  have c2 := p2.cell 2
  simp at c0 c1 c2
  rw [← hF1] at q1 c1
  rw [← hF2] at q2 c2
  subst hF1 hF2
  rw [hN]
  clear h1 h2 b1 b2 p0 p1 p2 hw3
  go_enter Try.func55, Try.ntmps55
  go_wp2_with fail
  exact bodyPost_ret (v := TabV N) (by simp [results, Try.results55, go_sem, c0, c1, c2]) rfl ⟨N, rfl, HH1.out, Nat.le_refl _, HB3.out⟩
#print axioms table_any

set_option maxRecDepth 100000 in
theorem tab1_any (t n : Int) (s : Value) (h1 : -9223372036854775808 ≤ n) (h2 : n ≤ 9223372036854775807) (w : World) : Calls Try.prog 83 #[.agg #[.int .i64 t, .int .i64 n, s]] w fun e w' => e = .returned (.int .u64 (foldI n)) ∧ Below w.heap.size w w' := by
  have HF := Lib.hid (fun W => fold_any n h1 h2 W)
  generalize foldI n = y at HF ⊢
  have ba : Below w.heap.size w (w.alloc (.cells #[.int .i64 t, .int .i64 n, s] 61)) := (Below.refl _ _).alloc (Nat.le_refl _) _
  have hh : Held (w.alloc (.cells #[.int .i64 t, .int .i64 n, s] 61)) w.heap.size 61 #[.int .i64 t, .int .i64 n, s] := heap_alloc_new w _
  obtain ⟨w1, hw1⟩ : ∃ w1, w.alloc (.cells #[.int .i64 t, .int .i64 n, s] 61) = w1 := ⟨_, rfl⟩
  rw [hw1] at ba hh
  have x1 := hh.cell 1
  simp at x1
  go_enter Try.func83, Try.ntmps83
  go_wp2_with fail
  refine (HF.out _).mono ?_
  rintro e w2 ⟨rfl, rfl⟩
  go_wp2_with fail
  go_ret
  exact ⟨rfl, ba⟩
#print axioms tab1_any

set_option maxRecDepth 100000 in
theorem tab2_any {b D r x : Nat} {v : Value} {L : List (List Int)} (t n : Int) (s : List Int) (hs : TxB s) (w : World) (hx : Held w x 103 #[.pointer (some ⟨D, 0, none⟩)]) (hd : DictAt w b D r v L) (j : Nat) (hj : placeD L s = (j : Int)) (hl : j < 9223372036854775808) :
    Calls Try.prog 85 #[.agg #[.int .i64 t, .int .i64 n, .string (strOfNums s)], .pointer (some ⟨x, 0, none⟩)] w fun e w' => e = .returned (.int .u64 j) ∧ Below w.heap.size w w' := by
  have ba : Below w.heap.size w (w.alloc (.cells #[.int .i64 t, .int .i64 n, .string (strOfNums s)] 61)) := (Below.refl _ _).alloc (Nat.le_refl _) _
  have hh : Held (w.alloc (.cells #[.int .i64 t, .int .i64 n, .string (strOfNums s)] 61)) w.heap.size 61 #[.int .i64 t, .int .i64 n, .string (strOfNums s)] := heap_alloc_new w _
  have hxl := hx.lt
  obtain ⟨w1, hw1⟩ : ∃ w1, w.alloc (.cells #[.int .i64 t, .int .i64 n, .string (strOfNums s)] 61) = w1 := ⟨_, rfl⟩
  rw [hw1] at ba hh
  have HF := dfind_any (hd.below ba) s hs
  rw [hj, if_neg (by omega), decide_eq_true (by omega)] at HF
  have HF := Lib.hid HF
  have x2 := hh.cell 2
  have y0 := (hx.below ba hxl).cell 0
  simp at x2 y0
  clear hd hx hj
  go_enter Try.func85, Try.ntmps85
  go_wp2_with fail
  refine HF.out.mono ?_
  rintro e w2 ⟨rfl, rfl⟩
  go_wp2_with fail
  go_ret
  exact ⟨rfl, ba⟩
#print axioms tab2_any
/-- A function value is stored. -/
theorem store_func {P : Program} {w : World} {b i : Nat} {t : TypeId} {cs : Array Value} {u f : Value} (h : Held w b t cs) (hi : cs[i]? = some u) (hf : f.oneCell' = true) : (store ⟨b, i, none⟩ f).run P w = .ok () (w.setCell ⟨b, i, none⟩ f) := by
  rw [run_store _ _ _ _ _ hf, h.cell i, hi]
  simp [h.frozen i]
/-- What the table's variable is, laid and written. -/
theorem lay_table (w : World) (N x : Nat) (hN : w.heap.size = N) : ∃ w3, (store ⟨N, 0, none⟩ .nilFunc).run Try.prog (w.alloc (.cells #[.nilFunc, .nilFunc, .nilFunc] 107)) = .ok () (w.alloc (.cells #[.nilFunc, .nilFunc, .nilFunc] 107))
    ∧ (store ⟨N, 1, none⟩ (.func (.func 83) #[] #[])).run Try.prog (w.alloc (.cells #[.nilFunc, .nilFunc, .nilFunc] 107)) = .ok () (w.alloc (.cells #[.nilFunc, .func (.func 83) #[] #[], .nilFunc] 107))
    ∧ (store ⟨N, 2, none⟩ (.func (.func 85) #[] #[.pointer (some ⟨x, 0, none⟩)])).run Try.prog (w.alloc (.cells #[.nilFunc, .func (.func 83) #[] #[], .nilFunc] 107)) = .ok () w3
    ∧ Held w3 N 107 #[.nilFunc, .func (.func 83) #[] #[], .func (.func 85) #[] #[.pointer (some ⟨x, 0, none⟩)]] ∧ Below N w w3 ∧ w3.heap.size = N + 1 := by
  subst hN
  have h0 : Held (w.alloc (.cells #[.nilFunc, .nilFunc, .nilFunc] 107)) w.heap.size 107 #[.nilFunc, .nilFunc, .nilFunc] := heap_alloc_new w _
  have h1 : Held (w.alloc (.cells #[.nilFunc, .func (.func 83) #[] #[], .nilFunc] 107)) w.heap.size 107 #[.nilFunc, .func (.func 83) #[] #[], .nilFunc] := heap_alloc_new w _
  have q0 := store_func (P := Try.prog) (i := 0) (f := .nilFunc) h0 rfl rfl
  have q1 := store_func (P := Try.prog) (i := 1) (f := .func (.func 83) #[] #[]) h0 rfl rfl
  have q2 := store_func (P := Try.prog) (i := 2) (f := .func (.func 85) #[] #[.pointer (some ⟨x, 0, none⟩)]) h1 rfl rfl
  rw [World.setCell_alloc_new] at q0 q1 q2
  exact ⟨w.alloc (.cells #[.nilFunc, .func (.func 83) #[] #[], .func (.func 85) #[] #[.pointer (some ⟨x, 0, none⟩)]] 107), by simpa using q0, by simpa using q1, by simpa using q2, heap_alloc_new w _, (Below.refl _ _).alloc (Nat.le_refl _) _, by simp⟩
/-- What a writer's variable is, laid and written. -/
theorem lay_writer (w : World) (N : Nat) (f1 f2 : Value) (h1 : f1.oneCell' = true) (h2 : f2.oneCell' = true) (hN : w.heap.size = N) : ∃ w3, (store ⟨N, 0, none⟩ f1).run Try.prog (w.alloc (.cells #[.nilFunc, .nilFunc] 77)) = .ok () (w.alloc (.cells #[f1, .nilFunc] 77))
    ∧ (store ⟨N, 1, none⟩ f2).run Try.prog (w.alloc (.cells #[f1, .nilFunc] 77)) = .ok () w3
    ∧ Held w3 N 77 #[f1, f2] ∧ Below N w w3 ∧ w3.heap.size = N + 1 := by
  subst hN
  have i0 : Held (w.alloc (.cells #[.nilFunc, .nilFunc] 77)) w.heap.size 77 #[.nilFunc, .nilFunc] := heap_alloc_new w _
  have i1 : Held (w.alloc (.cells #[f1, .nilFunc] 77)) w.heap.size 77 #[f1, .nilFunc] := heap_alloc_new w _
  have q0 := store_func (P := Try.prog) (i := 0) (f := f1) i0 rfl h1
  have q1 := store_func (P := Try.prog) (i := 1) (f := f2) i1 rfl h2
  rw [World.setCell_alloc_new] at q0 q1
  exact ⟨w.alloc (.cells #[f1, f2] 77), by simpa using q0, by simpa using q1, heap_alloc_new w _, (Below.refl _ _).alloc (Nat.le_refl _) _, by simp⟩
abbrev TabVc (x : Nat) : Array Value := #[.nilFunc, .func (.func 83) #[] #[], .func (.func 85) #[] #[.pointer (some ⟨x, 0, none⟩)]]
abbrev argC (a : Ag) : Array Value := #[.int .i64 a.t, .int .i64 a.n, .string (strOfNums a.s)]
#print axioms lay_writer
end Go.Proofs.Ytlmpicfhbpnpbaa
