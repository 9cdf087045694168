/-
  What the theorem of WriteTakes rests on, part 8 of 11.
-/
import Derived.Maps.AppendAt
import Derived.Deep.QuietTactic
import Derived.BigQuiet
import Derived.Lib.SliceRun
import Derived.Lib.AppendZerosOnto
import Derived.WalkKit
import Derived.LoopTactic
import Derived.Deep.LoopGhost
import Derived.Deep.RegionHeld3
import Derived.Lib.MinMax
import Derived.Lib.SlBytesConst
import Derived.Lib.SmallJoins
import Derived.Deep.RegionLaw
import Derived.Deep.RegionHeldLaw
import Derived.Test.YtohibmjjhifggaaGreatWriteTakesZ7
namespace Go.Proofs.YtohibmjjhifggaaGreat
open Go.RowKit Go.ChangeShapes Go.WideShapes
set_option linter.unusedVariables false
/-- append of any row behind a row of the call's own: where the new row lies; the old slice reads as it did. -/
theorem run_append_keep {P : Program} (w : World) (base : Nat) (t ty e : TypeId) (i : TypeInfo) (z : Value) (size bytes : Nat) (ht : P.underlying t = some (.slice e)) (hi : P.info? e = some i) (hz : i.zero = some z)
    (hsize : i.size = size) (hby : i.bytes = bytes) (hzs : z.cells.size = size) (hsz : 0 < size) (v : Value) (n : Nat) (xs : List Value) (hown : w.ownsRow base e size v n xs)
    (B : Nat) (sv : Value) (m : Nat) (us : List Value) (hr : ERow w B sv m us) (hl : us.length = m * size) (h1 : ∀ u ∈ us, u.oneCell' = true) (h63 : n + m ≤ maxLen) (hbytes : (n + m) * bytes ≤ 140737488355328) (hbase : base ≤ w.heap.size) :
    ∃ v' w', (Builtin.append_ #[t, t] ty #[v, sv]).run P w = .ok v' w' ∧ w'.ownsRow base e size v' (n + m) (xs ++ us) ∧ w.grownBy w' v.ownBlock ∧ (v'.ownBlock = v.ownBlock ∨ v'.ownBlock = some w.heap.size) ∧ w'.ownsRow base e size v n xs := by
  obtain ⟨v', w', r1, r2, r3, r4⟩ := run_append_erow_at (P := P) w base t ty e i z size bytes ht hi hz hsize hby hzs hsz v n xs hown B sv m us hr hl h1 h63 hbytes hbase
  refine ⟨v', w', r1, r2, r3, r4, ?_⟩
  obtain ⟨A, c, rfl, q1, q2, q3, q4⟩ := hr
  rcases A with _ | ad
  · obtain rfl := q3 rfl
    obtain rfl : m = 0 := by omega
    rw [run_append_owned_none w base t ty e i size ht hi v n xs hown] at r1
    injection r1 with e1 e2
    subst e2
    exact hown
  · have hcell : ∀ j u, us[j]? = some u → w.cell? (ad.add j) = some u := fun j u hu => by
      have hj := (List.getElem?_eq_some_iff.1 hu).1
      have hm : 0 < m := by
        rcases Nat.eq_zero_or_pos m with h | h
        · rw [h] at hl; omega
        · exact h
      obtain ⟨b, o, he, _, hc⟩ := q4 hm
      injection he with he
      subst he
      rw [add_plain]
      exact hc j u hu
    rcases hown.2 with ⟨rfl, rfl⟩ | ⟨g, cap, cur, rfl, hbg, hg, hnc, hcm, hcs, htake⟩
    · exact ⟨hown.1, .inl ⟨rfl, rfl⟩⟩
    · subst hsize hby
      by_cases hroom : n + m ≤ cap
      · have hfit : n * i.size + us.length ≤ cur.size := by rw [hl, hcs, ← Nat.add_mul]; exact Nat.mul_le_mul_right _ hroom
        rw [run_append_room (P := P) w t ty e i ht hi g n cap cur hg ad m c us hl hcell h1 hroom hfit] at r1
        injection r1 with e1 e2
        subst e2
        refine ⟨hown.1, .inr ⟨g, cap, _, rfl, hbg, setRow_heap w g cur _ e _ hg, hnc, hcm, ?_, ?_⟩⟩
        · simp only [List.size_toArray, List.length_append, List.length_take, List.length_drop, Array.length_toList]
          omega
        · have hx : (cur.toList.take (n * i.size)).length = n * i.size := by rw [htake]; exact hown.1
          rw [List.append_assoc, List.take_append_of_le_length (by omega), List.take_of_length_le (by omega)]
          exact htake
      · have hs : n + m ≤ 9223372036854775807 := by unfold maxLen at h63; omega
        rw [run_append_grow (P := P) w t ty e i z ht hi hz ⟨g, 0, none⟩ n cap xs hown.1 (hown.cells (g := g) rfl) ad m c us hl hcell (by omega) (by omega) (growslice_fits (by omega) hbytes)] at r1
        injection r1 with e1 e2
        subst e2
        exact hown.drew.alloc _
/-- The same as a step of a walk. -/
theorem wpList_append_keep {P : Program} (w : World) {ops : Array Oper} {rest : List Oper} {o : Oper} {a : Act} {Q : Exit → Act → World → Prop}
    (hg : o.guard = none) (s x : Operand) (t e : TypeId) (hop : o.op = Op.call { callee := Callee.builtin Builtin.append, args := #[s, x], argTypes := #[t, t] })
    (base : Nat) (i : TypeInfo) (z : Value) (size bytes : Nat) (ht : P.underlying t = some (.slice e)) (hi : P.info? e = some i) (hz : i.zero = some z) (hsize : i.size = size) (hby : i.bytes = bytes) (hzs : z.cells.size = size) (hsz : 0 < size)
    (v : Value) (n : Nat) (xs : List Value) (hs : a.eval s = v) (hown : w.ownsRow base e size v n xs) (B : Nat) (sv : Value) (m : Nat) (us : List Value) (hx : a.eval x = sv) (hr : ERow w B sv m us) (hl : us.length = m * size) (h1 : ∀ u ∈ us, u.oneCell' = true)
    (h63 : n + m ≤ maxLen) (hbytes : (n + m) * bytes ≤ 140737488355328) (hbase : base ≤ w.heap.size) (N : Nat) (hN : n + m = N) (ys : List Value) (hys : xs ++ us = ys)
    (hK : ∀ A c w', w'.ownsRow base e size (.slice A N c) N ys → w.grownBy w' v.ownBlock → ((Value.slice A N c).ownBlock = v.ownBlock ∨ (Value.slice A N c).ownBlock = some w.heap.size) → w'.ownsRow base e size v n xs → wpList P ops Q rest (a.put o.dst (.slice A N c)) w') :
    wpList P ops Q (o :: rest) a w := by
  subst hN hys
  obtain ⟨v', w', hrun, h2, h3, h4, h5⟩ := run_append_keep (P := P) w base t o.type e i z size bytes ht hi hz hsize hby hzs hsz v n xs hown B sv m us hr hl h1 h63 hbytes hbase
  obtain ⟨A, c, rfl⟩ := own_form h2
  refine wpList_plain hg fun K hK' => ?_
  unfold Oper.wp
  simp [execOp, hop, resolve, invoke, builtin, hs, hx, hrun, Result.andThen]
  exact hK' _ _ (hK A c w' h2 h3 h4 h5)
/-- A block that may be turned doesn't have cells of a type. -/
def NotT (w : World) (r : Option Nat) (e : TypeId) : Prop := ∀ j c f, r = some j → w.heap[j]? ≠ some (.cells c e f)
section
variable {w w' : World} {r : Option Nat} {e f : TypeId} {n m k j sz st : Nat} {u v : Value} {us vs : List Value}
theorem NotT.of_held {cs : Array Value} {g : Nat} (h : Held w g f cs) (hne : f ≠ e) : NotT w (some g) e := by
  rintro j c z hj hh
  injection hj with hj
  subst hj
  rw [show w.heap[g]? = _ from h] at hh
  injection hh with hh
  injection hh with _ h2 _
  exact hne h2
theorem NotT.of_own (h : w.ownsRow m f sz v k us) (hne : f ≠ e) : NotT w v.ownBlock e := by
  rintro j c z hj hh
  rcases h.2 with ⟨rfl, _⟩ | ⟨g, cap, cur, rfl, _, hg, _⟩
  · simp [Value.ownBlock] at hj
  · obtain rfl : g = j := by simpa [Value.ownBlock] using hj
    rw [hg] at hh
    injection hh with hh
    injection hh with _ h2 _
    exact hne h2
theorem NotT.ne (hn : NotT w r e) (h : w.ownsRow n e sz u k us) : u.ownBlock = none ∨ u.ownBlock ≠ r := by
  rcases h.2 with ⟨rfl, _⟩ | ⟨g, cap, cur, rfl, _, hg, _⟩
  · exact .inl rfl
  · exact .inr fun h2 => hn g cur (0, 0) h2.symm hg
theorem own_nott (h : w.ownsRow n e sz u k us) (hn : NotT w r e) (hg : w.grownBy w' r) : w'.ownsRow n e sz u k us := h.kept hg (hn.ne h)
theorem OwnE.nott {es : List Em} (h : OwnE w n u es) (h1 : NotT w r 75) (h2 : NotT w r 73) (hg : w.grownBy w' r) : OwnE w' n u es :=
  ⟨own_nott h.1 h2 hg, fun d hd => ⟨own_nott (h.2 d hd).1 h1 hg, (h.2 d hd).2⟩⟩
theorem OwnT.nott {ps : List Pm} (h : OwnT w n u ps) (h1 : NotT w r 75) (h2 : NotT w r 73) (h3 : u.ownBlock = none ∨ u.ownBlock ≠ r) (hg : w.grownBy w' r) : OwnT w' n u ps :=
  ⟨h.1.kept hg h3, fun d hd => ⟨(h.2 d hd).1.nott h1 h2 hg, (h.2 d hd).2⟩⟩
theorem OwnK.nott {bs : List Bk} (h : OwnK w n v bs) (h1 : NotT w r 75) (h2 : NotT w r 73) (h3 : NotT w r 23) (h4 : ∀ b ∈ bs, b.val.ownBlock = none ∨ b.val.ownBlock ≠ r) (hg : w.grownBy w' r) : OwnK w' n v bs :=
  ⟨own_nott h.1 h3 hg, fun b hb => (h.2 b hb).nott h1 h2 (h4 b hb) hg⟩
theorem tne1 : 35 ≠ 75 := by decide
theorem tne2 : 35 ≠ 73 := by decide
theorem tne3 : 35 ≠ 23 := by decide
theorem tne4 : 23 ≠ 75 := by decide
theorem tne5 : 23 ≠ 73 := by decide
theorem tne6 : 23 ≠ 35 := by decide
theorem tne7 : 59 ≠ 75 := by decide
theorem tne8 : 59 ≠ 73 := by decide
theorem tne9 : 59 ≠ 35 := by decide
theorem tne10 : 59 ≠ 23 := by decide
/-- The points of two rows in one. -/
theorem OwnT.joined {ps qs : List Pm} {v' : Value} (h : OwnT w n v ps) (q : OwnT w m u qs) (hm : n ≤ m) (ho : w'.ownsRow n 35 2 v' (ps ++ qs).length (flatN (ps ++ qs))) (hg : w.grownBy w' v.ownBlock) : OwnT w' n v' (ps ++ qs) := by
  have n1 := NotT.of_own h.1 tne1
  have n2 := NotT.of_own h.1 tne2
  refine ⟨ho, fun d hd => ?_⟩
  rcases List.mem_append.1 hd with hd | hd
  · exact ⟨(h.2 d hd).1.nott n1 n2 hg, (h.2 d hd).2⟩
  · exact ⟨((q.2 d hd).1.base hm).nott n1 n2 hg, (q.2 d hd).2⟩
theorem PartN.of_grown {S : Nat → Prop} (h : w.grownBy w' r) (hr : ∀ j, r = some j → S j) : PartN S w w' := ⟨h.os, h.tape, h.output, h.size, fun i hi hn => h.block i hi (fun e => hn (hr i e.symm))⟩
theorem PartN.more {S T : Nat → Prop} (h : PartN S w w') (hs : ∀ j, S j → T j) : PartN T w w' := ⟨h.os, h.tape, h.output, h.size, fun i hi hn => h.block i hi (fun x => hn (hs i x))⟩
end
/-- The block of an address. -/
def ob : Option Addr → Option Nat
  | some a => some a.block
  | none => none
theorem ob_own (A : Option Addr) (n c : Nat) : (Value.slice A n c).ownBlock = ob A := by cases A <;> rfl
/-- The last block; none. -/
def lastB (bs : List Bk) : Bk := bs.getLast?.getD ⟨none, 0, []⟩
theorem lastB_nil : lastB [] = ⟨none, 0, []⟩ := rfl
theorem lastB_snoc (bs : List Bk) (b : Bk) : lastB (bs ++ [b]) = b := by unfold lastB; rw [List.getLast?_concat]; rfl
/-- The blocks that a writer's calls turn: its own, that of its blocks, those of their points. -/
def WS (g : Nat) (KA : Option Addr) (bs : List Bk) (j : Nat) : Prop := j = g ∨ ob KA = some j ∨ ∃ b ∈ bs, ob b.A = some j
/-- A writer. -/
structure WAt (w : World) (n g : Nat) (A : Option Addr) (c : Nat) (ds : List Pd) (most : Int) (bg cl : Bool) (KA : Option Addr) (kc : Nat) (bs : List Bk) : Prop where
  held : Held w g 59 #[.slice A ds.length c, .int .i64 most, .bool bg, .slice KA bs.length kc, .bool cl]
  low : n ≤ g
  sig : PredRow w n (.slice A ds.length c) ds
  blk : OwnK w n (.slice KA bs.length kc) bs
  dif : ∀ (i j : Nat) (x y : Bk) (k : Nat), bs[i]? = some x → bs[j]? = some y → i ≠ j → ob x.A = some k → ob y.A ≠ some k
section
variable {w w' w1 : World} {n g c kc : Nat} {A KA : Option Addr} {ds : List Pd} {most : Int} {bg cl : Bool} {bs : List Bk}
theorem WAt.lt (h : WAt w n g A c ds most bg cl KA kc bs) {j : Nat} (hj : WS g KA bs j) : n ≤ j ∧ j < w.heap.size := by
  rcases hj with rfl | hj | ⟨b, hb, hj⟩
  · exact ⟨h.low, h.held.lt⟩
  · exact World.ownsRow.lt h.blk.1 j (by rw [ob_own]; exact hj)
  · exact World.ownsRow.lt (h.blk.2 b hb).1 j (by rw [ob_own]; exact hj)
theorem WAt.size (h : WAt w n g A c ds most bg cl KA kc bs) : n ≤ w.heap.size := by have := h.held.lt; have := h.low; omega
theorem WAt.below (h : WAt w n g A c ds most bg cl KA kc bs) (hb : Below w.heap.size w w') : WAt w' n g A c ds most bg cl KA kc bs :=
  ⟨h.held.below hb h.held.lt, h.low, h.sig.below (hb.mono h.size), h.blk.below hb, h.dif⟩
/-- What grows behind the caller's points turns no writer. -/
theorem WAt.grown {m k : Nat} {vx : Value} {us : List Value} (h : WAt w n g A c ds most bg cl KA kc bs) (hx : w.ownsRow m 35 2 vx k us) (hd : ∀ j, vx.ownBlock = some j → ¬ WS g KA bs j) (hm : n ≤ m) (hg : w.grownBy w' vx.ownBlock) : WAt w' n g A c ds most bg cl KA kc bs := by
  have hlow : ∀ j, vx.ownBlock = some j → n ≤ j := fun j e => Nat.le_trans hm (World.ownsRow.lt hx j e).1
  refine ⟨h.held.grown hg (fun e => hd g e.symm (.inl rfl)), h.low, h.sig.below ((Below.refl n w).grown hg h.size hlow), h.blk.nott (NotT.of_own hx tne1) (NotT.of_own hx tne2) (NotT.of_own hx tne3) (fun b hb => ?_) hg, h.dif⟩
  cases hb2 : b.val.ownBlock with
  | none => exact .inl rfl
  | some j => exact .inr fun e => hd j e.symm (.inr (.inr ⟨b, hb, by rw [← hb2, ob_own]⟩))
/-- What is laid behind the last block's points, beyond them, turns no writer. -/
theorem WAt.onto {bi : List Bk} {b : Bk} (h : WAt w n g A c ds most bg cl KA kc bs) (hbs : bs = bi ++ [b]) (hg : w.grownBy w' b.val.ownBlock) (ho : w'.ownsRow n 35 2 b.val b.ps.length (flatN b.ps)) : WAt w' n g A c ds most bg cl KA kc bs := by
  have hmem : b ∈ bs := by rw [hbs]; simp
  have hT := h.blk.2 b hmem
  have n1 := NotT.of_own hT.1 tne1
  have n2 := NotT.of_own hT.1 tne2
  have n3 := NotT.of_own hT.1 tne3
  have hlow : ∀ j, b.val.ownBlock = some j → n ≤ j := fun j e => (World.ownsRow.lt hT.1 j e).1
  refine ⟨h.held.grown hg (own_not_held hT.1 h.held tne9.symm), h.low, h.sig.below ((Below.refl n w).grown hg h.size hlow), ⟨own_nott h.blk.1 n3 hg, fun x hx => ?_⟩, h.dif⟩
  obtain ⟨i, hi⟩ := List.mem_iff_getElem?.1 hx
  by_cases hib : i = bi.length
  · subst hib
    rw [hbs, List.getElem?_append_right (Nat.le_refl _)] at hi
    simp at hi
    subst hi
    exact ⟨ho, fun d hd => ⟨(hT.2 d hd).1.nott n1 n2 hg, (hT.2 d hd).2⟩⟩
  · refine (h.blk.2 x hx).nott n1 n2 ?_ hg
    cases hb2 : x.val.ownBlock with
    | none => exact .inl rfl
    | some j =>
      refine .inr fun e => h.dif i bi.length x b j hi (by rw [hbs, List.getElem?_append_right (Nat.le_refl _)]; simp) hib (by rw [← hb2, ob_own]) (by rw [e, ob_own])
/-- The last block's points are others. -/
theorem WAt.set {bi : List Bk} {b b' : Bk} (h : WAt w n g A c ds most bg cl KA kc bs) (hbs : bs = bi ++ [b]) (hT : OwnT w n b'.val b'.ps) (hn : ∀ j, ob b'.A = some j → ob b.A = some j ∨ ∀ x ∈ bs, ob x.A ≠ some j) :
    ∃ q, KA = some ⟨q, 0, none⟩ ∧ w.cell? ⟨q, bi.length, none⟩ = some b.val ∧ w.frozen? ⟨q, bi.length, none⟩ = false ∧ WAt (w.setCell ⟨q, bi.length, none⟩ b'.val) n g A c ds most bg cl KA kc (bi ++ [b']) := by
  have hl : bs.length = bi.length + 1 := by rw [hbs]; simp
  have hat : (bkVs bs)[bi.length]? = some b.val := bkVs_at (by rw [hbs, List.getElem?_append_right (Nat.le_refl _)]; simp)
  obtain ⟨q, rfl, hq, hc, hf, hs⟩ := own_store h.blk.1 (by omega) hat
  have hg := grown_put w q bi.length b'.val
  have hob : (Value.slice (some ⟨q, 0, none⟩) bs.length kc).ownBlock = some q := rfl
  have n1 : NotT w (some q) 75 := by rw [← hob]; exact NotT.of_own h.blk.1 tne4
  have n2 : NotT w (some q) 73 := by rw [← hob]; exact NotT.of_own h.blk.1 tne5
  have n3 : NotT w (some q) 35 := by rw [← hob]; exact NotT.of_own h.blk.1 tne6
  have hgq : some g ≠ some q := by rw [← hob]; exact own_not_held h.blk.1 h.held tne10.symm
  have hl2 : (bi ++ [b']).length = bs.length := by rw [hl]; simp
  have hset : (bkVs bs).set bi.length b'.val = bkVs (bi ++ [b']) := by
    rw [hbs]
    unfold bkVs
    rw [List.map_append, List.map_append, List.set_append_right _ _ (by simp)]
    simp
  refine ⟨q, rfl, hc, hf, ?_, h.low, h.sig.below ((Below.refl n w).grown hg h.size (fun j e => by injection e with e; omega)), ⟨?_, fun x hx => ?_⟩, ?_⟩
  · rw [hl2]; exact h.held.grown hg hgq
  · rw [hl2, ← hset]; exact hs b'.val
  · rcases List.mem_append.1 hx with hx | hx
    · have hT2 := h.blk.2 x (by rw [hbs]; exact List.mem_append_left _ hx)
      exact hT2.nott n1 n2 (n3.ne hT2.1) hg
    · rw [List.mem_singleton.1 hx]
      exact hT.nott n1 n2 (n3.ne hT.1) hg
  · have key : ∀ (i : Nat) (x : Bk) (k : Nat), (bi ++ [b'])[i]? = some x → ob x.A = some k → (i < bi.length ∧ bs[i]? = some x) ∨ (i = bi.length ∧ x = b') := by
      intro i x k hi _
      by_cases hlt : i < bi.length
      · rw [List.getElem?_append_left hlt] at hi
        exact .inl ⟨hlt, by rw [hbs, List.getElem?_append_left hlt]; exact hi⟩
      · have hi2 := (List.getElem?_eq_some_iff.1 hi).1
        rw [List.length_append, List.length_singleton] at hi2
        obtain rfl : i = bi.length := by omega
        rw [List.getElem?_append_right (Nat.le_refl _)] at hi
        simp at hi
        exact .inr ⟨rfl, hi.symm⟩
    have hbl : bs[bi.length]? = some b := by rw [hbs, List.getElem?_append_right (Nat.le_refl _)]; simp
    intro i j x y k hi hj hij hx hy
    rcases key i x k hi hx with ⟨a1, a2⟩ | ⟨a1, a2⟩
    · rcases key j y k hj hy with ⟨b1, b2⟩ | ⟨b1, b2⟩
      · exact h.dif i j x y k a2 b2 hij hx hy
      · subst b2
        rcases hn k hy with hk | hk
        · exact h.dif i bi.length x b k a2 hbl (by omega) hx hk
        · exact hk x (List.mem_of_getElem? a2) hx
    · subst a2
      rcases key j y k hj hy with ⟨b1, b2⟩ | ⟨b1, b2⟩
      · rcases hn k hx with hk | hk
        · exact h.dif bi.length j b y k hbl b2 (by omega) hk hy
        · exact hk y (List.mem_of_getElem? b2) hy
      · omega
/-- One more block. -/
theorem WAt.more {b : Bk} {A1 : Option Addr} {c1 : Nat} (h : WAt w n g A c ds most bg cl KA kc bs) (hT : OwnT w n b.val b.ps) (hn : ∀ j, ob b.A = some j → ∀ x ∈ bs, ob x.A ≠ some j)
    (ho : w1.ownsRow n 23 1 (.slice A1 (bs.length + 1) c1) (bs.length + 1) (bkVs (bs ++ [b]))) (hg : w.grownBy w1 (Value.slice KA bs.length kc).ownBlock) :
    Held w1 g 59 #[.slice A ds.length c, .int .i64 most, .bool bg, .slice KA bs.length kc, .bool cl] ∧ WAt (w1.setCell ⟨g, 3, none⟩ (.slice A1 (bs.length + 1) c1)) n g A c ds most bg cl A1 c1 (bs ++ [b]) := by
  have hh : Held w1 g 59 #[.slice A ds.length c, .int .i64 most, .bool bg, .slice KA bs.length kc, .bool cl] := h.held.grown hg (own_not_held h.blk.1 h.held tne10.symm)
  have hlow : ∀ j, (Value.slice KA bs.length kc).ownBlock = some j → n ≤ j := fun j e => (World.ownsRow.lt h.blk.1 j e).1
  have hl2 : (bs ++ [b]).length = bs.length + 1 := by simp
  have n1 := NotT.of_own h.blk.1 tne4
  have n2 := NotT.of_own h.blk.1 tne5
  have n3 := NotT.of_own h.blk.1 tne6
  have hg2 := grown_put w1 g 3 (.slice A1 (bs.length + 1) c1)
  have m1 := NotT.of_held hh tne7
  have m2 := NotT.of_held hh tne8
  have m3 := NotT.of_held hh tne9
  have m4 := NotT.of_held hh tne10
  have hsg := (h.sig.below ((Below.refl n w).grown hg h.size hlow)).below ((Below.refl n w1).grown hg2 (Nat.le_trans h.size hg.size) (fun j e => by injection e with e; have := h.low; omega))
  refine ⟨hh, ?_, h.low, hsg, ⟨?_, fun x hx => ?_⟩, ?_⟩
  · rw [hl2]; exact hh.put 3 _
  · rw [hl2]; exact own_nott ho m4 hg2
  · have hx2 : OwnT w1 n x.val x.ps := by
      rcases List.mem_append.1 hx with hx | hx
      · exact (h.blk.2 x hx).nott n1 n2 (n3.ne (h.blk.2 x hx).1) hg
      · rw [List.mem_singleton.1 hx]
        exact hT.nott n1 n2 (n3.ne hT.1) hg
    exact hx2.nott m1 m2 (m3.ne hx2.1) hg2
  · have key : ∀ (i : Nat) (x : Bk), (bs ++ [b])[i]? = some x → (i < bs.length ∧ bs[i]? = some x) ∨ (i = bs.length ∧ x = b) := by
      intro i x hi
      by_cases hlt : i < bs.length
      · rw [List.getElem?_append_left hlt] at hi
        exact .inl ⟨hlt, hi⟩
      · have hi2 := (List.getElem?_eq_some_iff.1 hi).1
        rw [List.length_append, List.length_singleton] at hi2
        obtain rfl : i = bs.length := by omega
        rw [List.getElem?_append_right (Nat.le_refl _)] at hi
        simp at hi
        exact .inr ⟨rfl, hi.symm⟩
    intro i j x y k hi hj hij hx hy
    rcases key i x hi with ⟨a1, a2⟩ | ⟨a1, a2⟩
    · rcases key j y hj with ⟨b1, b2⟩ | ⟨b1, b2⟩
      · exact h.dif i j x y k a2 b2 hij hx hy
      · subst b2
        exact hn k hy x (List.mem_of_getElem? a2) hx
    · subst a2
      rcases key j y hj with ⟨b1, b2⟩ | ⟨b1, b2⟩
      · exact hn k hx y (List.mem_of_getElem? b2) hy
      · omega
/-- The last block is read. -/
theorem WAt.last (h : WAt w n g A c ds most bg cl KA kc bs) : OwnT w n (lastB bs).val (lastB bs).ps := by
  rcases List.eq_nil_or_concat bs with hb | ⟨bi, b, hb⟩
  · rw [hb]; exact OwnT.nil _ _
  · rw [List.concat_eq_append] at hb
    rw [hb, lastB_snoc]
    exact h.blk.2 b (by rw [hb]; simp)
end
end Go.Proofs.YtohibmjjhifggaaGreat

namespace Go.Proofs.YtohibmjjhifggaaGreat
open Go.RowKit Go.ChangeShapes Go.WideShapes
set_option linter.unusedVariables false
section
variable {w : World} {n g c kc : Nat} {A KA : Option Addr} {ds : List Pd} {most : Int} {bg cl : Bool} {bs : List Bk}
theorem WAt.cells (h : WAt w n g A c ds most bg cl KA kc bs) : w.cell? ⟨g, 0, none⟩ = some (.slice A ds.length c) ∧ w.cell? ⟨g, 1, none⟩ = some (.int .i64 most) ∧ w.cell? ⟨g, 2, none⟩ = some (.bool bg) ∧
    w.cell? ⟨g, 3, none⟩ = some (.slice KA bs.length kc) ∧ w.cell? ⟨g, 4, none⟩ = some (.bool cl) := by
  have h0 := h.held.cell 0
  have h1 := h.held.cell 1
  have h2 := h.held.cell 2
  have h3 := h.held.cell 3
  have h4 := h.held.cell 4
  simp at h0 h1 h2 h3 h4
  exact ⟨h0, h1, h2, h3, h4⟩
set_option maxRecDepth 100000 in
set_option maxHeartbeats 1000000 in
theorem wlast_any (h : WAt w n g A c ds most bg cl KA kc bs) :
    Calls Tryz.prog 27 #[.pointer (some ⟨g, 0, none⟩)] w fun e w' => e = .returned (lastB bs).val ∧ Below w.heap.size w w' := by
  obtain ⟨-, -, -, h3, -⟩ := h.cells
  have hlt := h.held.lt
  rcases List.eq_nil_or_concat bs with hb | ⟨bi, b, hb⟩
  · subst hb
    rw [lastB_nil]
    rw [List.length_nil] at h3
    clear h
    go_enter Tryz.func27, Tryz.ntmps27
    go_wp2_with fail
    go_ret
    exact ⟨rfl, Below.refl _ _⟩
  · rw [List.concat_eq_append] at hb
    have hat : (bkVs bs)[bi.length]? = some b.val := bkVs_at (by rw [hb, List.getElem?_append_right (Nat.le_refl _)]; simp)
    obtain ⟨q, rfl, hq, hc, hf, hs⟩ := own_store h.blk.1 (by rw [hb]; simp) hat
    have hm := h.blk.1.2
    obtain ⟨-, l1, l2⟩ := (ERow.of_own h.blk.1).len
    have hl : bs.length = bi.length + 1 := by rw [hb]; simp
    rw [hb, lastB_snoc]
    rw [hl] at h3 l1
    generalize bi.length = m at hc h3 l1
    clear h hat hf hs hm hl hb hq
    have e1 : (0 : Int) ≤ m := by omega
    have e2 : ¬ ((m : Int) < 0) := by omega
    go_enter Tryz.func27, Tryz.ntmps27
    go_wp2_with fail
    go_quiet (fail)
    go_wp2_with fail
    go_ret
    exact ⟨rfl, ⟨rfl, rfl, rfl, Nat.le_refl _, fun _ _ => rfl⟩⟩
set_option maxRecDepth 100000 in
set_option maxHeartbeats 1000000 in
theorem wfit_any (h : WAt w n g A c ds most bg cl KA kc bs) (T : Option Addr) (ct : Nat) (ps : List Pm) (ht : TrRow w w.heap.size (.slice T ps.length ct) ps) :
    Calls Tryz.prog 28 #[.pointer (some ⟨g, 0, none⟩), .slice T ps.length ct] w fun e w' => e = .returned (.bool (decide ((ps.length : Int) ≤ most) && fitB (ds.map (·.p)) ps)) ∧ Below w.heap.size w w' := by
  obtain ⟨h0, h1, -, -, -⟩ := h.cells
  have hlt := h.held.lt
  have HP := Lib.hid (blput_any A c ds T ct ps w (h.sig.more h.size) ht)
  unfold fitB
  generalize putB (ds.map (·.p)) ps = R at HP ⊢
  obtain ⟨-, l1, l2⟩ := ht.1.len
  clear h ht
  generalize ps.length = k at HP l1 ⊢
  by_cases hk : (k : Int) ≤ most
  · rw [decide_eq_true hk, Bool.true_and]
    have hk2 : ¬ (most < (k : Int)) := by omega
    have hk3 : ¬ ((k : Int) > most) := by omega
    by_cases hr : R.2 = 0
    · rw [hr, decide_eq_true rfl]
      go_enter Tryz.func28, Tryz.ntmps28
      go_wp2_with fail
      refine HP.out.mono ?_
      rintro e w1 ⟨A1, c1, rfl, hown, hb1⟩
      rw [hr]
      clear hown
      go_wp2_with fail
      go_ret
      exact ⟨rfl, hb1⟩
    · have hne : (R.2 == 0) = false := beq_eq_false_iff_ne.2 hr
      rw [decide_eq_false hr]
      go_enter Tryz.func28, Tryz.ntmps28
      go_wp2_with fail
      refine HP.out.mono ?_
      rintro e w1 ⟨A1, c1, rfl, hown, hb1⟩
      clear hown
      go_wp2_with fail
      go_ret
      exact ⟨rfl, hb1⟩
  · rw [decide_eq_false hk, Bool.false_and]
    have hk2 : most < (k : Int) := by omega
    have hk3 : (k : Int) > most := by omega
    clear HP
    go_enter Tryz.func28, Tryz.ntmps28
    go_wp2_with fail
    go_ret
    exact ⟨rfl, Below.refl _ _⟩
theorem wframes_any (w : World) (p : Option Addr) (q : Int) : Calls Tryz.prog 47 #[.pointer p, .int .i64 q] w fun e w' =>
    e = .returned (.func (.func 68) #[] #[.pointer (some ⟨w.heap.size, 0, none⟩), .pointer (some ⟨w.heap.size + 1, 0, none⟩)]) ∧ w' = (w.alloc (.cells #[.pointer p] 27)).alloc (.cells #[.int .i64 q] 3) := by
  go_enter Tryz.func47, Tryz.ntmps47
  go_wp2_with fail
  go_ret
  exact ⟨rfl, rfl⟩
end
theorem Tryz.infoBlocks : (Tryz.prog.info? 23).map (fun i => (i.zero, i.size, i.bytes)) = some (some (.slice none 0 0), 1, 24) := by kernel_rfl
set_option maxRecDepth 100000 in
set_option maxHeartbeats 1000000 in
/-- slices.Clone of blocks. -/
theorem bclone_any (w : World) (C : Option Addr) (cc : Nat) (bs : List Bk) (hrow : ERow w w.heap.size (.slice C bs.length cc) bs.length (bkVs bs)) (hl : bs.length ≤ 1000000000) :
    Calls Tryz.prog 48 #[.slice C bs.length cc] w fun e w' => ∃ C2 c2, e = .returned (.slice C2 bs.length c2) ∧ w'.ownsRow w.heap.size 23 1 (.slice C2 bs.length c2) bs.length (bkVs bs) ∧ Below w.heap.size w w' := by
  obtain ⟨i1, hi1, hy0, hy1, hy2⟩ := info_parts Tryz.infoBlocks
  obtain ⟨-, l1, l2⟩ := hrow.len
  have h1 : ∀ u ∈ bkVs bs, u.oneCell' = true := by
    intro u hu
    unfold bkVs at hu
    obtain ⟨b, _, rfl⟩ := List.mem_map.1 hu
    rfl
  have hlen : (bkVs bs).length = bs.length := by unfold bkVs; rw [List.length_map]
  rcases C with _ | ad
  · have h0 : bs.length = 0 := by
      obtain ⟨A', c', hv, q1, q2, q3, q4⟩ := hrow
      injection hv with e1 e2 e3
      subst e1 e3
      have := q3 rfl
      omega
    obtain rfl : cc = 0 := by
      obtain ⟨A', c', hv, q1, q2, q3, q4⟩ := hrow
      injection hv with e1 e2 e3
      subst e1 e3
      exact q3 rfl
    rw [List.length_eq_zero_iff.1 h0]
    clear hrow
    have hnl := Lib.run_eql_slice_nil (P := Tryz.prog) w 57 23 none 0 0 0 0 Tryz.underlying57
    go_enter Tryz.func48, Tryz.ntmps48
    go_wp2_with fail
    go_ret
    exact ⟨none, 0, rfl, World.ownsRow_nil _ _ _ _, Below.refl _ _⟩
  · have ba := (Below.refl w.heap.size w).alloc (Nat.le_refl _) (.cells #[] 23)
    have hno := own_none (w := w) (base := w.heap.size) (e := 23) (size := 1) (Nat.le_refl _)
    have HR2 := Lib.hid (hrow.below ba)
    have HNO := Lib.hid hno
    have HB := Lib.hid ba
    clear hrow hno ba
    generalize bs.length = k at *
    have hnl := Lib.run_eql_slice_nil (P := Tryz.prog) w 57 23 (some ad) k cc 0 0 Tryz.underlying57
    go_enter Tryz.func48, Tryz.ntmps48
    go_wp2_with (at_builtin; refine wpList_append_erow _ rfl _ _ 57 23 rfl w.heap.size i1 (.slice none 0 0) 1 24 Tryz.underlying57 hi1 hy0 hy1 hy2 rfl (by decide) (.slice (some ⟨w.heap.size, 0, none⟩) 0 0) 0 [] (by rfl) HNO.out _ _ k (bkVs bs) (by rfl) HR2.out (by omega) h1 (by unfold maxLen; omega) (by omega) (by rw [World.size_alloc]; omega) k (by omega) (bkVs bs) (by simp) ?_; intro A6 c6 w6 hown6 hg6 hat6; have HO6 := Lib.hid hown6; have HG6 := Lib.hid hg6; clear hown6 hg6 hat6)
    go_ret
    have hlow : ∀ j, (Value.slice (some (⟨w.heap.size, 0, none⟩ : Addr)) 0 0).ownBlock = some j → w.heap.size ≤ j := fun j e => Nat.le_of_eq (by simpa [Value.ownBlock] using e)
    exact ⟨A6, c6, rfl, HO6.out, HB.out.grown HG6.out (by rw [World.size_alloc]; omega) hlow⟩
end Go.Proofs.YtohibmjjhifggaaGreat

namespace Go.Proofs.YtohibmjjhifggaaGreat
open Go.RowKit Go.ChangeShapes Go.WideShapes
set_option linter.unusedVariables false
/-- append, as a step of a walk, where it is known what it answers. -/
theorem wpList_append_run {P : Program} (w : World) {ops : Array Oper} {rest : List Oper} {o : Oper} {a : Act} {Q : Exit → Act → World → Prop}
    (hg : o.guard = none) (s x : Operand) (t tx : TypeId) (hop : o.op = Op.call { callee := Callee.builtin Builtin.append, args := #[s, x], argTypes := #[t, tx] })
    (v xv r : Value) (w' : World) (hs : a.eval s = v) (hx : a.eval x = xv) (hrun : (Builtin.append_ #[t, tx] o.type #[v, xv]).run P w = .ok r w') (hK : wpList P ops Q rest (a.put o.dst r) w') :
    wpList P ops Q (o :: rest) a w := by
  refine wpList_plain hg fun K hK' => ?_
  unfold Oper.wp
  simp [execOp, hop, resolve, invoke, builtin, hs, hx, hrun, Result.andThen]
  exact hK' _ _ hK
set_option maxRecDepth 100000 in
set_option maxHeartbeats 2000000 in
/-- Room for points. -/
theorem pgrow_any (w : World) (n : Nat) (hn : n ≤ 1000000000) :
    Calls Tryz.prog 59 #[.slice none 0 0, .int .i64 n] w fun e w' => ∃ A c, e = .returned (.slice A 0 c) ∧ w'.ownsRow w.heap.size 35 2 (.slice A 0 c) 0 [] ∧ Below w.heap.size w w' := by
  obtain ⟨i1, hi1, hy0, hy1, hy2⟩ := info_parts Tryz.infoPoint
  rcases Nat.eq_zero_or_pos n with rfl | h0
  · go_enter Tryz.func59, Tryz.ntmps59
    go_wp2_with fail
    go_ret
    exact ⟨none, 0, rfl, World.ownsRow_nil _ _ _ _, Below.refl _ _⟩
  · have h1 : (0 : Int) < n := by omega
    have h2 : ¬ ((n : Int) < 0) := by omega
    have hold : (Builtin.firstCells i1.size 0 (.slice none 0 0)).run Tryz.prog w.drew = .ok (#[] : Array Value) w.drew := run_firstCells_none w.drew i1.size 0 0 0
    have hrz := Lib.run_append_grow_zeros (P := Tryz.prog) w 23 3 23 35 i1 _ .i64 .i64 Tryz.underlying23 Tryz.underlying3 hi1 hy0 none 0 0 [] hold n h0 (by omega) (by omega) (by omega) (by rw [hy2]; omega) (growslice_fits (by omega) (by rw [hy2]; omega))
    rw [Nat.zero_add] at hrz
    have hcap := grownCap_le_maxLen w n 0 35 (by unfold maxLen; omega)
    have hge := grownCap_ge w n 0 35
    obtain ⟨G, hG⟩ : ∃ G, grownCap w n 0 35 = G := ⟨_, rfl⟩
    rw [hG] at hrz hcap hge
    obtain ⟨w1, hw1⟩ : ∃ w1, w.drew.alloc (.cells ([].toArray ++ Builtin.zeroCells (Value.agg #[.int .u64 0, .slice none 0 0]).cells n ++ Builtin.zeroCells (Value.agg #[.int .u64 0, .slice none 0 0]).cells (G - n)) 35) = w1 := ⟨_, rfl⟩
    have hown : w1.ownsRow w.heap.size 35 2 (.slice (some ⟨w.heap.size, 0, none⟩) 0 G) 0 [] := by
      rw [← hw1]
      exact World.ownsRow_made (w := w.drew) _ G (Nat.le_refl _) hcap (by
        rw [Array.size_append, Array.size_append, size_zeroCells, size_zeroCells]
        simp [Value.cells]
        omega)
    have hb1 : Below w.heap.size w w1 := by rw [← hw1]; exact (Below.refl _ _).drew.alloc (Nat.le_refl _) _
    rw [hw1] at hrz
    have HW := Lib.hid hw1
    have HO := Lib.hid hown
    have HB := Lib.hid hb1
    clear hown hb1 hw1 hG hold
    unfold maxLen at hcap
    go_enter Tryz.func59, Tryz.ntmps59
    go_wp2_with (at_builtin; refine wpList_append_run _ rfl _ _ _ _ rfl _ _ _ _ (by rfl) (by rfl) hrz ?_)
    go_ret
    exact ⟨_, G, rfl, HO.out, HB.out⟩
set_option maxRecDepth 100000 in
set_option maxHeartbeats 4000000 in
/-- Slices of points in one. -/
theorem pconcat_any (w : World) (V : Option Addr) (vc : Nat) (bs : List Bk) (hrow : ERow w w.heap.size (.slice V bs.length vc) bs.length (bkVs bs)) (hT : ∀ b ∈ bs, TrRow w w.heap.size b.val b.ps) (hl : (bs.flatMap (·.ps)).length ≤ 1000000000) :
    Calls Tryz.prog 43 #[.slice V bs.length vc] w fun e w' => ∃ A c, e = .returned (.slice A (bs.flatMap (·.ps)).length c) ∧ TrRow w' w'.heap.size (.slice A (bs.flatMap (·.ps)).length c) (bs.flatMap (·.ps)) ∧ Below w.heap.size w w' := by
  obtain ⟨i1, hi1, hy0, hy1, hy2⟩ := info_parts Tryz.infoPoint
  obtain ⟨-, l1, l2⟩ := hrow.len
  obtain ⟨F, hF⟩ : ∃ F : Nat → List Pm, (fun k => (bs.take k).flatMap (·.ps)) = F := ⟨_, rfl⟩
  have hf0 : F 0 = [] := by rw [← hF]; rfl
  have hfn : F bs.length = bs.flatMap (·.ps) := by rw [← hF]; simp
  have hfs : ∀ (k : Nat) (b : Bk), bs[k]? = some b → F (k + 1) = F k ++ b.ps := by
    intro k b hb
    rw [← hF]
    simp only
    rw [List.take_add_one, hb, List.flatMap_append]
    simp
  have hfl : ∀ k, (F k).length ≤ (bs.flatMap (·.ps)).length := by
    intro k
    rw [← hF]
    simp only
    have h2 : bs.flatMap (·.ps) = (bs.take k).flatMap (·.ps) ++ (bs.drop k).flatMap (·.ps) := by rw [← List.flatMap_append, List.take_append_drop]
    rw [h2, List.length_append]
    omega
  rw [← hfn] at hl hfl ⊢
  have hel : ∀ (k : Nat) (b : Bk), bs[k]? = some b → ∃ q o, V = some ⟨q, o, none⟩ ∧ w.cell? ⟨q, o + k, none⟩ = some b.val ∧ q < w.heap.size := by
    intro k b hb
    have hk := (List.getElem?_eq_some_iff.1 hb).1
    obtain ⟨q, o, rfl, hq, hc⟩ := hrow.block (by omega)
    exact ⟨q, o, rfl, hc k _ (bkVs_at hb), hq⟩
  have hap : ∀ (k : Nat) (b : Bk), bs[k]? = some b → TrRow w w.heap.size b.val b.ps := fun k b hb => hT b (List.mem_of_getElem? hb)
  have hok : ∀ d ∈ F bs.length, d.Ok w w.heap.size := by
    intro d hd
    rw [hfn] at hd
    obtain ⟨b, hb, hd⟩ := List.mem_flatMap.1 hd
    exact (hT b hb).2 d hd
  have hat : ∀ k, k < bs.length → ∃ b, bs[k]? = some b := fun k hk => ⟨_, List.getElem?_eq_getElem hk⟩
  have HF0 := Lib.hid hf0
  have HFS := Lib.hid hfs
  have HFL := Lib.hid hfl
  have HEL := Lib.hid hel
  have HAP := Lib.hid hap
  have HOK := Lib.hid hok
  have HAT := Lib.hid hat
  have HL := Lib.hid hl
  clear hf0 hfn hfs hfl hel hap hok hat hl hrow hT hF
  generalize bs.length = n at *
  go_enter Tryz.func43, Tryz.ntmps43
  go_wp2_with fail
  go_loopg [3, 11] n (fun gk sv iv wr => ∃ k : Nat, sv = .int .i64 ((F k).length : Nat) ∧ iv = .int .i64 k ∧ k ≤ n ∧ Hid (n - k = gk) ∧ wr = w)
  case atStart => exact ⟨0, by rw [HF0.out]; rfl, rfl, Nat.zero_le _, Lib.hid rfl, rfl⟩
  case round =>
    obtain ⟨k, rfl, rfl, hk, HGK, rfl⟩ := hrel
    by_cases hlt : k < n
    · obtain ⟨b, hb⟩ := HAT.out k hlt
      obtain ⟨q, o, rfl, x0, hq⟩ := HEL.out k b hb
      have HS := Lib.hid (HFS.out k b hb)
      have HLE := Lib.hid (HFL.out (k + 1))
      have hsum : (F (k + 1)).length = (F k).length + b.ps.length := by rw [HS.out, List.length_append]
      have hle : (F k).length + b.ps.length ≤ 1000000000 := by have := HLE.out; have := HL.out; omega
      have HSUM := Lib.hid hsum
      generalize (F k).length = a at hle HSUM ⊢
      have hle2 : ¬ ((a : Int) + (b.ps.length : Int) < 0) := by omega
      clear hsum hb
      go_wp2_with fail
      go_roundg (n - (k + 1))
      case measure => have := HGK.out; omega
      case rel => exact ⟨k + 1, by rw [HSUM.out]; go_num, by go_num, by omega, Lib.hid rfl, rfl⟩
    · obtain rfl : k = n := by omega
      have HG := Lib.hid (pgrow_any wr (F k).length (HL.out))
      have HL2 := Lib.hid (HFL.out k)
      go_wp2_with fail
      refine HG.out.mono ?_
      rintro e w1 ⟨A1, c1, rfl, hown, hb1⟩
      have HOWN := Lib.hid hown
      have HB1 := Lib.hid hb1
      clear hown hb1
      go_wp2_with fail
      obtain ⟨w0, hw0⟩ : ∃ w0, w0 = wr := ⟨_, rfl⟩
      subst hw0
      go_loopg [6, 27] k (fun gk sv iv wr => ∃ (j : Nat) (A2 : Option Addr) (c2 : Nat), sv = .slice A2 (F j).length c2 ∧ iv = .int .i64 j ∧ j ≤ k ∧ Hid (k - j = gk) ∧ Hid (wr.ownsRow w0.heap.size 35 2 (.slice A2 (F j).length c2) (F j).length (flatN (F j))) ∧ Hid (Below w0.heap.size w0 wr))
      case atStart => exact ⟨0, A1, c1, by rw [HF0.out]; rfl, rfl, Nat.zero_le _, Lib.hid rfl, Lib.hid (by rw [HF0.out]; exact HOWN.out), HB1⟩
      case round =>
        obtain ⟨j, A2, c2, rfl, rfl, hj, HGK2, HO2, HB2⟩ := hrel
        by_cases hlt2 : j < k
        · obtain ⟨b, hb⟩ := HAT.out j hlt2
          obtain ⟨q, o, rfl, x0, hq⟩ := HEL.out j b hb
          replace x0 : wr.cell? ⟨q, o + j, none⟩ = some b.val := (HB2.out.cell (p := ⟨q, o + j, none⟩) hq).trans x0
          have HS := Lib.hid (HFS.out j b hb)
          have HLE := Lib.hid (HFL.out (j + 1))
          have HAR := Lib.hid ((HAP.out j b hb).below HB2.out)
          have hsum : (F (j + 1)).length = (F j).length + b.ps.length := by rw [HS.out, List.length_append]
          have hle : (F j).length + b.ps.length ≤ 1000000000 := by have := HLE.out; have := HL.out; omega
          have HSUM := Lib.hid hsum
          have HZ := Lib.hid HB2.out.size
          have hfl2 : (flatN b.ps).length = b.ps.length * 2 := flatN_length _
          have hone := oneN b.ps
          clear hsum hb
          go_wp2_with (at_builtin; refine wpList_append_erow _ rfl _ _ 23 35 rfl w0.heap.size i1 _ 2 32 Tryz.underlying23 hi1 hy0 hy1 hy2 rfl (by decide) (.slice A2 (F j).length c2) (F j).length (flatN (F j)) (by rfl) HO2.out w0.heap.size b.val b.ps.length (flatN b.ps) (by rfl) HAR.out.1 hfl2 hone (by unfold maxLen; omega) (by omega) HZ.out (F (j + 1)).length HSUM.out.symm (flatN (F (j + 1))) (by rw [HS.out, flatN_append]) ?_; intro A6 c6 w6 hown6 hg6 hat6; have HO6 := Lib.hid hown6; have HB6 := Lib.hid (HB2.out.grown hg6 HZ.out (fun i e => (World.ownsRow.lt HO2.out i e).1)); clear hown6 hg6 hat6)
          go_roundg (k - (j + 1))
          case measure => have := HGK2.out; omega
          case rel => exact ⟨j + 1, A6, c6, rfl, by go_num, by omega, Lib.hid rfl, HO6, HB6⟩
        · obtain rfl : j = k := by omega
          go_wp2_with fail
          go_ret
          exact ⟨A2, c2, rfl, ⟨ERow.of_own HO2.out, fun d hd => ((HOK.out d hd).below HB2.out).more HB2.out.size⟩, HB2.out⟩
end Go.Proofs.YtohibmjjhifggaaGreat

namespace Go.Proofs.YtohibmjjhifggaaGreat
open Go.RowKit Go.ChangeShapes Go.WideShapes
set_option linter.unusedVariables false
/-- Why a point may not be added behind those of the last block. -/
def whyW (sig : List Pr) (cl : Bool) (l : List Pm) (p : Pm) : Int :=
  if cl = true then 1 else if (checkT sig ((l.drop (l.length - 1) ++ [p]).map (·.p))).1 ≠ 0 then (checkT sig ((l.drop (l.length - 1) ++ [p]).map (·.p))).1 else if fitB sig [p] = true then 0 else 6
section
set_option maxRecDepth 100000 in
set_option maxHeartbeats 4000000 in
/-- What is asked of the last point and the one that is to come. -/
theorem check_part {w1 : World} {c r4 c4 : Nat} {A A4 : Option Addr} {ds : List Pd} {p : Pm} {l4 : List Pm} (hd : PredRow w1 w1.heap.size (.slice A ds.length c) ds) (ht : TrRow w1 w1.heap.size (.slice A4 r4 c4) l4) (hl : l4.length = r4) (hp : p.Ok w1 w1.heap.size) (h1 : r4 ≤ 1) :
    ∀ u1 u2, w1.drew.alloc (.cells #[.int .u64 p.tm, .slice p.A p.evs.length p.c] 35) = u1 → u1.alloc (.cells #[.slice A4 r4 c4, .slice (some ⟨w1.heap.size, 0, none⟩) 1 1] 23) = u2 → u1.heap.size = w1.heap.size + 1 ∧ Below w1.heap.size w1 u1 ∧ u2.heap.size = w1.heap.size + 2 ∧ Below w1.heap.size w1 u2 ∧
      Calls Tryz.prog 43 #[.slice (some ⟨w1.heap.size + 1, 0, none⟩) 2 2] u2 (fun e w2 => ∃ A c, e = .returned (.slice A (r4 + 1) c) ∧ Hid (TrRow w2 w2.heap.size (.slice A (r4 + 1) c) (l4 ++ [p])) ∧ Below w1.heap.size w1 w2) ∧
      ∀ (w2 : World) A2 c2, TrRow w2 w2.heap.size (.slice A2 (r4 + 1) c2) (l4 ++ [p]) → Below w1.heap.size w1 w2 → Calls Tryz.prog 42 #[.slice A ds.length c, .slice A2 (r4 + 1) c2] w2 fun e w' => e = .returned (.tuple #[.int .i64 (checkT (ds.map (·.p)) ((l4 ++ [p]).map (·.p))).1, .int .i64 (checkT (ds.map (·.p)) ((l4 ++ [p]).map (·.p))).2]) ∧ Below w1.heap.size w1 w' := by
  intro u1 u2 hu1 hu2
  have s1 : u1.heap.size = w1.heap.size + 1 := by rw [← hu1, World.size_alloc]; rfl
  have b1 : Below w1.heap.size w1 u1 := by rw [← hu1]; exact (Below.refl _ _).drew.alloc (Nat.le_refl _) _
  have s2 : u2.heap.size = w1.heap.size + 2 := by rw [← hu2, World.size_alloc, s1]
  have b12 : Below u1.heap.size u1 u2 := by rw [← hu2]; exact (Below.refl _ _).alloc (Nat.le_refl _) _
  have b2 : Below w1.heap.size w1 u2 := b1.trans (b12.mono (by omega))
  have h1' : Held u1 w1.heap.size 35 #[.int .u64 p.tm, .slice p.A p.evs.length p.c] := by rw [← hu1]; exact heap_alloc_new w1.drew _
  have h2' : Held u2 (w1.heap.size + 1) 23 #[.slice A4 r4 c4, .slice (some ⟨w1.heap.size, 0, none⟩) 1 1] := by rw [← hu2, ← s1]; exact heap_alloc_new u1 _
  have hfm : ([⟨A4, c4, l4⟩, ⟨some ⟨w1.heap.size, 0, none⟩, 1, [p]⟩] : List Bk).flatMap (·.ps) = l4 ++ [p] := by simp
  have hlen : (l4 ++ [p]).length = r4 + 1 := by rw [List.length_append, hl]; rfl
  have hT : ∀ b ∈ ([⟨A4, c4, l4⟩, ⟨some ⟨w1.heap.size, 0, none⟩, 1, [p]⟩] : List Bk), TrRow u2 u2.heap.size b.val b.ps := by
    intro b hb
    rcases List.mem_cons.1 hb with rfl | hb
    · have : TrRow u2 u2.heap.size (.slice A4 l4.length c4) l4 := by rw [hl]; exact (ht.below b2).more (by omega)
      exact this
    · rw [List.mem_singleton.1 hb]
      exact ⟨ERow.held (us := flatN [p]) (h1'.below b12 (by omega)) (by omega) (show (1 : Nat) ≤ maxLen by unfold maxLen; omega), fun d hd => by
        obtain rfl := List.mem_singleton.1 hd
        exact (hp.below b2).more (by omega)⟩
  have hrow : ERow u2 u2.heap.size (.slice (some ⟨w1.heap.size + 1, 0, none⟩) ([⟨A4, c4, l4⟩, ⟨some ⟨w1.heap.size, 0, none⟩, 1, [p]⟩] : List Bk).length 2) ([⟨A4, c4, l4⟩, ⟨some ⟨w1.heap.size, 0, none⟩, 1, [p]⟩] : List Bk).length (bkVs [⟨A4, c4, l4⟩, ⟨some ⟨w1.heap.size, 0, none⟩, 1, [p]⟩]) := by
    refine ERow.held (n := 2) (t := 23) (us := bkVs [⟨A4, c4, l4⟩, ⟨some ⟨w1.heap.size, 0, none⟩, 1, [p]⟩]) ?_ (by omega) (show (2 : Nat) ≤ maxLen by unfold maxLen; omega)
    unfold bkVs Bk.val
    simp only [List.map_cons, List.map_nil, List.length_singleton, hl]
    exact h2'
  have hc := pconcat_any u2 (some ⟨w1.heap.size + 1, 0, none⟩) 2 _ hrow hT (by rw [hfm, hlen]; omega)
  rw [hfm, hlen] at hc
  refine ⟨s1, b1, s2, b2, hc.mono ?_, ?_⟩
  · rintro e w2 ⟨A2, c2, rfl, ht2, hb2⟩
    exact ⟨A2, c2, rfl, Lib.hid ht2, b2.trans (hb2.mono (by omega))⟩
  · intro w2 A2 c2 ht2 hb2
    have hck := tcheck_any A c ds A2 c2 (l4 ++ [p]) w2 ((hd.below hb2).more hb2.size) (by rw [hlen]; exact ht2)
    rw [hlen] at hck
    refine hck.mono ?_
    rintro e w3 ⟨rfl, hb3⟩
    exact ⟨rfl, hb2.trans (hb3.mono hb2.size)⟩
variable {w : World} {n g c kc : Nat} {A KA : Option Addr} {ds : List Pd} {most : Int} {bg cl : Bool} {bs : List Bk}
set_option maxRecDepth 100000 in
set_option maxHeartbeats 4000000 in
theorem wcheck_any (h : WAt w n g A c ds most bg cl KA kc bs) (p : Pm) (hp : p.Ok w w.heap.size) :
    Calls Tryz.prog 25 #[.pointer (some ⟨g, 0, none⟩), p.val] w fun e w' => e = .returned (.int .i64 (whyW (ds.map (·.p)) cl (lastB bs).ps p)) ∧ Below w.heap.size w w' := by
  have hlt := h.held.lt
  obtain ⟨N, hN⟩ : ∃ N, w.heap.size = N := ⟨_, rfl⟩
  obtain ⟨u0, hu0⟩ : ∃ u, w.alloc (.cells #[.int .u64 p.tm, .slice p.A p.evs.length p.c] 35) = u := ⟨_, rfl⟩
  have s0 : u0.heap.size = N + 1 := by rw [← hu0, World.size_alloc, hN]
  have b0 : Below w.heap.size w u0 := by rw [← hu0]; exact (Below.refl _ _).alloc (Nat.le_refl _) _
  have hp0 : Held u0 N 35 #[.int .u64 p.tm, .slice p.A p.evs.length p.c] := by rw [← hu0, ← hN]; exact heap_alloc_new w _
  have hw0 := h.below b0
  have hlg := hw0.held.lt
  obtain ⟨x0, -, -, -, x4⟩ := hw0.cells
  have HLC := Lib.hid (wlast_any hw0)
  have hlast := hw0.last
  obtain ⟨-, q1, q2⟩ := hlast.row.1.len
  have hpo := (hp.below b0).more (B' := u0.heap.size) (by rw [s0, hN]; omega)
  unfold whyW
  obtain ⟨L, hL⟩ : ∃ L, lastB bs = L := ⟨_, rfl⟩
  rw [hL] at HLC hlast q1 q2 ⊢
  obtain ⟨LA, lc, l⟩ := L
  replace HLC : Hid (Calls Tryz.prog 27 #[.pointer (some ⟨g, 0, none⟩)] u0 fun e w' => e = .returned (.slice LA l.length lc) ∧ Below u0.heap.size u0 w') := HLC
  replace hlast : OwnT u0 n (.slice LA l.length lc) l := hlast
  replace q1 : l.length ≤ lc := q1
  replace q2 : lc ≤ 9223372036854775807 := q2
  dsimp only
  cases cl with
  | true =>
    rw [if_pos rfl]
    have HB := Lib.hid b0
    unfold Pm.val
    clear hp0 hw0 HLC hlast q1 q2 hpo h hp b0
    go_enter Tryz.func25, Tryz.ntmps25
    go_wp2_with fail
    go_ret
    exact ⟨rfl, HB.out⟩
  | false =>
    rw [if_neg (by decide)]
    obtain ⟨m, hm⟩ : ∃ m, l.length = m := ⟨_, rfl⟩
    obtain ⟨k, hk⟩ : ∃ k, m - 1 = k := ⟨_, rfl⟩
    have hmax : max (0 : Int) ((m : Int) - 1) = (k : Int) := by omega
    have HOT := Lib.hid hlast
    have HWA := Lib.hid hw0
    have HPO := Lib.hid hpo
    have HP0 := Lib.hid hp0
    have HB := Lib.hid b0
    have HM := Lib.hid hm
    rw [hm] at HLC q1 ⊢
    rw [hk]
    have hkm : k ≤ m := by omega
    have HK := Lib.hid hk
    obtain ⟨R, hR⟩ : ∃ R, checkT (ds.map (·.p)) ((l.drop k ++ [p]).map (·.p)) = R := ⟨_, rfl⟩
    have HR := Lib.hid hR
    obtain ⟨f, hf⟩ : ∃ f, fitB (ds.map (·.p)) [p] = f := ⟨_, rfl⟩
    have HF := Lib.hid hf
    rw [hR, hf]
    obtain ⟨V, hV⟩ : ∃ V : Int, (if R.1 ≠ 0 then R.1 else if f = true then 0 else 6) = V := ⟨_, rfl⟩
    rw [hV]
    have HV := Lib.hid hV
    clear hV
    unfold Pm.val
    clear hp0 hw0 hlast hpo h hp b0 hm hk hR hf
    rcases (show lc = k ∨ ¬ lc = k by omega) with rfl | hlk
    all_goals (
    go_enter Tryz.func25, Tryz.ntmps25
    go_wp2_with fail
    refine HLC.out.mono ?_
    rintro e w1 ⟨rfl, hb1⟩
    have z1 := hb1.size
    have y0 := (hb1.cell (p := ⟨g, 0, none⟩) hlg).trans x0
    have y1 := held_two (HP0.out.below hb1 HP0.out.lt)
    have HT1 := Lib.hid ((HOT.out.row.below hb1).more z1)
    have HP1 := Lib.hid ((HPO.out.below hb1).more z1)
    have HW1 := Lib.hid (HWA.out.below hb1)
    have HB1 := Lib.hid (HB.out.trans (hb1.mono (by omega)))
    have hgl : g < w1.heap.size := by omega
    have hNl : N < w1.heap.size := by omega
    have HALL := Lib.hid (fun W (h : Below w1.heap.size w1 W) => And.intro ((h.cell (p := ⟨g, 0, none⟩) hgl).trans y0) (And.intro ((h.cell (p := ⟨N, 0, none⟩) hNl).trans y1.1) ((h.cell (p := ⟨N, 1, none⟩) hNl).trans y1.2)))
    clear hb1 y0 y1
    go_wp2_with fail)
    · have hm0 : m = 0 := by have := HK.out; omega
      have hl0 : l = [] := List.eq_nil_of_length_eq_zero (by have := HM.out; omega)
      have hz0 : lc = 0 := by have := HK.out; omega
      have HT4 : Hid (TrRow w1 w1.heap.size (.slice LA 0 0) (l.drop lc)) := by
        have := HT1.out
        rw [HM.out, hm0, hz0] at this
        rw [hl0, List.drop_nil]
        rw [hl0] at this
        exact Lib.hid this
      have HD := Lib.hid (show (l.drop lc).length = 0 by rw [hl0, List.drop_nil]; rfl)
      have HR4 := HR
      generalize l.drop lc = l4 at HT4 HD HR4
      obtain ⟨r4, hr4⟩ : ∃ r4 : Nat, r4 = 0 := ⟨_, rfl⟩
      obtain ⟨c4, hc4⟩ : ∃ c4 : Nat, c4 = 0 := ⟨_, rfl⟩
      obtain ⟨A4, hA4⟩ : ∃ A4, A4 = LA := ⟨_, rfl⟩
      replace HT4 : Hid (TrRow w1 w1.heap.size (.slice A4 r4 c4) l4) := by rw [hr4, hc4, hA4]; exact HT4
      replace HD : Hid (l4.length = r4) := by rw [hr4]; exact HD
      have hslot : Value.slice LA 0 0 = .slice A4 r4 c4 := by rw [hr4, hc4, hA4]
      rw [hslot]
      have HLE := Lib.hid (show r4 ≤ 1 by have := HK.out; omega)
      obtain ⟨u1, hu1⟩ : ∃ u, w1.drew.alloc (.cells #[.int .u64 p.tm, .slice p.A p.evs.length p.c] 35) = u := ⟨_, rfl⟩
      obtain ⟨u2, hu2⟩ : ∃ u, u1.alloc (.cells #[.slice A4 r4 c4, .slice (some ⟨w1.heap.size, 0, none⟩) 1 1] 23) = u := ⟨_, rfl⟩
      obtain ⟨s1, v1, s2, v2, hc, hk⟩ := check_part ((HW1.out.sig.more HW1.out.size)) HT4.out HD.out HP1.out HLE.out u1 u2 hu1 hu2
      have HC := Lib.hid hc
      have HKK := Lib.hid hk
      have V1 := Lib.hid v1
      have V2 := Lib.hid v2
      rw [HR4.out] at HKK
      clear hc hk v1 v2
      go_region_held3 (fun W => W.cell? ⟨g, 0, none⟩ = some (.slice A ds.length c) ∧ W.cell? ⟨N, 0, none⟩ = some (.int .u64 p.tm) ∧ W.cell? ⟨N, 1, none⟩ = some (.slice p.A p.evs.length p.c))
        (first | exact HALL.out _ (Below.refl _ _) | exact HALL.out _ (Below.refl _ _).drew | exact HALL.out _ V1.out | exact HALL.out _ V2.out | exact HALL.out _ b2 | exact HALL.out _ b3)
        (first
          | (go_at_call 43; (with_reducible refine HC.out.mono ?_); rintro e w2 ⟨A2, c2, rfl, HT2, b2⟩)
          | (go_at_call 42; (with_reducible refine (HKK.out _ _ _ HT2.out b2).mono ?_); rintro e w3 ⟨rfl, b3⟩))
      clear hu1 hu2 s1 s2 HC HKK V1 V2 HT2 b2
      have HFI := Lib.hid (fun W (hb : Below w1.heap.size w1 W) => cfits_any A c ds W p (((HW1.out.sig.more HW1.out.size).below hb).more hb.size) ((HP1.out.below hb).more hb.size))
      rw [HF.out] at HFI
      have hz3 := b3.size
      by_cases hr0 : R.1 = 0
      · have hrb : (R.1 != 0) = false := by simp [hr0]
        have HB3 := Lib.hid b3
        have HALL3 := Lib.hid (fun W (h : Below w3.heap.size w3 W) => HALL.out W (HB3.out.trans (h.mono hz3)))
        have y3 := HALL3.out w3 (Below.refl _ _)
        obtain ⟨y0, y1, y2⟩ := y3
        clear b3
        cases f with
        | true =>
          go_wp2_with fail
          go_region_held3 (fun W => W.cell? ⟨g, 0, none⟩ = some (.slice A ds.length c) ∧ W.cell? ⟨N, 0, none⟩ = some (.int .u64 p.tm) ∧ W.cell? ⟨N, 1, none⟩ = some (.slice p.A p.evs.length p.c))
            (first | exact HALL3.out _ (Below.refl _ _) | exact HALL3.out _ (Below.refl _ _).drew | exact HALL3.out _ b5)
            (first
              | (go_at_call 44; (with_reducible refine (HFI.out _ (HB3.out.trans ((Below.refl _ _).drew.mono hz3))).mono ?_); rintro e w5 ⟨rfl, hb5⟩; have b5 : Below w3.heap.size w3 w5 := (Below.refl w3.heap.size w3).drew.trans hb5))
          go_wp2_with fail
          go_ret
          exact ⟨by rw [show V = 0 by rw [← HV.out]; simp [hr0]]; rfl, HB1.out.trans ((HB3.out.trans (b5.mono hz3)).mono (by omega))⟩
        | false =>
          go_wp2_with fail
          go_region_held3 (fun W => W.cell? ⟨g, 0, none⟩ = some (.slice A ds.length c) ∧ W.cell? ⟨N, 0, none⟩ = some (.int .u64 p.tm) ∧ W.cell? ⟨N, 1, none⟩ = some (.slice p.A p.evs.length p.c))
            (first | exact HALL3.out _ (Below.refl _ _) | exact HALL3.out _ (Below.refl _ _).drew | exact HALL3.out _ b5)
            (first
              | (go_at_call 44; (with_reducible refine (HFI.out _ (HB3.out.trans ((Below.refl _ _).drew.mono hz3))).mono ?_); rintro e w5 ⟨rfl, hb5⟩; have b5 : Below w3.heap.size w3 w5 := (Below.refl w3.heap.size w3).drew.trans hb5))
          go_wp2_with fail
          go_ret
          exact ⟨by rw [show V = 6 by rw [← HV.out]; simp [hr0]]; rfl, HB1.out.trans ((HB3.out.trans (b5.mono hz3)).mono (by omega))⟩
      · have hrb : (R.1 != 0) = true := bne_iff_ne.2 hr0
        clear HFI
        go_wp2_with fail
        go_ret
        exact ⟨by rw [show V = R.1 by rw [← HV.out, if_pos hr0]]; rfl, HB1.out.trans (b3.mono (by omega))⟩
    · have HT4 := Lib.hid (HT1.out.drop (k := k) (A' := LA.map (fun x => x.add (k * 2))) (by have := HM.out; omega) (Or.inr rfl))
      rw [HM.out] at HT4
      generalize LA.map (fun x => x.add (k * 2)) = A4 at HT4 ⊢
      have HD := Lib.hid (show (l.drop k).length = m - k by rw [List.length_drop, HM.out])
      have HR4 := HR
      generalize l.drop k = l4 at HT4 HD HR4
      generalize lc - k = c4 at HT4 ⊢
      obtain ⟨r4, hr4⟩ : ∃ r4, m - k = r4 := ⟨_, rfl⟩
      rw [hr4] at HT4 HD ⊢
      have HLE := Lib.hid (show r4 ≤ 1 by have := HK.out; omega)
      obtain ⟨u1, hu1⟩ : ∃ u, w1.drew.alloc (.cells #[.int .u64 p.tm, .slice p.A p.evs.length p.c] 35) = u := ⟨_, rfl⟩
      obtain ⟨u2, hu2⟩ : ∃ u, u1.alloc (.cells #[.slice A4 r4 c4, .slice (some ⟨w1.heap.size, 0, none⟩) 1 1] 23) = u := ⟨_, rfl⟩
      obtain ⟨s1, v1, s2, v2, hc, hk⟩ := check_part ((HW1.out.sig.more HW1.out.size)) HT4.out HD.out HP1.out HLE.out u1 u2 hu1 hu2
      have HC := Lib.hid hc
      have HKK := Lib.hid hk
      have V1 := Lib.hid v1
      have V2 := Lib.hid v2
      rw [HR4.out] at HKK
      clear hc hk v1 v2
      go_region_held3 (fun W => W.cell? ⟨g, 0, none⟩ = some (.slice A ds.length c) ∧ W.cell? ⟨N, 0, none⟩ = some (.int .u64 p.tm) ∧ W.cell? ⟨N, 1, none⟩ = some (.slice p.A p.evs.length p.c))
        (first | exact HALL.out _ (Below.refl _ _) | exact HALL.out _ (Below.refl _ _).drew | exact HALL.out _ V1.out | exact HALL.out _ V2.out | exact HALL.out _ b2 | exact HALL.out _ b3)
        (first
          | (go_at_call 43; (with_reducible refine HC.out.mono ?_); rintro e w2 ⟨A2, c2, rfl, HT2, b2⟩)
          | (go_at_call 42; (with_reducible refine (HKK.out _ _ _ HT2.out b2).mono ?_); rintro e w3 ⟨rfl, b3⟩))
      clear hu1 hu2 s1 s2 HC HKK V1 V2 HT2 b2
      have HFI := Lib.hid (fun W (hb : Below w1.heap.size w1 W) => cfits_any A c ds W p (((HW1.out.sig.more HW1.out.size).below hb).more hb.size) ((HP1.out.below hb).more hb.size))
      rw [HF.out] at HFI
      have hz3 := b3.size
      by_cases hr0 : R.1 = 0
      · have hrb : (R.1 != 0) = false := by simp [hr0]
        have HB3 := Lib.hid b3
        have HALL3 := Lib.hid (fun W (h : Below w3.heap.size w3 W) => HALL.out W (HB3.out.trans (h.mono hz3)))
        have y3 := HALL3.out w3 (Below.refl _ _)
        obtain ⟨y0, y1, y2⟩ := y3
        clear b3
        cases f with
        | true =>
          go_wp2_with fail
          go_region_held3 (fun W => W.cell? ⟨g, 0, none⟩ = some (.slice A ds.length c) ∧ W.cell? ⟨N, 0, none⟩ = some (.int .u64 p.tm) ∧ W.cell? ⟨N, 1, none⟩ = some (.slice p.A p.evs.length p.c))
            (first | exact HALL3.out _ (Below.refl _ _) | exact HALL3.out _ (Below.refl _ _).drew | exact HALL3.out _ b5)
            (first
              | (go_at_call 44; (with_reducible refine (HFI.out _ (HB3.out.trans ((Below.refl _ _).drew.mono hz3))).mono ?_); rintro e w5 ⟨rfl, hb5⟩; have b5 : Below w3.heap.size w3 w5 := (Below.refl w3.heap.size w3).drew.trans hb5))
          go_wp2_with fail
          go_ret
          exact ⟨by rw [show V = 0 by rw [← HV.out]; simp [hr0]]; rfl, HB1.out.trans ((HB3.out.trans (b5.mono hz3)).mono (by omega))⟩
        | false =>
          go_wp2_with fail
          go_region_held3 (fun W => W.cell? ⟨g, 0, none⟩ = some (.slice A ds.length c) ∧ W.cell? ⟨N, 0, none⟩ = some (.int .u64 p.tm) ∧ W.cell? ⟨N, 1, none⟩ = some (.slice p.A p.evs.length p.c))
            (first | exact HALL3.out _ (Below.refl _ _) | exact HALL3.out _ (Below.refl _ _).drew | exact HALL3.out _ b5)
            (first
              | (go_at_call 44; (with_reducible refine (HFI.out _ (HB3.out.trans ((Below.refl _ _).drew.mono hz3))).mono ?_); rintro e w5 ⟨rfl, hb5⟩; have b5 : Below w3.heap.size w3 w5 := (Below.refl w3.heap.size w3).drew.trans hb5))
          go_wp2_with fail
          go_ret
          exact ⟨by rw [show V = 6 by rw [← HV.out]; simp [hr0]]; rfl, HB1.out.trans ((HB3.out.trans (b5.mono hz3)).mono (by omega))⟩
      · have hrb : (R.1 != 0) = true := bne_iff_ne.2 hr0
        clear HFI
        go_wp2_with fail
        go_ret
        exact ⟨by rw [show V = R.1 by rw [← HV.out, if_pos hr0]]; rfl, HB1.out.trans (b3.mono (by omega))⟩
end
end Go.Proofs.YtohibmjjhifggaaGreat

namespace Go.Proofs.YtohibmjjhifggaaGreat
open Go.RowKit Go.ChangeShapes Go.WideShapes
set_option linter.unusedVariables false
/-- A block has room for a point. -/
def roomW (sig : List Pr) (most : Int) (l : List Pm) (q : Pm) : Prop := 0 < l.length ∧ (l.length : Int) + 1 ≤ most ∧ fitB sig (l ++ [q]) = true
/-- The blocks with a point more. -/
def AddR (sig : List Pr) (most : Int) (bs bs' : List Bk) (q : Pm) : Prop :=
  (∃ bi b b', bs = bi ++ [b] ∧ bs' = bi ++ [b'] ∧ roomW sig most b.ps q ∧ b'.ps.map (·.p) = b.ps.map (·.p) ++ [q.p]) ∨
  (∃ b', ¬ roomW sig most (lastB bs).ps q ∧ bs' = bs ++ [b'] ∧ b'.ps.map (·.p) = [q.p])
def AddGot (w : World) (n g : Nat) (A : Option Addr) (c : Nat) (ds : List Pd) (most : Int) (bg cl : Bool) (KA : Option Addr) (kc : Nat) (bs : List Bk) (p : Pm) (V : Int) (e : Ending) (w' : World) : Prop :=
  e = .returned (.int .i64 V) ∧ ∃ KA' kc' bs', WAt w' n g A c ds most bg cl KA' kc' bs' ∧ PartN (WS g KA bs) w w' ∧ (∀ j, WS g KA' bs' j → WS g KA bs j ∨ w.heap.size ≤ j) ∧
    (V ≠ 0 → bs' = bs) ∧ (V = 0 → AddR (ds.map (·.p)) most bs bs' p)
section
variable {w w' : World} {n g c kc : Nat} {A KA : Option Addr} {ds : List Pd} {most : Int} {bg cl : Bool} {bs : List Bk}
theorem lastB_ws {j : Nat} (h : (lastB bs).val.ownBlock = some j) : WS g KA bs j := by
  rcases List.eq_nil_or_concat bs with hb | ⟨bi, b, hb⟩
  · rw [hb, lastB_nil] at h
    simp [Value.ownBlock] at h
  · rw [List.concat_eq_append] at hb
    rw [hb, lastB_snoc] at h
    exact .inr (.inr ⟨b, by rw [hb]; simp, by rw [← h, ob_own]⟩)
theorem WAt.behind (h : WAt w n g A c ds most bg cl KA kc bs) (hg : w.grownBy w' (lastB bs).val.ownBlock) (ho : w'.ownsRow n 35 2 (lastB bs).val (lastB bs).ps.length (flatN (lastB bs).ps)) : WAt w' n g A c ds most bg cl KA kc bs := by
  rcases List.eq_nil_or_concat bs with hb | ⟨bi, b, hb⟩
  · have e : (lastB bs).val.ownBlock = none := by rw [hb]; rfl
    rw [e] at hg
    exact h.below ⟨hg.os, hg.tape, hg.output, hg.size, fun k hk => hg.block k hk (by simp)⟩
  · rw [List.concat_eq_append] at hb
    have e : lastB bs = b := by rw [hb, lastB_snoc]
    rw [e] at hg ho
    exact h.onto hb hg ho
/-- Behind the append to the last block's points. -/
theorem add_four {w3 w4 : World} {LA A5 A6 : Option Addr} {lc c5 c6 m N1 : Nat} {l : List Pm} {q : Pm} (hw : WAt w3 n g A c ds most bg cl KA kc bs) (hL : lastB bs = ⟨LA, lc, l⟩) (hm : l.length = m) (hT : OwnT w3 N1 (.slice A5 1 c5) [q]) (hn : n ≤ N1) (hs : ∀ j, WS g KA bs j → j < N1)
    (ho : w4.ownsRow n 35 2 (.slice A6 (m + 1) c6) (m + 1) (flatN (l ++ [q]))) (hg : w3.grownBy w4 (Value.slice LA m lc).ownBlock) (hold : w4.ownsRow n 35 2 (.slice LA m lc) m (flatN l)) :
    WAt w4 n g A c ds most bg cl KA kc bs ∧ OwnT w4 n (.slice A5 1 c5) [q] ∧ OwnT w4 n (.slice A6 (m + 1) c6) (l ++ [q]) ∧ PartN (WS g KA bs) w3 w4 := by
  subst hm
  have hlast := hw.last
  have hbe := hw.behind (w' := w4)
  rw [hL] at hlast hbe
  have hlast2 : OwnT w3 n (.slice LA l.length lc) l := hlast
  have hws : ∀ j, (Value.slice LA l.length lc).ownBlock = some j → WS g KA bs j := fun j e => lastB_ws (by rw [hL]; exact e)
  have n1 := NotT.of_own hlast2.1 tne1
  have n2 := NotT.of_own hlast2.1 tne2
  have hne : (Value.slice A5 1 c5).ownBlock = none ∨ (Value.slice A5 1 c5).ownBlock ≠ (Value.slice LA l.length lc).ownBlock := by
    cases h5 : (Value.slice A5 1 c5).ownBlock with
    | none => exact .inl rfl
    | some j =>
      refine .inr fun e => ?_
      have := (World.ownsRow.lt hT.1 j h5).1
      have := hs j (hws j e.symm)
      omega
  refine ⟨hbe hg hold, (hT.nott n1 n2 hne hg).base hn, hlast2.joined hT hn (by rw [List.length_append]; exact ho) hg, PartN.of_grown hg hws⟩
/-- Behind the append to the blocks. -/
theorem add_more {w5 : World} {A5 : Option Addr} {c5 N1 : Nat} {q : Pm} (hw : WAt w5 n g A c ds most bg cl KA kc bs) (hT : OwnT w5 n (.slice A5 1 c5) [q]) (h5 : ∀ j, ob A5 = some j → N1 ≤ j) (hs : ∀ j, WS g KA bs j → j < N1) {u6 : World} (hu6 : w5.alloc (.cells #[.slice A5 1 c5] 23) = u6) :
    w5.cell? ⟨g, 3, none⟩ = some (.slice KA bs.length kc) ∧ g < u6.heap.size ∧ n ≤ u6.heap.size ∧ u6.ownsRow n 23 1 (.slice KA bs.length kc) bs.length (bkVs bs) ∧ ERow u6 u6.heap.size (.slice (some ⟨w5.heap.size, 0, none⟩) 1 1) 1 [.slice A5 1 c5] ∧
      ∀ A7 c7 w7, w7.ownsRow n 23 1 (.slice A7 (bs.length + 1) c7) (bs.length + 1) (bkVs (bs ++ [⟨A5, c5, [q]⟩])) → u6.grownBy w7 (Value.slice KA bs.length kc).ownBlock → ((Value.slice A7 (bs.length + 1) c7).ownBlock = (Value.slice KA bs.length kc).ownBlock ∨ (Value.slice A7 (bs.length + 1) c7).ownBlock = some u6.heap.size) →
        w7.frozen? ⟨g, 3, none⟩ = false ∧ g < w7.heap.size ∧ w7.cell? ⟨g, 3, none⟩ = some (.slice KA bs.length kc) ∧ Hid (WAt (w7.setCell ⟨g, 3, none⟩ (.slice A7 (bs.length + 1) c7)) n g A c ds most bg cl A7 c7 (bs ++ [⟨A5, c5, [q]⟩])) ∧ Hid (PartN (WS g KA bs) w5 (w7.setCell ⟨g, 3, none⟩ (.slice A7 (bs.length + 1) c7))) ∧
        Hid (∀ M, M ≤ N1 → M ≤ w5.heap.size → ∀ j, WS g A7 (bs ++ [⟨A5, c5, [q]⟩]) j → WS g KA bs j ∨ M ≤ j) := by
  have b56 : Below w5.heap.size w5 u6 := by rw [← hu6]; exact (Below.refl _ _).alloc (Nat.le_refl _) _
  have s6 : u6.heap.size = w5.heap.size + 1 := by rw [← hu6, World.size_alloc]
  have h6 := hw.below b56
  refine ⟨hw.cells.2.2.2.1, h6.held.lt, h6.size, h6.blk.1, by rw [← hu6]; exact ERow.held (t := 23) (heap_alloc_new w5 _) (by rw [hu6]; omega) (show (1 : Nat) ≤ maxLen by unfold maxLen; omega), fun A7 c7 w7 hown7 hg7 hat7 => ?_⟩
  have hT6 : OwnT u6 n (Bk.val ⟨A5, c5, [q]⟩) [q] := hT.below b56
  obtain ⟨hh7, hw7⟩ := h6.more (b := ⟨A5, c5, [q]⟩) hT6 (fun j hj x hx e => by have := h5 j hj; have := hs j (.inr (.inr ⟨x, hx, e⟩)); omega) hown7 hg7
  have hc := hh7.cell 3
  simp at hc
  refine ⟨hh7.frozen 3, hh7.lt, hc, Lib.hid hw7, Lib.hid (((PartN.of_below b56).trans (PartN.of_grown hg7 (S := WS g KA bs) (fun j e => .inr (.inl (by rw [← ob_own KA bs.length kc]; exact e))))).trans (PartN.put (.inl rfl) 3 _)), Lib.hid fun M h1 h2 j hj => ?_⟩
  rcases hj with rfl | hj | ⟨x, hx, hj⟩
  · exact .inl (.inl rfl)
  · rw [← ob_own A7 (bs.length + 1) c7] at hj
    rcases hat7 with h7 | h7
    · exact .inl (.inr (.inl (by rw [← ob_own KA bs.length kc, ← h7]; exact hj)))
    · rw [h7] at hj
      injection hj with hj
      exact .inr (by omega)
  · rcases List.mem_append.1 hx with hx | hx
    · exact .inl (.inr (.inr ⟨x, hx, hj⟩))
    · rw [List.mem_singleton.1 hx] at hj
      exact .inr (Nat.le_trans h1 (h5 j hj))
theorem fitB_same {sig : List Pr} {l l' : List Pm} (h : l.map (·.p) = l'.map (·.p)) : fitB sig l = fitB sig l' := by unfold fitB; rw [putB_same h]
set_option maxRecDepth 100000 in
set_option maxHeartbeats 8000000 in
theorem wadd_any (h : WAt w n g A c ds most bg cl KA kc bs) (p : Pm) (hp : p.Ok w w.heap.size) (hfit : TrFit [p]) (hM : bs.length ≤ 1000000000) (hL : (lastB bs).ps.length ≤ 1000000000) :
    Calls Tryz.prog 9 #[.pointer (some ⟨g, 0, none⟩), p.val] w (AddGot w n g A c ds most bg cl KA kc bs p (whyW (ds.map (·.p)) cl (lastB bs).ps p)) := by
  obtain ⟨i1, hi1, hy0, hy1, hy2⟩ := info_parts Tryz.infoPoint
  obtain ⟨i2, hi2, hv0, hv1, hv2⟩ := info_parts Tryz.infoBlocks
  obtain ⟨N, hN⟩ : ∃ N, w.heap.size = N := ⟨_, rfl⟩
  obtain ⟨u0, hu0⟩ : ∃ u, w.alloc (.cells #[.int .u64 p.tm, .slice p.A p.evs.length p.c] 35) = u := ⟨_, rfl⟩
  have s0 : u0.heap.size = N + 1 := by rw [← hu0, World.size_alloc, hN]
  have b0 : Below w.heap.size w u0 := by rw [← hu0]; exact (Below.refl _ _).alloc (Nat.le_refl _) _
  have hp0 : Held u0 N 35 #[.int .u64 p.tm, .slice p.A p.evs.length p.c] := by rw [← hu0, ← hN]; exact heap_alloc_new w _
  have hw0 := h.below b0
  have hpo := (hp.below b0).more (B' := u0.heap.size) (by rw [s0, hN]; omega)
  have HCK := Lib.hid (wcheck_any hw0 p hpo)
  obtain ⟨V, hV⟩ : ∃ V, whyW (ds.map (·.p)) cl (lastB bs).ps p = V := ⟨_, rfl⟩
  rw [hV] at HCK ⊢
  have x0 := held_two hp0
  have HW0 := Lib.hid hw0
  have HP0 := Lib.hid hp0
  have HPO := Lib.hid hpo
  have HB0 := Lib.hid b0
  have HFT := Lib.hid hfit
  clear h hp hfit hw0 hp0 hpo b0 hV
  unfold Pm.val
  obtain ⟨x0a, x0b⟩ := x0
  by_cases hv : V = 0
  · have hvb : (V != 0) = false := by simp [hv]
    have HV0 := Lib.hid hv
    clear hv
    unfold AddGot
    go_enter Tryz.func9, Tryz.ntmps9
    go_wp2_with fail
    refine HCK.out.mono ?_
    rintro e w1 ⟨rfl, hb1⟩
    have z1 := hb1.size
    have HB1 := Lib.hid (HB0.out.trans (hb1.mono (by omega)))
    have HW1 := Lib.hid (HW0.out.below hb1)
    obtain ⟨y0, y1⟩ := held_two (HP0.out.below hb1 HP0.out.lt)
    have HP1 := Lib.hid ((HPO.out.below hb1).more z1)
    obtain ⟨u1, hu1⟩ : ∃ u, w1.alloc (.cells #[.int .u64 p.tm, .slice p.A p.evs.length p.c] 35) = u := ⟨_, rfl⟩
    have b1 : Below w1.heap.size w1 u1 := by rw [← hu1]; exact (Below.refl _ _).alloc (Nat.le_refl _) _
    have s1 : u1.heap.size = w1.heap.size + 1 := by rw [← hu1, World.size_alloc]
    have ht1 : TrRow u1 u1.heap.size (.slice (some ⟨w1.heap.size, 0, none⟩) ([p] : List Pm).length 1) [p] := ⟨ERow.held (us := flatN [p]) (t := 35) (by rw [← hu1]; exact heap_alloc_new w1 _) (by omega) (show (1 : Nat) ≤ maxLen by unfold maxLen; omega), fun d hd => by
      obtain rfl := List.mem_singleton.1 hd
      exact (HP1.out.below b1).more (by omega)⟩
    have HCL : Hid (Calls Tryz.prog 26 #[.slice (some ⟨w1.heap.size, 0, none⟩) 1 1] u1 fun e w' => ∃ A' c' es, e = .returned (.slice A' es.length c') ∧ OwnT w' u1.heap.size (.slice A' es.length c') es ∧ es.map (·.p) = [p].map (·.p) ∧ Below u1.heap.size u1 w') := Lib.hid (tclone_any _ _ [p] u1 ht1 HFT.out)
    have HW1' := Lib.hid (HW1.out.below b1)
    have HB1' := Lib.hid (HB1.out.trans (b1.mono (by omega)))
    clear hb1 b1 ht1
    go_wp2_with fail
    refine HCL.out.mono ?_
    rintro e w2 ⟨A5, c5, es, rfl, hT2, hep, hb2⟩
    obtain ⟨q, rfl⟩ : ∃ q, es = [q] := by
      have := congrArg List.length hep
      simp at this
      exact List.length_eq_one_iff.1 this
    have HQ := Lib.hid hep
    have z2 := hb2.size
    have HW2 := Lib.hid (HW1'.out.below hb2)
    have HB2 := Lib.hid (HB1'.out.trans (hb2.mono (by omega)))
    have HLC := Lib.hid (wlast_any HW2.out)
    have HT2 := Lib.hid hT2
    clear hT2 hep hb2
    go_wp2_with fail
    refine HLC.out.mono ?_
    rintro e w3 ⟨rfl, hb3⟩
    have z3 := hb3.size
    have HW3 := Lib.hid (HW2.out.below hb3)
    have HB3 := Lib.hid (HB2.out.trans (hb3.mono (by omega)))
    have HT3 := Lib.hid (HT2.out.below hb3)
    have HLT := Lib.hid HW3.out.last
    have HBE := Lib.hid (fun w' => @WAt.behind w3 w' n g c kc A KA ds most bg cl bs HW3.out)
    have HLS := Lib.hid (fun j => @lastB_ws g KA bs j)
    have HSE := Lib.hid (fun (w' : World) (bi : List Bk) (b b' : Bk) (h : WAt w' n g A c ds most bg cl KA kc bs) => WAt.set (bi := bi) (b := b) (b' := b') h)
    clear hb3
    obtain ⟨L, hL2⟩ : ∃ L, lastB bs = L := ⟨_, rfl⟩
    have HLB := Lib.hid hL2
    rw [hL2] at HLT hL ⊢
    clear hL2
    obtain ⟨LA, lc, l⟩ := L
    replace HLT : Hid (OwnT w3 n (.slice LA l.length lc) l) := HLT
    replace hL : l.length ≤ 1000000000 := hL
    dsimp only [Bk.val]
    obtain ⟨m, hm⟩ : ∃ m, l.length = m := ⟨_, rfl⟩
    have HM := Lib.hid hm
    rw [hm] at HLT hL ⊢
    clear hm
    have hnz3 : n ≤ w3.heap.size := HW3.out.size
    have hfq : (flatN [q]).length = 1 * 2 := flatN_length _
    have hone := oneN [q]
    have HLEN := Lib.hid (show (l ++ [q]).length = m + 1 by rw [List.length_append, HM.out]; rfl)
    have HS1 := Lib.hid (fun (j : Nat) (h : WS g KA bs j) => Nat.lt_of_lt_of_le (HW1.out.lt h).2 (show w1.heap.size ≤ u1.heap.size by omega))
    have HA5 := Lib.hid (show ∀ j, ob A5 = some j → u1.heap.size ≤ j from fun j e => (World.ownsRow.lt HT3.out.1 j (by rw [ob_own]; exact e)).1)
    have hn1 : n ≤ u1.heap.size := HW1'.out.size
    have FOUR := Lib.hid (fun w4 A6 c6 => add_four (w4 := w4) (A6 := A6) (c6 := c6) HW3.out HLB.out HM.out HT3.out hn1 HS1.out)
    have MORE := Lib.hid (fun w5 (h : WAt w5 n g A c ds most bg cl KA kc bs) (hT : OwnT w5 n (.slice A5 1 c5) [q]) u6 (hu6 : w5.alloc (.cells #[.slice A5 1 c5] 23) = u6) => add_more h hT HA5.out HS1.out hu6)
    have hsz1 : w.heap.size ≤ u1.heap.size := HB1'.out.size
    rcases Nat.eq_zero_or_pos m with hm0 | hm0
    · have hmb : ¬ ((m : Int) > 0) := by omega
      have hmb2 : ¬ ((0 : Int) < m) := by omega
      have HNR : Hid (¬ roomW (ds.map (·.p)) most (lastB bs).ps p) := Lib.hid fun h => by
        have := h.1
        rw [HLB.out] at this
        have h2 := HM.out
        dsimp only at this
        omega
      go_wp2_with (first | (at_builtin; refine wpList_append_keep _ rfl _ _ 23 35 rfl n i1 _ 2 32 Tryz.underlying23 hi1 hy0 hy1 hy2 rfl (by decide) (.slice LA m lc) m (flatN l) (by rfl) (by rw [← HM.out] at HLT ⊢; exact HLT.out.1) _ _ 1 (flatN [q]) (by rfl) HT3.out.row.1 hfq hone (by unfold maxLen; omega) (by omega) hnz3 (m + 1) rfl (flatN (l ++ [q])) (flatN_append _ _).symm ?_; intro A6 c6 w4 hown4 hg4 hat4 hold4; obtain ⟨f1, f2, f3, f4⟩ := FOUR.out w4 A6 c6 hown4 hg4 hold4; have HW4 := Lib.hid f1; have HO4 := Lib.hid f2; have HT4 := Lib.hid f3; have HB4 := Lib.hid ((PartN.of_below HB3.out).trans f4); have HAT4 := Lib.hid hat4; clear hown4 hg4 hat4 hold4 f1 f2 f3 f4; obtain ⟨u6, hu6⟩ : ∃ u, w4.alloc (.cells #[.slice A5 1 c5] 23) = u := ⟨_, rfl⟩; obtain ⟨y3, hg6, hn6, t4, t5, t6⟩ := MORE.out w4 HW4.out HO4.out u6 hu6; have HK6 := Lib.hid t4; have HE6 := Lib.hid t5; have HMR := Lib.hid t6; clear t4 t5 t6) | (at_builtin; refine wpList_append_erow _ rfl _ _ 57 23 rfl n i2 (.slice none 0 0) 1 24 Tryz.underlying57 hi2 hv0 hv1 hv2 rfl (by decide) (.slice KA bs.length kc) bs.length (bkVs bs) (by rfl) HK6.out _ _ 1 [.slice A5 1 c5] (by rfl) HE6.out rfl (by simp [Value.oneCell']) (by unfold maxLen; omega) (by omega) hn6 (bs.length + 1) rfl (bkVs (bs ++ [⟨A5, c5, [q]⟩])) (bkVs_snoc bs ⟨A5, c5, [q]⟩) ?_; intro A7 c7 w7 hown7 hg7 hat7; obtain ⟨k1, k2, k3, HW7, HP7, HS7⟩ := HMR.out A7 c7 w7 hown7 hg7 hat7; clear hown7 hg7 hat7))
      go_ret
      exact ⟨by rw [HV0.out]; rfl, A7, c7, bs ++ [⟨A5, c5, [q]⟩], HW7.out, HB4.out.trans HP7.out, (by first | exact HS7.out _ hsz1 HB4.out.size | (rw [← hN]; exact HS7.out _ hsz1 HB4.out.size)), fun hv => absurd HV0.out hv, fun _ => .inr ⟨_, HNR.out, rfl, HQ.out⟩⟩
    · have hmb : (m : Int) > 0 := by omega
      have hmb2 : (0 : Int) < m := by omega
      have hne : bs ≠ [] := fun e => by
        have h1 := HLB.out
        rw [e, lastB_nil] at h1
        injection h1 with _ _ h1
        have h2 := HM.out
        rw [← h1] at h2
        simp only [List.length_nil] at h2
        omega
      obtain ⟨bi, b, hbs⟩ := (List.eq_nil_or_concat bs).resolve_left hne
      rw [List.concat_eq_append] at hbs
      have hbb : b = ⟨LA, lc, l⟩ := by rw [← HLB.out, hbs, lastB_snoc]
      have HBS := Lib.hid (show bs = bi ++ [⟨LA, lc, l⟩] by rw [hbs, hbb])
      clear hne hbs hbb
      obtain ⟨F, hF⟩ : ∃ F, (decide (((l ++ [q]).length : Int) ≤ most) && fitB (ds.map (·.p)) (l ++ [q])) = F := ⟨_, rfl⟩
      have hFQ : fitB (ds.map (·.p)) (l ++ [q]) = fitB (ds.map (·.p)) (l ++ [p]) := fitB_same (by rw [List.map_append, List.map_append, HQ.out])
      have HF : Hid ((F = true) ↔ roomW (ds.map (·.p)) most l p) := Lib.hid (by
        rw [← hF, hFQ]
        unfold roomW
        rw [Bool.and_eq_true, decide_eq_true_eq, HLEN.out, HM.out]
        exact ⟨fun h => ⟨hm0, by have := h.1; omega, h.2⟩, fun h => ⟨by have := h.2.1; omega, h.2.2⟩⟩)
      have HFIT : Hid (∀ (W : World) A6 c6, WAt W n g A c ds most bg cl KA kc bs → OwnT W n (.slice A6 (m + 1) c6) (l ++ [q]) → Calls Tryz.prog 28 #[.pointer (some ⟨g, 0, none⟩), .slice A6 (m + 1) c6] W fun e w' => e = .returned (.bool F) ∧ Below W.heap.size W w') := Lib.hid fun W A6 c6 hw ht => by
        have h1 := wfit_any hw A6 c6 (l ++ [q]) (by rw [HLEN.out]; exact ht.row)
        rw [hF, HLEN.out] at h1
        exact h1
      clear hF hFQ
      cases F with
      | false =>
        have HNR : Hid (¬ roomW (ds.map (·.p)) most (lastB bs).ps p) := Lib.hid fun h => by
          rw [HLB.out] at h
          exact absurd (HF.out.2 h) (by decide)
        go_wp2_with (at_builtin; refine wpList_append_keep _ rfl _ _ 23 35 rfl n i1 _ 2 32 Tryz.underlying23 hi1 hy0 hy1 hy2 rfl (by decide) (.slice LA m lc) m (flatN l) (by rfl) (by rw [← HM.out] at HLT ⊢; exact HLT.out.1) _ _ 1 (flatN [q]) (by rfl) HT3.out.row.1 hfq hone (by unfold maxLen; omega) (by omega) hnz3 (m + 1) rfl (flatN (l ++ [q])) (flatN_append _ _).symm ?_; intro A6 c6 w4 hown4 hg4 hat4 hold4; obtain ⟨f1, f2, f3, f4⟩ := FOUR.out w4 A6 c6 hown4 hg4 hold4; have HW4 := Lib.hid f1; have HO4 := Lib.hid f2; have HT4 := Lib.hid f3; have HB4 := Lib.hid ((PartN.of_below HB3.out).trans f4); have HAT4 := Lib.hid hat4; clear hown4 hg4 hat4 hold4 f1 f2 f3 f4; have HFI := Lib.hid (HFIT.out w4 A6 c6 HW4.out HT4.out))
        refine HFI.out.mono ?_
        rintro e w5 ⟨rfl, hb5⟩
        have HW5 := Lib.hid (HW4.out.below hb5)
        have HO5 := Lib.hid (HO4.out.below hb5)
        have HB5 := Lib.hid (HB4.out.trans (PartN.of_below hb5))
        clear hb5
        obtain ⟨u6, hu6⟩ : ∃ u, w5.alloc (.cells #[.slice A5 1 c5] 23) = u := ⟨_, rfl⟩
        obtain ⟨y3, hg6, hn6, t4, t5, t6⟩ := MORE.out w5 HW5.out HO5.out u6 hu6
        have HK6 := Lib.hid t4
        have HE6 := Lib.hid t5
        have HMR := Lib.hid t6
        clear t4 t5 t6
        go_wp2_with (at_builtin; refine wpList_append_erow _ rfl _ _ 57 23 rfl n i2 (.slice none 0 0) 1 24 Tryz.underlying57 hi2 hv0 hv1 hv2 rfl (by decide) (.slice KA bs.length kc) bs.length (bkVs bs) (by rfl) HK6.out _ _ 1 [.slice A5 1 c5] (by rfl) HE6.out rfl (by simp [Value.oneCell']) (by unfold maxLen; omega) (by omega) hn6 (bs.length + 1) rfl (bkVs (bs ++ [⟨A5, c5, [q]⟩])) (bkVs_snoc bs ⟨A5, c5, [q]⟩) ?_; intro A7 c7 w7 hown7 hg7 hat7; obtain ⟨k1, k2, k3, HW7, HP7, HS7⟩ := HMR.out A7 c7 w7 hown7 hg7 hat7; clear hown7 hg7 hat7)
        go_ret
        exact ⟨by rw [HV0.out]; rfl, A7, c7, bs ++ [⟨A5, c5, [q]⟩], HW7.out, HB5.out.trans HP7.out, (by first | exact HS7.out _ hsz1 HB5.out.size | (rw [← hN]; exact HS7.out _ hsz1 HB5.out.size)), fun hv => absurd HV0.out hv, fun _ => .inr ⟨_, HNR.out, rfl, HQ.out⟩⟩
      | true =>
        have HR := Lib.hid (HF.out.1 rfl)
        go_wp2_with (at_builtin; refine wpList_append_keep _ rfl _ _ 23 35 rfl n i1 _ 2 32 Tryz.underlying23 hi1 hy0 hy1 hy2 rfl (by decide) (.slice LA m lc) m (flatN l) (by rfl) (by rw [← HM.out] at HLT ⊢; exact HLT.out.1) _ _ 1 (flatN [q]) (by rfl) HT3.out.row.1 hfq hone (by unfold maxLen; omega) (by omega) hnz3 (m + 1) rfl (flatN (l ++ [q])) (flatN_append _ _).symm ?_; intro A6 c6 w4 hown4 hg4 hat4 hold4; obtain ⟨f1, f2, f3, f4⟩ := FOUR.out w4 A6 c6 hown4 hg4 hold4; have HW4 := Lib.hid f1; have HO4 := Lib.hid f2; have HT4 := Lib.hid f3; have HB4 := Lib.hid ((PartN.of_below HB3.out).trans f4); have HAT4 := Lib.hid hat4; clear hown4 hg4 hat4 hold4 f1 f2 f3 f4; have HFI := Lib.hid (HFIT.out w4 A6 c6 HW4.out HT4.out))
        refine HFI.out.mono ?_
        rintro e w5 ⟨rfl, hb5⟩
        have HW5 := Lib.hid (HW4.out.below hb5)
        have HT5 := Lib.hid (HT4.out.below hb5)
        have HB5 := Lib.hid (HB4.out.trans (PartN.of_below hb5))
        have hw3z := HB3.out.size
        have hbt : OwnT w5 n (Bk.val ⟨A6, c6, l ++ [q]⟩) (l ++ [q]) := by
          unfold Bk.val
          dsimp only
          rw [HLEN.out]
          exact HT5.out
        obtain ⟨qb, hKA, hc, hfr, hwt⟩ := HW5.out.set (b' := ⟨A6, c6, l ++ [q]⟩) HBS.out hbt (fun j hj => by
          rw [← ob_own A6 (m + 1) c6] at hj
          rcases HAT4.out with h4 | h4
          · exact .inl (by rw [← ob_own LA m lc, ← h4]; exact hj)
          · refine .inr fun x hx e => ?_
            rw [h4] at hj
            injection hj with hj
            have := (HW3.out.lt (.inr (.inr ⟨x, hx, e⟩))).2
            omega)
        have y3 := HW5.out.cells.2.2.2.1
        have hKC := (ERow.of_own HW5.out.blk.1).len
        rw [HBS.out, List.length_append, List.length_singleton, hKA] at y3
        rw [HBS.out, List.length_append, List.length_singleton] at hKC
        have hKC1 := hKC.2.1
        have hKC2 := hKC.2.2
        have HKA := Lib.hid hKA
        have hv : Bk.val ⟨A6, c6, l ++ [q]⟩ = .slice A6 (m + 1) c6 := by unfold Bk.val; dsimp only; rw [HLEN.out]
        rw [hv] at hwt
        have HWT := Lib.hid hwt
        have hml : bi.length < bs.length := by rw [HBS.out]; simp
        have HBL := Lib.hid (show bi.length = bi.length from rfl)
        generalize bi.length = i at y3 hc hfr HWT hml hKC1
        have hqb : qb < w5.heap.size := World.block_lt_of_cell? w5 ⟨qb, i, none⟩ hc
        have e1 : (0 : Int) ≤ i := by omega
        clear hb5 hbt hwt hKC hKA hv
        go_wp2_with fail
        go_region
        all_goals (
        go_wp2_with fail
        go_ret
        refine ⟨by rw [HV0.out]; rfl, KA, kc, bi ++ [⟨A6, c6, l ++ [q]⟩], HWT.out.below (Below.refl _ _).drew, HB5.out.trans ((PartN.put (S := WS g KA bs) (Or.inr (Or.inl (by rw [HKA.out]; rfl))) _ _).trans (PartN.of_below (Below.refl _ _).drew)), ?_, fun hv => absurd HV0.out hv, fun _ => .inl ⟨bi, ⟨LA, lc, l⟩, _, HBS.out, rfl, HR.out, by rw [List.map_append]; exact congrArg _ HQ.out⟩⟩
        intro j hj
        rcases hj with rfl | hj | ⟨x, hx, hj⟩
        · exact .inl (.inl rfl)
        · exact .inl (.inr (.inl hj))
        · rcases List.mem_append.1 hx with hx | hx
          · exact .inl (.inr (.inr ⟨x, by rw [HBS.out]; exact List.mem_append_left _ hx, hj⟩))
          · rw [List.mem_singleton.1 hx, ← ob_own A6 (m + 1) c6] at hj
            rcases HAT4.out with h4 | h4
            · exact .inl (.inr (.inr ⟨⟨LA, lc, l⟩, by rw [HBS.out]; simp, by rw [← ob_own LA m lc, ← h4]; exact hj⟩))
            · rw [h4] at hj
              injection hj with hj
              exact .inr (by have := hw3z; omega))
  · have hvb : (V != 0) = true := bne_iff_ne.2 hv
    unfold AddGot
    go_enter Tryz.func9, Tryz.ntmps9
    go_wp2_with fail
    refine HCK.out.mono ?_
    rintro e w1 ⟨rfl, hb1⟩
    have HB1 := Lib.hid (HB0.out.trans (hb1.mono (by omega)))
    have HW1 := Lib.hid (HW0.out.below hb1)
    clear hb1
    go_wp2_with fail
    go_ret
    exact ⟨rfl, KA, kc, bs, HW1.out, PartN.of_below HB1.out, fun j hj => .inl hj, fun _ => rfl, fun e => absurd e hv⟩
end
end Go.Proofs.YtohibmjjhifggaaGreat

namespace Go.Proofs.YtohibmjjhifggaaGreat
open Go.RowKit
theorem known_yes {n : Int} (h : n = 1 ∨ n = 2) (w : World) : Calls Tryz.prog 107 #[.int .i64 n] w fun e w' => e = .returned (.bool true) ∧ w = w' := by
  rcases h with rfl | rfl
  all_goals
    go_enter Tryz.func107, Tryz.ntmps107
    go_wp2
    go_ret
    exact ⟨rfl, rfl⟩
end Go.Proofs.YtohibmjjhifggaaGreat

namespace Go.Proofs.YtohibmjjhifggaaGreat
open Go.RowKit
/-- append behind a slice that has no room. -/
theorem run_append_full {P : Program} (w : World) (t ty e : TypeId) (i : TypeInfo) (z : Value) (ht : P.underlying t = some (.slice e)) (hi : P.info? e = some i) (hz : i.zero = some z)
    (hsize : i.size = 1) (hby : i.bytes = 1) (hzs : z.cells.size = 1) (B B2 : Nat) (A A2 : Option Addr) (c c2 : Nat) (xs ys : List Int) (hr : Row w B (.slice A xs.length c) xs) (hr2 : Row w B2 (.slice A2 ys.length c2) ys)
    (h0 : 0 < xs.length) (h02 : 0 < ys.length) (hc : c < xs.length + ys.length) (hl : xs.length + ys.length ≤ 100000000000) :
    ∃ cap w', (Builtin.append_ #[t, t] ty #[.slice A xs.length c, .slice A2 ys.length c2]).run P w = .ok (.slice (some ⟨w.heap.size, 0, none⟩) (xs.length + ys.length) cap) w' ∧
      w'.ownsRow w.heap.size e 1 (.slice (some ⟨w.heap.size, 0, none⟩) (xs.length + ys.length) cap) (xs.length + ys.length) ((xs ++ ys).map (.int .u8)) ∧ Below w.heap.size w w' := by
  obtain ⟨_, _, hv, _, _, _, h4⟩ := hr
  injection hv with e1 _ e3
  subst e1
  obtain ⟨b, o, rfl, _, hcell⟩ := h4 h0
  obtain ⟨_, _, hv2, _, _, _, h42⟩ := hr2
  injection hv2 with e1 _ e4
  subst e1
  obtain ⟨b2, o2, rfl, _, hcell2⟩ := h42 h02
  have key : ∀ (zs : List Int) (bb oo : Nat), (∀ i, i < zs.length → w.cell? ⟨bb, oo + i, none⟩ = some (.int .u8 (zs.getD i 0))) → ∀ (j : Nat) (v : Value), (zs.map (Value.int .u8))[j]? = some v → w.cell? ((⟨bb, oo, none⟩ : Addr).add j) = some v := by
    intro zs bb oo hcz j v hj
    have hjl : j < zs.length := by have := (List.getElem?_eq_some_iff.1 hj).1; simpa using this
    rw [Go.WideShapes.add_plain, hcz j hjl, ← hj]
    simp [List.getD, List.getElem?_eq_getElem hjl]
  have hr := run_append_grow (P := P) w t ty e i z ht hi hz ⟨b, o, none⟩ xs.length c (xs.map (.int .u8)) (by simp [hsize]) (key xs b o hcell) ⟨b2, o2, none⟩ ys.length c2 (ys.map (.int .u8)) (by simp [hsize]) (key ys b2 o2 hcell2) hc (by omega) (by rw [hby]; exact growslice_fits (by omega) (by omega))
  have hge := grownCap_ge w (xs.length + ys.length) c e
  have hcm := grownCap_le_maxLen w (xs.length + ys.length) c e (by simp only [maxLen]; omega)
  refine ⟨_, _, hr, ⟨by simp, .inr ⟨w.heap.size, _, _, rfl, Nat.le_refl _, heap_alloc_new w.drew _, hge, hcm, ?_, ?_⟩⟩, ((Below.refl _ _).alloc (Nat.le_refl _) _).drew⟩
  · simp only [Array.size_append, List.size_toArray, size_zeroCells, hzs, List.length_map]
    omega
  · simp only [Array.toList_append, List.append_assoc, Nat.mul_one]
    rw [← List.append_assoc, ← List.map_append, show xs.length + ys.length = ((xs ++ ys).map (Value.int .u8)).length by simp]
    exact List.take_left
/-- The same as a step of a region that draws its order. -/
theorem step_append_full {P : Program} {w : World} {ops : Array Oper} {o : Oper} {a : Act} {K : Act → World → Prop} {Q : Exit → Act → World → Prop} {E : Prop} (hgd : o.guard = none) (s x : Operand) (t : TypeId)
    (ho : o.op = .call { callee := .builtin .append, args := #[s, x], argTypes := #[t, t] })
    (e : TypeId) (i : TypeInfo) (z : Value) (ht : P.underlying t = some (.slice e)) (hi : P.info? e = some i) (hz : i.zero = some z) (hsize : i.size = 1) (hby : i.bytes = 1) (hzs : z.cells.size = 1)
    (B B2 : Nat) (A A2 : Option Addr) (c c2 n m : Nat) (xs ys : List Int) (hs : a.eval s = .slice A n c) (hx : a.eval x = .slice A2 m c2) (hn : xs.length = n) (hm : ys.length = m) (hr : Row w B (.slice A n c) xs) (hr2 : Row w B2 (.slice A2 m c2) ys)
    (h0 : 0 < n) (h02 : 0 < m) (hc : c < n + m) (hl : n + m ≤ 100000000000) (H : Nat) (hH : w.heap.size = H)
    (h : ∀ cap w', w'.ownsRow w.heap.size e 1 (.slice (some ⟨H, 0, none⟩) (n + m) cap) (n + m) ((xs ++ ys).map (.int .u8)) → Below w.heap.size w w' → K (a.put o.dst (.slice (some ⟨H, 0, none⟩) (n + m) cap)) w') :
    if Region.wanted o (yielded ops a.tmps) = true then Oper.wp P o a w K Q else E := by
  have hw : Region.wanted o (yielded ops a.tmps) = true := by simp [Region.wanted, hgd]
  subst hn hm hH
  obtain ⟨cap, w', hrun, h2, h3⟩ := run_append_full (P := P) w t o.type e i z ht hi hz hsize hby hzs B B2 A A2 c c2 xs ys hr hr2 h0 h02 hc hl
  rw [if_pos hw]
  unfold Oper.wp execOp
  simp only [ho, resolve, invoke, builtin, Sem.run_bind, Sem.run_pure, Result.andThen_ok, List.map_toArray, List.map_cons, List.map_nil, hs, hx, hrun]
  exact h cap w' h2 h3
theorem freeze_first (w : World) (C : Array Value) (e : TypeId) (o : Obj) (k : Nat) : ((w.alloc (.cells C e)).alloc o).freeze ⟨w.heap.size, k, none⟩ 1 = (w.alloc (.cells C e (k, k + 1))).alloc o := by
  unfold World.freeze
  rw [if_neg (by decide)]
  have hm : ∀ (a : Array Obj) (x y : Obj) (f : Obj → Obj), ((a.push x).push y).modify a.size f = (a.push (f x)).push y := by
    intro a x y f
    apply Array.ext
    · simp
    · intro i h1 h2
      simp only [Array.getElem_modify, Array.getElem_push]
      by_cases h : a.size = i
      · subst h
        simp
      · by_cases hi : i < a.size
        · simp [h, hi, Nat.lt_succ_of_lt hi]
        · have hi2 : i = a.size + 1 := by simp at h1; omega
          subst hi2
          simp
  show ({ ((w.alloc (.cells C e)).alloc o) with heap := ((w.heap.push (.cells C e)).push o).modify w.heap.size _ } : World) = _
  rw [hm]
  rfl
/-- A constant's bytes get their mark behind another block, too. -/
theorem run_convert_const_past {P : Program} (w : World) (t e : TypeId) (C : Array Value) (o : Obj) (n c g : Nat) (hg : g = w.heap.size) (ht : P.underlying t = some (.slice e)) (he : P.underlying e = some (.int .u8)) :
    (convert t t (.slice (some ⟨g, 0, none⟩) n c)).run P ((w.alloc (.cells C e)).alloc o) = .ok (.slice (some ⟨g, 0, none⟩) n c) ((w.alloc (.cells C e (C.size, C.size + 1))).alloc o) := by
  subst hg
  have hsh : ((w.alloc (.cells C e)).alloc o).shape? w.heap.size = some (e, C.size) := by
    have : ((w.alloc (.cells C e)).alloc o).heap[w.heap.size]? = some (.cells C e) := by
      show ((w.heap.push (.cells C e)).push o)[w.heap.size]? = _
      simp [Array.getElem?_push]
    unfold World.shape?
    rw [this]
  simp [convert, run_underlying ht, run_underlying he, markStringish, hsh]
  exact freeze_first w C e o C.size
theorem own_cap {w : World} {base g n cap : Nat} {e : TypeId} {xs : List Value} (h : w.ownsRow base e 1 (.slice (some ⟨g, 0, none⟩) n cap) n xs) : n ≤ cap ∧ cap ≤ 9223372036854775807 := by
  rcases h.2 with ⟨h0, _⟩ | ⟨g', cap', cur, hv, _, _, h1, h2, _⟩
  · cases h0
  · injection hv with _ _ e3
    subst e3
    unfold maxLen at h2
    exact ⟨h1, by omega⟩
theorem body_row {w : World} {base g cap : Nat} {e : TypeId} {k : Int} {p : List Int} (h : w.ownsRow base e 1 (.slice (some ⟨g, 0, none⟩) (5 + (encI p.length).length + p.length) cap) (5 + (encI p.length).length + p.length) ((markL ++ [k] ++ encI p.length).map (.int .u8) ++ p.map (.int .u8))) :
    Row w w.heap.size (.slice (some ⟨g, 4, none⟩) (5 + (encI p.length).length + p.length - 4) (cap - 4)) (bodyL k p) := by
  obtain ⟨hc, _⟩ := own_cap h
  rw [← List.map_append] at h
  have hd := (Row.of_own h).drop (k := 4) (by simp [markL])
  have e1 : (markL ++ [k] ++ encI p.length ++ p).drop 4 = bodyL k p := by simp [markL, bodyL, encT]
  have e2 : (bodyL k p).length = 5 + (encI p.length).length + p.length - 4 := by simp [bodyL, encT]; omega
  rw [e1, e2, if_neg (by omega), Option.map_some, Go.WideShapes.add_plain] at hd
  exact hd
theorem le4_row (W : World) (t : TypeId) (s : Nat) : Row (W.alloc (.cells #[.int .u8 ((s : Int) % 256), .int .u8 ((s : Int) / 256 % 256), .int .u8 ((s : Int) / 65536 % 256), .int .u8 ((s : Int) / 16777216)] t)) (W.heap.size + 1) (.slice (some ⟨W.heap.size, 0, none⟩) 4 4) (le4 s) :=
  Row.of_cells (xs := le4 s) (by simp [le4]) (by omega) (fun i hi => by
    rw [World.cell?_alloc_new]
    simp [le4] at hi
    rcases (by omega : i = 0 ∨ i = 1 ∨ i = 2 ∨ i = 3) with rfl | rfl | rfl | rfl <;> rfl)
theorem bodyL_byte {k : Int} {p : List Int} (hk : k = 1 ∨ k = 2) (hp : p.length ≤ 4096) (hb : ∀ x ∈ p, 0 ≤ x ∧ x < 256) : ∀ x ∈ bodyL k p, 0 ≤ x ∧ x < 256 := by
  intro x hx
  simp only [bodyL, encT, List.mem_cons, List.mem_append] at hx
  rcases hx with rfl | hx | hx
  · omega
  · exact encI_bytes (by omega) x hx
  · exact hb x hx
def markCells : Array Value := #[.int .u8 199, .int .u8 84, .int .u8 71, .int .u8 1]
theorem four_cells {w : World} {g : Nat} (hg : g < w.heap.size) (hc : ∀ i, w.cell? ⟨g, i, none⟩ = markCells[i]?) : Row w w.heap.size (.slice (some ⟨g, 0, none⟩) 4 4) markL :=
  Row.of_cells (xs := markL) (by simp [markL]) hg (fun i hi => by
    rw [hc i]
    simp [markL] at hi
    rcases (by omega : i = 0 ∨ i = 1 ∨ i = 2 ∨ i = 3) with rfl | rfl | rfl | rfl <;> rfl)
theorem one_cell {w : World} {g : Nat} {y : Int} (hg : g < w.heap.size) (hc : w.cell? ⟨g, 0, none⟩ = some (.int .u8 y)) : Row w w.heap.size (.slice (some ⟨g, 0, none⟩) 1 1) [y] :=
  Row.of_cells (xs := [y]) (by simp) hg (fun i hi => by
    simp at hi
    subst hi
    exact hc)
theorem rows_a (W : World) (y : Int) (g g2 : Nat) (hg : g = W.heap.size) (hg2 : g2 = W.heap.size + 1) :
    Row ((W.alloc (.cells markCells 5 (4, 5))).alloc (.cells #[.int .u8 y] 5)).drew ((W.alloc (.cells markCells 5 (4, 5))).alloc (.cells #[.int .u8 y] 5)).drew.heap.size (.slice (some ⟨g, 0, none⟩) 4 4) markL ∧
    Row ((W.alloc (.cells markCells 5 (4, 5))).alloc (.cells #[.int .u8 y] 5)).drew ((W.alloc (.cells markCells 5 (4, 5))).alloc (.cells #[.int .u8 y] 5)).drew.heap.size (.slice (some ⟨g2, 0, none⟩) 1 1) [y] := by
  subst hg hg2
  refine ⟨four_cells (by simp <;> omega) (fun i => ?_), one_cell (by simp <;> omega) ?_⟩
  · show ((W.alloc (.cells markCells 5 (4, 5))).alloc (.cells #[.int .u8 y] 5)).cell? _ = _
    rw [World.cell?_alloc_lt _ _ _ (by simp), World.cell?_alloc_mark]
  · show ((W.alloc (.cells markCells 5 (4, 5))).alloc (.cells #[.int .u8 y] 5)).cell? _ = _
    rw [show W.heap.size + 1 = (W.alloc (.cells markCells 5 (4, 5))).heap.size by simp, World.cell?_alloc_new]
    rfl
theorem rows_b (W : World) (y : Int) (g g2 : Nat) (hg : g = W.heap.size) (hg2 : g2 = W.heap.size + 1) :
    Row ((W.alloc (.cells #[.int .u8 y] 5)).alloc (.cells markCells 5 (4, 5))).drew ((W.alloc (.cells #[.int .u8 y] 5)).alloc (.cells markCells 5 (4, 5))).drew.heap.size (.slice (some ⟨g2, 0, none⟩) 4 4) markL ∧
    Row ((W.alloc (.cells #[.int .u8 y] 5)).alloc (.cells markCells 5 (4, 5))).drew ((W.alloc (.cells #[.int .u8 y] 5)).alloc (.cells markCells 5 (4, 5))).drew.heap.size (.slice (some ⟨g, 0, none⟩) 1 1) [y] := by
  subst hg hg2
  refine ⟨four_cells (by simp <;> omega) (fun i => ?_), one_cell (by simp <;> omega) ?_⟩
  · show ((W.alloc (.cells #[.int .u8 y] 5)).alloc (.cells markCells 5 (4, 5))).cell? _ = _
    rw [show W.heap.size + 1 = (W.alloc (.cells #[.int .u8 y] 5)).heap.size by simp, World.cell?_alloc_mark]
  · show ((W.alloc (.cells #[.int .u8 y] 5)).alloc (.cells markCells 5 (4, 5))).cell? _ = _
    rw [World.cell?_alloc_lt _ _ _ (by simp), World.cell?_alloc_new]
    rfl
set_option maxRecDepth 100000 in
set_option maxHeartbeats 2000000 in
theorem fput_any (k : Int) (hk : k = 1 ∨ k = 2) (A : Option Addr) (c : Nat) (p : List Int) (hp : p.length ≤ 4096) (hb : ∀ x ∈ p, 0 ≤ x ∧ x < 256) (w : World) (hrow : Row w w.heap.size (.slice A p.length c) p) :
    Calls Tryz.prog 93 #[.agg #[.int .i64 k, .slice A p.length c]] w fun e w' => ∃ cap g, e = .returned (.tuple #[.slice (some ⟨g, 0, none⟩) (encFr k p).length cap, .int .i64 0]) ∧
      w'.ownsRow w.heap.size 5 1 (.slice (some ⟨g, 0, none⟩) (encFr k p).length cap) (encFr k p).length ((encFr k p).map (.int .u8)) ∧ Below w.heap.size w w' := by
  have HK := Lib.hid (fun W => known_yes hk W)
  have HROW := Lib.hid hrow; clear hrow
  have HBP := Lib.hid hb; clear hb
  obtain ⟨i0, hi, hz0, hz1, hz2⟩ := info_parts Tryz.infoU8
  have hk8 : IntKind.u8.wrap k = k := by rw [IntKind.wrap_u8]; omega
  have kc := fun (w : World) (C : Array Value) (n c g : Nat) (h : g = w.heap.size) => Joins.run_convert_bytes_const_at (P := Tryz.prog) w 38 5 C n c g h Tryz.underlying38 Tryz.underlying5
  have kcd : ∀ (w : World) (C : Array Value) (n c g : Nat), g = w.heap.size → (convert 38 38 (.slice (some ⟨g, 0, none⟩) n c)).run Tryz.prog (w.alloc (.cells C 5)).drew = .ok (.slice (some ⟨g, 0, none⟩) n c) (w.alloc (.cells C 5 (C.size, C.size + 1))).drew :=
    fun w C n c g h => kc w.drew C n c g h
  have kp := fun (w : World) (C : Array Value) (o : Obj) (n c g : Nat) (h : g = w.heap.size) => run_convert_const_past (P := Tryz.prog) w 38 5 C o n c g h Tryz.underlying38 Tryz.underlying5
  have kpd : ∀ (w : World) (C : Array Value) (o : Obj) (n c g : Nat), g = w.heap.size → (convert 38 38 (.slice (some ⟨g, 0, none⟩) n c)).run Tryz.prog ((w.alloc (.cells C 5)).alloc o).drew = .ok (.slice (some ⟨g, 0, none⟩) n c) ((w.alloc (.cells C 5 (C.size, C.size + 1))).alloc o).drew :=
    fun w C o n c g h => kp w.drew C o n c g h
  have hput : ∀ (W : World) (A : Option Addr) (c : Nat), Row W W.heap.size (.slice A 5 c) (markL ++ [k]) → Calls Tryz.prog 64 #[.slice A 5 c, .int .u64 p.length] W fun e W' => ∃ v, e = .returned v ∧ W'.ownsRow W.heap.size 5 1 v (5 + (encI p.length).length) ((markL ++ [k] ++ encI p.length).map (.int .u8)) ∧ Below W.heap.size W W' :=
    fun W A c h => put_any A c (markL ++ [k]) p.length (by omega) (by simp [markL]) W h
  have HPUT := Lib.hid hput
  have hu64 : IntKind.u64.wrap (p.length : Int) = (p.length : Int) := by rw [IntKind.wrap_u64]; omega
  clear hput
  have hbody := bodyL_byte hk hp HBP.out
  have hsl := sumX_lt hbody
  have hs1 := fun W v h => sum_any v [bodyL k p] W h (by intro l hl; simp at hl; subst hl; exact hbody)
  rw [show [bodyL k p].flatten = bodyL k p by simp] at hs1
  have HS1 := Lib.hid hs1
  have HF4 := Lib.hid (fun W => four_any (sumX (bodyL k p)) hsl W)
  simp only [le4V] at HF4
  have HSL := Lib.hid hsl
  clear hbody hs1 hsl
  go_enter Tryz.func93, Tryz.ntmps93
  go_wp2_with fail
  refine (HK.out _).mono ?_
  rintro e w1 ⟨rfl, rfl⟩
  go_wp2_with fail
  go_region_held_law (fun W => W.cell? ⟨w.heap.size, 0, none⟩ = some (.int .i64 k) ∧ W.cell? ⟨w.heap.size, 1, none⟩ = some (.slice A p.length c))
    (first | go_keep | exact ⟨(hb4.cell (p := ⟨w.heap.size, 0, none⟩) (by have := hb3.size; simp at this; simp only; omega)).trans ((hb3.cell (p := ⟨w.heap.size, 0, none⟩) (by simp <;> omega)).trans (by go_simp)), (hb4.cell (p := ⟨w.heap.size, 1, none⟩) (by have := hb3.size; simp at this; simp only; omega)).trans ((hb3.cell (p := ⟨w.heap.size, 1, none⟩) (by simp <;> omega)).trans (by go_simp))⟩ | exact ⟨(hb3.cell (p := ⟨w.heap.size, 0, none⟩) (by simp <;> omega)).trans (by go_simp), (hb3.cell (p := ⟨w.heap.size, 1, none⟩) (by simp <;> omega)).trans (by go_simp)⟩)
    (first
     | (refine step_append_full (by rfl) (.tmp 17) (.tmp 21) 38 (by rfl) 5 i0 (.int .u8 0) Tryz.underlying38 hi hz0 hz1 hz2 rfl _ _ (some ⟨w.heap.size + 1, 0, none⟩) (some ⟨w.heap.size + 1 + 1, 0, none⟩) 4 1 4 1 markL [k] (by rfl) (by rfl) rfl rfl (rows_a (w.alloc _) k (w.heap.size + 1) (w.heap.size + 1 + 1) (by simp) (by simp)).1 (rows_a (w.alloc _) k (w.heap.size + 1) (w.heap.size + 1 + 1) (by simp) (by simp)).2 (by omega) (by omega) (by omega) (by omega) (w.heap.size + 1 + 1 + 1) (by simp) ?_; intro cap3 w3 hown3 hb3)
     | (refine step_append_full (by rfl) (.tmp 17) (.tmp 21) 38 (by rfl) 5 i0 (.int .u8 0) Tryz.underlying38 hi hz0 hz1 hz2 rfl _ _ (some ⟨w.heap.size + 1 + 1, 0, none⟩) (some ⟨w.heap.size + 1, 0, none⟩) 4 1 4 1 markL [k] (by rfl) (by rfl) rfl rfl (rows_b (w.alloc _) k (w.heap.size + 1) (w.heap.size + 1 + 1) (by simp) (by simp)).1 (rows_b (w.alloc _) k (w.heap.size + 1) (w.heap.size + 1 + 1) (by simp) (by simp)).2 (by omega) (by omega) (by omega) (by omega) (w.heap.size + 1 + 1 + 1) (by simp) ?_; intro cap3 w3 hown3 hb3)
     | (go_at_call 64; (with_reducible refine (HPUT.out _ _ _ (Row.of_own hown3)).mono ?_); rintro e w4 ⟨v4, rfl, hown4, hb4⟩))
  all_goals
    have hz3 : w.heap.size ≤ w3.heap.size := by have := hb3.size; simp at this; omega
    have bw3 : Below w.heap.size w w3 := ((((Below.refl _ _).alloc (Nat.le_refl _) _).alloc (by simp) _).alloc (by simp <;> omega) _).drew.trans (hb3.mono (by simp <;> omega))
    have bw4 : Below w.heap.size w w4 := bw3.trans (hb4.mono hz3)
    have hown : w4.ownsRow w.heap.size 5 1 v4 (5 + (encI p.length).length) ((markL ++ [k] ++ encI p.length).map (.int .u8)) := Joins.ownsRow_le hown4 hz3
    have hz31 : w.heap.size < w3.heap.size := by have := hb3.size; simp at this; omega
    have hc1 : w4.cell? ⟨w.heap.size, 1, none⟩ = some (.slice A p.length c) := (hb4.cell (p := ⟨w.heap.size, 1, none⟩) hz31).trans ((hb3.cell (p := ⟨w.heap.size, 1, none⟩) (by simp <;> omega)).trans (by go_simp))
    have HOWN := Lib.hid hown
    have HBW4 := Lib.hid bw4
    have HZ4 := Lib.hid (show w.heap.size < w4.heap.size from Nat.lt_of_lt_of_le hz31 hb4.size)
    clear hz3 hz31 bw3 bw4 hown hown4 hown3 hb4 hb3
    have hlen := encI_ten (n := p.length) (by omega)
    obtain ⟨l1, l2⟩ := hlen
    obtain ⟨g4, cap4, hv4, _, _⟩ := HOWN.out.form (by omega)
    subst hv4
    go_wp2_with (at_builtin; (refine wpList_append_row _ rfl _ _ 38 rfl w.heap.size 5 i0 (.int .u8 0) Tryz.underlying38 hi hz0 hz1 hz2 rfl _ (5 + (encI p.length).length) _ (by rfl) HOWN.out w.heap.size _ p rfl (HROW.out.below HBW4.out) (by omega) (Nat.le_of_lt HZ4.out) ?_; intro v5 w5 hown5 hg5 hn5; obtain ⟨g5, cap5, hv5, hgb5, hgs5⟩ := hown5.form (by omega); subst hv5; obtain ⟨hcp5, hcm5⟩ := own_cap hown5; have hcp6 : (4 : Int) < (cap5 : Int) := (by omega); have HOWN5 := Lib.hid hown5; have HG5 := Lib.hid hg5; have hcp7 : 4 < cap5 := (by omega); clear hown5 hg5 hn5))
    have bw5 : Below w.heap.size w w5 := HBW4.out.grown HG5.out (Nat.le_of_lt HZ4.out) (fun j hj => (HOWN.out.lt j hj).1)
    have HBW5 := Lib.hid bw5
    have HZ5 := Lib.hid (show w.heap.size ≤ w5.heap.size from bw5.size)
    clear bw5
    refine (HS1.out _ _ (Parts.one (by simp) (by simp [World.cell?_alloc_new]) (((body_row HOWN5.out).below ((Below.refl _ _).alloc (Nat.le_refl _) _)).more (by simp)))).mono ?_
    rintro e w6 ⟨rfl, rfl⟩
    go_wp2_with fail
    refine (HF4.out _).mono ?_
    rintro e w7 ⟨rfl, hb7⟩
    have hz7 := hb7.size
    rw [World.size_alloc] at hz7
    have HOWN7 := Lib.hid (own_below (HOWN5.out.alloc _) hb7)
    have HBW7 := Lib.hid ((HBW5.out.alloc HZ5.out _).trans (hb7.mono (by simp; have := HZ5.out; omega)))
    have hz75 : w.heap.size ≤ w7.heap.size := HBW7.out.size
    clear hb7
    go_wp2_with (at_builtin; refine wpList_append_row _ rfl _ _ 38 rfl w.heap.size 5 i0 (.int .u8 0) Tryz.underlying38 hi hz0 hz1 hz2 rfl _ (5 + (encI p.length).length + p.length) _ (by rfl) (HOWN7.out.alloc _) (w7.heap.size + 1) _ (le4 (sumX (bodyL k p))) rfl (le4_row w7 _ _) (by simp [le4]; omega) (by simp; omega) ?_; intro v8 w8 hown8 hg8 hn8; obtain ⟨g8, cap8, hv8, hgb8, hgs8⟩ := hown8.form (by omega); subst hv8; have HOWN8 := Lib.hid hown8; have HG8 := Lib.hid hg8; clear hown8 hg8 hn8)
    have hel : (encFr k p).length = 5 + (encI p.length).length + p.length + (le4 (sumX (bodyL k p))).length := by rw [encFr_length, le4_length]; omega
    have hec : encFr k p = markL ++ [k] ++ encI p.length ++ p ++ le4 (sumX (bodyL k p)) := by simp [encFr, bodyL, encT]
    have HEL := Lib.hid hel
    have HEC := Lib.hid hec
    clear hel hec
    go_ret2
    refine ⟨cap8, g8, by rw [HEL.out]; rfl, ?_, ?_⟩
    · have h8 := HOWN8.out
      rw [← HEL.out, ← List.map_append, ← List.map_append, ← HEC.out] at h8
      exact h8
    · exact (HBW7.out.alloc hz75 _).grown HG8.out (by simp; omega) (fun j hj => (HOWN7.out.lt j hj).1)
end Go.Proofs.YtohibmjjhifggaaGreat
