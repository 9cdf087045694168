/-
  What the theorem of ReadRight rests on, part 8 of 12.
-/
import Derived.Carry
import Derived.Deep.RegionHeld3
import Derived.Test.YtimihhcidbeonaaGreatReadRightZ7
namespace Go.Proofs.YtimihhcidbeonaaGreat
open Go.RowKit Go.ChangeShapes Go.WideShapes
set_option linter.unusedVariables false
section
variable {w w' w1 : World} {r : Option Nat} {n m g sz k : Nat} {u v : Value} {us : List Value} {f e : TypeId}
theorem OwnP.nott {es : List Pd} (h : OwnP w n u es) (h1 : NotT w r 3) (h2 : NotT w r 88) (hg : w.grownBy w' r) : OwnP w' n u es :=
  ⟨own_nott h.1 h2 hg, fun d hd => ⟨own_nott (h.2 d hd).1 h1 hg, (h.2 d hd).2⟩⟩
theorem Held.nott {cs : Array Value} (h : Held w g f cs) (hn : NotT w r f) (hg : w.grownBy w' r) : Held w' g f cs := h.grown hg (fun e => hn g cs (0, 0) e.symm h)
theorem PartN.then {S S2 : Nat → Prop} (h : PartN S w w1) (h2 : PartN S2 w1 w') (hs : ∀ j, S2 j → S j ∨ w.heap.size ≤ j) : PartN S w w' :=
  ⟨h2.os.trans h.os, h2.tape.trans h.tape, h2.output.trans h.output, Nat.le_trans h.size h2.size, fun i hi hn => (h2.block i (Nat.lt_of_lt_of_le hi h.size) (fun x => by
    rcases hs i x with x | x
    · exact hn x
    · omega)).trans (h.block i hi hn)⟩
end
/-- The blocks that a taker's calls turn: its own, that of its points, that of its refused frames. -/
def TS (t : Nat) (PA RA : Option Addr) (j : Nat) : Prop := j = t ∨ ob PA = some j ∨ ob RA = some j
/-- A taker. -/
structure TAt (w : World) (n t : Nat) (g : Gp) (SA : Option Addr) (Sc : Nat) (es : List Pd) (PA : Option Addr) (Pc : Nat) (ps : List Pm) (RA : Option Addr) (Rc : Nat) : Prop where
  held : Held w t 148 #[.slice SA es.length Sc, .slice PA ps.length Pc, .int .i64 g.sk, .int .i64 g.fr, .slice RA g.rej.length Rc]
  low : n ≤ t
  sig : OwnP w n (.slice SA es.length Sc) es
  sigp : es.map (·.p) = g.sig
  pts : OwnT w n (.slice PA ps.length Pc) ps
  ptsp : ps.map (·.p) = g.pts
  rej : w.ownsRow n 73 2 (.slice RA g.rej.length Rc) g.rej.length (flatJ g.rej)
section
variable {w w' w1 : World} {n t : Nat} {g : Gp} {SA : Option Addr} {Sc : Nat} {es : List Pd} {PA : Option Addr} {Pc : Nat} {ps : List Pm} {RA : Option Addr} {Rc : Nat}
theorem TAt.below (h : TAt w n t g SA Sc es PA Pc ps RA Rc) (hb : Below w.heap.size w w') : TAt w' n t g SA Sc es PA Pc ps RA Rc :=
  ⟨h.held.below hb h.held.lt, h.low, h.sig.below hb, h.sigp, h.pts.below hb, h.ptsp, own_below h.rej hb⟩
theorem TAt.cells (h : TAt w n t g SA Sc es PA Pc ps RA Rc) : w.cell? ⟨t, 0, none⟩ = some (.slice SA es.length Sc) ∧ w.cell? ⟨t, 1, none⟩ = some (.slice PA ps.length Pc) ∧ w.cell? ⟨t, 2, none⟩ = some (.int .i64 g.sk) ∧ w.cell? ⟨t, 3, none⟩ = some (.int .i64 g.fr) ∧ w.cell? ⟨t, 4, none⟩ = some (.slice RA g.rej.length Rc) :=
  ⟨h.held.cell 0, h.held.cell 1, h.held.cell 2, h.held.cell 3, h.held.cell 4⟩
theorem TAt.lt (h : TAt w n t g SA Sc es PA Pc ps RA Rc) {j : Nat} (hj : TS t PA RA j) : n ≤ j ∧ j < w.heap.size := by
  rcases hj with rfl | hj | hj
  · exact ⟨h.low, h.held.lt⟩
  · exact World.ownsRow.lt h.pts.1 j (by rw [ob_own]; exact hj)
  · exact World.ownsRow.lt h.rej j (by rw [ob_own]; exact hj)
theorem TAt.size (h : TAt w n t g SA Sc es PA Pc ps RA Rc) : n ≤ w.heap.size := by have := h.low; have := h.held.lt; omega
theorem TAt.n1 (h : TAt w n t g SA Sc es PA Pc ps RA Rc) (e : TypeId) (he : 148 ≠ e) : NotT w (some t) e := NotT.of_held h.held he
theorem TAt.n2 (h : TAt w n t g SA Sc es PA Pc ps RA Rc) (e : TypeId) (he : 51 ≠ e) : NotT w (Value.slice PA ps.length Pc).ownBlock e := NotT.of_own h.pts.1 he
theorem TAt.n3 (h : TAt w n t g SA Sc es PA Pc ps RA Rc) (e : TypeId) (he : 73 ≠ e) : NotT w (Value.slice RA g.rej.length Rc).ownBlock e := NotT.of_own h.rej he
/-- A signature is written into it. -/
theorem TAt.putSig {A2 : Option Addr} {c2 m : Nat} {es2 : List Pd} {L : List Pr} {b : Bool} (h : TAt w n t g SA Sc es PA Pc ps RA Rc) (q : OwnP w m (.slice A2 es2.length c2) es2) (hm : n ≤ m) (hL : es2.map (·.p) = L) :
    TAt (w.setCell ⟨t, 0, none⟩ (.slice A2 es2.length c2)) n t ⟨L, b, g.pts, g.sk, g.fr, g.rej⟩ A2 c2 es2 PA Pc ps RA Rc := by
  have gr := grown_put w t 0 (.slice A2 es2.length c2)
  exact ⟨h.held.put 0 _, h.low, (q.base hm).nott (h.n1 _ (by decide)) (h.n1 _ (by decide)) gr, hL, h.pts.nott (h.n1 _ (by decide)) (h.n1 _ (by decide)) ((h.n1 _ (by decide)).ne h.pts.1) gr, h.ptsp, own_nott h.rej (h.n1 _ (by decide)) gr⟩
/-- How many bytes were skipped. -/
theorem TAt.putSk (h : TAt w n t g SA Sc es PA Pc ps RA Rc) (k : Int) : TAt (w.setCell ⟨t, 2, none⟩ (.int .i64 k)) n t ⟨g.sig, g.isg, g.pts, k, g.fr, g.rej⟩ SA Sc es PA Pc ps RA Rc := by
  have gr := grown_put w t 2 (.int .i64 k)
  exact ⟨h.held.put 2 _, h.low, h.sig.nott (h.n1 _ (by decide)) (h.n1 _ (by decide)) gr, h.sigp, h.pts.nott (h.n1 _ (by decide)) (h.n1 _ (by decide)) ((h.n1 _ (by decide)).ne h.pts.1) gr, h.ptsp, own_nott h.rej (h.n1 _ (by decide)) gr⟩
/-- How many frames were taken. -/
theorem TAt.putFr (h : TAt w n t g SA Sc es PA Pc ps RA Rc) (k : Int) : TAt (w.setCell ⟨t, 3, none⟩ (.int .i64 k)) n t ⟨g.sig, g.isg, g.pts, g.sk, k, g.rej⟩ SA Sc es PA Pc ps RA Rc := by
  have gr := grown_put w t 3 (.int .i64 k)
  exact ⟨h.held.put 3 _, h.low, h.sig.nott (h.n1 _ (by decide)) (h.n1 _ (by decide)) gr, h.sigp, h.pts.nott (h.n1 _ (by decide)) (h.n1 _ (by decide)) ((h.n1 _ (by decide)).ne h.pts.1) gr, h.ptsp, own_nott h.rej (h.n1 _ (by decide)) gr⟩
/-- Points are put behind those that it has. -/
theorem TAt.putPts {A7 : Option Addr} {c7 N : Nat} {A2 : Option Addr} {c2 m : Nat} {qs : List Pm} {L : List Pn} (h : TAt w n t g SA Sc es PA Pc ps RA Rc) (q : OwnT w m (.slice A2 qs.length c2) qs) (hm : n ≤ m) (hL : qs.map (·.p) = L) (hN : ps.length + qs.length = N)
    (ho : w1.ownsRow n 51 2 (.slice A7 N c7) N (flatN (ps ++ qs))) (hg : w.grownBy w1 (Value.slice PA ps.length Pc).ownBlock) (ha : (Value.slice A7 N c7).ownBlock = (Value.slice PA ps.length Pc).ownBlock ∨ (Value.slice A7 N c7).ownBlock = some w.heap.size) :
    Held w1 t 148 #[.slice SA es.length Sc, .slice PA ps.length Pc, .int .i64 g.sk, .int .i64 g.fr, .slice RA g.rej.length Rc] ∧
    Hid (TAt (w1.setCell ⟨t, 1, none⟩ (.slice A7 N c7)) n t ⟨g.sig, g.isg, g.pts ++ L, g.sk, g.fr, g.rej⟩ SA Sc es A7 c7 (ps ++ qs) RA Rc) ∧ Hid (PartN (TS t PA RA) w (w1.setCell ⟨t, 1, none⟩ (.slice A7 N c7))) ∧ Hid (∀ j, TS t A7 RA j → TS t PA RA j ∨ w.heap.size ≤ j) := by
  subst hN hL
  have hh := h.held.nott (h.n2 _ (by decide)) hg
  have gr := grown_put w1 t 1 (.slice A7 (ps.length + qs.length) c7)
  have k1 : ∀ e, 148 ≠ e → NotT w1 (some t) e := fun e he => NotT.of_held hh he
  have hj : OwnT w1 n (.slice A7 (ps.length + qs.length) c7) (ps ++ qs) := h.pts.joined q hm (by rw [List.length_append]; exact ho) hg
  have hs := (h.sig.nott (h.n2 _ (by decide)) (h.n2 _ (by decide)) hg).nott (k1 _ (by decide)) (k1 _ (by decide)) gr
  have hr := own_nott (own_nott h.rej (h.n2 _ (by decide)) hg) (k1 _ (by decide)) gr
  refine ⟨hh, Lib.hid ⟨by rw [List.length_append]; exact hh.put 1 _, h.low, hs, h.sigp, ?_, ?_, hr⟩, Lib.hid ((PartN.of_grown hg (fun j e => .inr (.inl (by rw [← ob_own PA ps.length Pc]; exact e)))).trans (PartN.put (.inl rfl) 1 _)), Lib.hid fun j hj => ?_⟩
  · rw [List.length_append]
    exact hj.nott (k1 _ (by decide)) (k1 _ (by decide)) ((k1 _ (by decide)).ne hj.1) gr
  · rw [List.map_append, h.ptsp]
  · rcases hj with rfl | hj | hj
    · exact .inl (.inl rfl)
    · rw [← ob_own A7 (ps.length + qs.length) c7] at hj
      rcases ha with h7 | h7
      · exact .inl (.inr (.inl (by rw [← ob_own PA ps.length Pc, ← h7]; exact hj)))
      · rw [h7] at hj
        injection hj with hj
        exact .inr (by omega)
    · exact .inl (.inr (.inr hj))
/-- A refused frame is put behind those that it has. -/
theorem TAt.putRej {A7 : Option Addr} {c7 N : Nat} {a e : Int} (h : TAt w n t g SA Sc es PA Pc ps RA Rc) (hN : g.rej.length + 1 = N)
    (ho : w1.ownsRow n 73 2 (.slice A7 N c7) N (flatJ (g.rej ++ [(a, e)]))) (hg : w.grownBy w1 (Value.slice RA g.rej.length Rc).ownBlock) (ha : (Value.slice A7 N c7).ownBlock = (Value.slice RA g.rej.length Rc).ownBlock ∨ (Value.slice A7 N c7).ownBlock = some w.heap.size) :
    Held w1 t 148 #[.slice SA es.length Sc, .slice PA ps.length Pc, .int .i64 g.sk, .int .i64 g.fr, .slice RA g.rej.length Rc] ∧
    Hid (TAt (w1.setCell ⟨t, 4, none⟩ (.slice A7 N c7)) n t ⟨g.sig, g.isg, g.pts, g.sk, g.fr, g.rej ++ [(a, e)]⟩ SA Sc es PA Pc ps A7 c7) ∧ Hid (PartN (TS t PA RA) w (w1.setCell ⟨t, 4, none⟩ (.slice A7 N c7))) ∧ Hid (∀ j, TS t PA A7 j → TS t PA RA j ∨ w.heap.size ≤ j) := by
  subst hN
  have hh := h.held.nott (h.n3 _ (by decide)) hg
  have gr := grown_put w1 t 4 (.slice A7 (g.rej.length + 1) c7)
  have k1 : ∀ e, 148 ≠ e → NotT w1 (some t) e := fun e he => NotT.of_held hh he
  have hs := (h.sig.nott (h.n3 _ (by decide)) (h.n3 _ (by decide)) hg).nott (k1 _ (by decide)) (k1 _ (by decide)) gr
  have hp := h.pts.nott (h.n3 _ (by decide)) (h.n3 _ (by decide)) ((h.n3 _ (by decide)).ne h.pts.1) hg
  have hl : (g.rej ++ [(a, e)]).length = g.rej.length + 1 := by simp
  refine ⟨hh, Lib.hid ⟨by rw [hl]; exact hh.put 4 _, h.low, hs, h.sigp, hp.nott (k1 _ (by decide)) (k1 _ (by decide)) ((k1 _ (by decide)).ne hp.1) gr, h.ptsp, by rw [hl]; exact own_nott ho (k1 _ (by decide)) gr⟩, Lib.hid ((PartN.of_grown hg (fun j e => .inr (.inr (by rw [← ob_own RA g.rej.length Rc]; exact e)))).trans (PartN.put (.inl rfl) 4 _)), Lib.hid fun j hj => ?_⟩
  rcases hj with rfl | hj | hj
  · exact .inl (.inl rfl)
  · exact .inl (.inr (.inl hj))
  · rw [← ob_own A7 (g.rej.length + 1) c7] at hj
    rcases ha with h7 | h7
    · exact .inl (.inr (.inr (by rw [← ob_own RA g.rej.length Rc, ← h7]; exact hj)))
    · rw [h7] at hj
      injection hj with hj
      exact .inr (by omega)
end
/-- A taker behind some calls: what was turned is of S, or laid since. -/
def TkR (S : Nat → Prop) (w : World) (n t : Nat) (g : Gp) (w' : World) : Prop :=
  ∃ SA Sc es PA Pc ps RA Rc, TAt w' n t g SA Sc es PA Pc ps RA Rc ∧ PartN S w w' ∧ ∀ j, TS t PA RA j → S j ∨ w.heap.size ≤ j
theorem TkR.then {S S2 : Nat → Prop} {w w1 w' : World} {n t : Nat} {g : Gp} (h : PartN S w w1) (hs : ∀ j, S2 j → S j ∨ w.heap.size ≤ j) (k : TkR S2 w1 n t g w') : TkR S w n t g w' := by
  obtain ⟨SA, Sc, es, PA, Pc, ps, RA, Rc, h1, h2, h3⟩ := k
  refine ⟨SA, Sc, es, PA, Pc, ps, RA, Rc, h1, h.then h2 hs, fun j hj => ?_⟩
  rcases h3 j hj with h4 | h4
  · exact hs j h4
  · exact .inr (Nat.le_trans h.size h4)
end Go.Proofs.YtimihhcidbeonaaGreat

namespace Go.Proofs.YtimihhcidbeonaaGreat
theorem checkT_append {sig : List Pr} {t m : List Pn} (h : (checkT sig t).1 = 0) (h2 : (checkT sig m).1 = 0) (hl : lateG t m = false) : (checkT sig (t ++ m)).1 = 0 := by
  obtain ⟨hs, ha⟩ := checkT_zero.1 h
  obtain ⟨-, hb⟩ := checkT_zero.1 h2
  refine checkT_zero.2 ⟨hs, fun j hj => ?_⟩
  rw [List.length_append] at hj
  have e : ∀ i, i < t.length → (t ++ m).getD i default = t.getD i default := fun i hi => by simp [List.getD, List.getElem?_append_left hi]
  have e2 : ∀ i, (t ++ m).getD (t.length + i) default = m.getD i default := fun i => by
    simp only [List.getD]
    rw [List.getElem?_append_right (by omega)]
    congr 2
    omega
  by_cases hjt : j < t.length
  · have := ha j hjt
    unfold whyT at this ⊢
    rwa [e j hjt, e (j - 1) (by omega)]
  · obtain ⟨i, rfl⟩ : ∃ i, j = t.length + i := ⟨j - t.length, by omega⟩
    have := hb i (by omega)
    unfold whyT at this ⊢
    rcases Nat.eq_zero_or_pos i with h0 | h0
    · subst h0
      rw [if_neg (by omega)] at this
      rw [e2, Nat.add_zero]
      have hn : ¬ (0 < t.length ∧ (m.getD 0 default).tm < ((t ++ m).getD (t.length - 1) default).tm) := by
        rintro ⟨q1, q2⟩
        rw [e _ (by omega)] at q2
        unfold lateG at hl
        rw [decide_eq_true q1, decide_eq_true q2] at hl
        cases hl
      rw [if_neg hn]
      exact this
    · rw [e2, show t.length + i - 1 = t.length + (i - 1) by omega, e2]
      split at this
      · cases this
      · rename_i hn
        rw [if_neg (fun x => hn ⟨h0, x.2⟩)]
        exact this
theorem sig_args {sig : List Pr} (h : checkP sig = 0) : ∀ q ∈ sig, q.args.length ≤ 8 ∧ ∀ t ∈ q.args, -9223372036854775808 ≤ t ∧ t ≤ 9223372036854775807 := by
  intro q hq
  obtain ⟨i, hi⟩ := List.mem_iff_getElem?.1 hq
  have ho := (checkP_zero.1 h).2 i q hi
  exact ⟨ho.2.2.1, fun t ht => by have := ho.2.2.2 t ht; omega⟩
theorem getU_right {sig : List Pr} {xs : List Int} (hb : ∀ x ∈ xs, 0 ≤ x ∧ x < 256) (hs : checkP sig = 0) (h : (getU sig xs).2 = 0) : (checkT sig (getU sig xs).1).1 = 0 := by
  obtain ⟨-, h2, -, -⟩ := getU_back hb (fun q hq => (sig_args hs q hq).2) h
  have h3 := (checkB_zero (putB_ok (by rw [h2])).1).2.1
  rwa [map_bare_p] at h3
/-- What was read is right. -/
structure Ig (g : Gp) : Prop where
  isg : decide (0 < g.fr) = g.isg
  fr : 0 ≤ g.fr
  trc : (checkT g.sig g.pts).1 = 0
  nil : g.isg = false → g.sig = [] ∧ g.pts = []
theorem checkT_p {sig : List Pr} {t : List Pn} (h : (checkT sig t).1 = 0) : checkP sig = 0 := (checkT_zero.1 h).1
theorem Ig.zero : Ig noG := ⟨rfl, Int.le_refl _, by unfold noG; exact checkT_zero.2 ⟨checkP_none (Nat.zero_le _) (fun j hj => absurd hj (Nat.not_lt_zero _)), fun j hj => absurd hj (Nat.not_lt_zero _)⟩, fun _ => ⟨rfl, rfl⟩⟩
theorem Ig.frame {g : Gp} {k : Int} {p : List Int} (h : Ig g) (hb : ∀ y ∈ p, 0 ≤ y ∧ y < 256) (he : (frameG g k p).2 = 0) :
    (frameG g k p).1.isg = true ∧ (checkT (frameG g k p).1.sig (frameG g k p).1.pts).1 = 0 := by
  unfold frameG at he ⊢
  split
  · rename_i h1
    rw [if_pos h1] at he
    split
    · rename_i h2
      rw [if_pos h2] at he
      exact absurd he h2
    · rename_i h2
      have hz : (getSig p).2 = 0 := by simpa using h2
      rw [if_neg h2] at he
      split
      · rename_i h3
        rw [if_pos h3] at he
        cases he
      · rename_i h3
        refine ⟨rfl, ?_⟩
        cases hi : g.isg with
        | true =>
          have : (getSig p).1 = g.sig := Classical.byContradiction fun e => h3 ⟨hi, e⟩
          show (checkT (getSig p).1 g.pts).1 = 0
          rw [this]
          exact h.trc
        | false =>
          show (checkT (getSig p).1 g.pts).1 = 0
          rw [(h.nil hi).2]
          exact checkT_zero.2 ⟨(getSig_back hb hz).1, fun j hj => absurd hj (Nat.not_lt_zero _)⟩
  · rename_i h1
    rw [if_neg h1] at he
    split
    · rename_i h2; rw [if_pos h2] at he; cases he
    · rename_i h2
      rw [if_neg h2] at he
      split
      · rename_i h3; rw [if_pos h3] at he; cases he
      · rename_i h3
        rw [if_neg h3] at he
        split
        · rename_i h4; rw [if_pos h4] at he; exact absurd he h4
        · rename_i h4
          rw [if_neg h4] at he
          have hz : (getU g.sig p).2 = 0 := by simpa using h4
          split
          · rename_i h5; rw [if_pos h5] at he; cases he
          · rename_i h5
            exact ⟨by cases hi : g.isg with
              | true => rfl
              | false => exact absurd hi h3, checkT_append h.trc (getU_right hb (checkT_p h.trc) hz) (by simpa using h5)⟩
theorem Ig.step {g : Gp} {s : Sj} (h : Ig g) (hb : ∀ y ∈ s.pay, 0 ≤ y ∧ y < 256) : Ig (takeS g s) := by
  unfold takeS
  split
  · exact ⟨h.isg, h.fr, h.trc, h.nil⟩
  · split
    · exact ⟨h.isg, h.fr, h.trc, h.nil⟩
    · rename_i h2
      obtain ⟨h3, h4⟩ := h.frame hb (k := s.kind) (by simpa using h2)
      have := h.fr
      refine ⟨?_, by show 0 ≤ g.fr + 1; omega, h4, fun e => ?_⟩
      · show decide (0 < g.fr + 1) = (frameG g s.kind s.pay).1.isg
        rw [h3, decide_eq_true (by omega)]
      · exact absurd (h3.symm.trans e) (by decide)
theorem Ig.take {g : Gp} {l : List Sj} (h : Ig g) (hl : ∀ s ∈ l, ∀ y ∈ s.pay, 0 ≤ y ∧ y < 256) : Ig (takeL g l) := by
  induction l generalizing g with
  | nil => exact h
  | cons s l ih => exact ih (h.step (hl s (List.mem_cons_self ..))) (fun x hx => hl x (List.mem_cons_of_mem _ hx))
/-- The last time; 0. -/
def lastT (l : List Pn) : Int := (l.getD (l.length - 1) default).tm
theorem late_last {l m : List Pn} (h : 0 ≤ (m.getD 0 default).tm) : lateG l m = decide ((m.getD 0 default).tm < lastT l) := by
  unfold lateG lastT
  by_cases hl : 0 < l.length
  · rw [decide_eq_true hl, Bool.true_and]
  · have : l = [] := List.eq_nil_of_length_eq_zero (by omega)
    subst this
    have e : ((([] : List Pn).getD (([] : List Pn).length - 1) default).tm : Int) = 0 := rfl
    rw [e, decide_eq_false (by omega : ¬ (m.getD 0 default).tm < 0)]
    rfl
end Go.Proofs.YtimihhcidbeonaaGreat

namespace Go.Proofs.YtimihhcidbeonaaGreat
open Go.RowKit
/-- What takes a signature, and what takes points, of a taker. -/
abbrev fnSig (t : Nat) : Value := .func (.func 131) #[.pointer (some ⟨t, 0, none⟩)] #[]
abbrev fnPts (t : Nat) : Value := .func (.func 132) #[.pointer (some ⟨t, 0, none⟩)] #[]
/-- Block r holds what takes a frame of each kind. -/
def KMap (w : World) (r t : Nat) : Prop := ∃ b0 b1 cl, w.heap[r]? = some (.map #[{ key := .int .i64 1, val := fnSig t, born := b0 }, { key := .int .i64 2, val := fnPts t, born := b1 }] cl)
theorem KMap.below {w w' : World} {r t B : Nat} (h : KMap w r t) (hb : Below B w w') (hr : r < B) : KMap w' r t := by
  obtain ⟨b0, b1, cl, h⟩ := h
  exact ⟨b0, b1, cl, (hb.block r hr).trans h⟩
theorem KMap.lt {w : World} {r t : Nat} (h : KMap w r t) : r < w.heap.size := by
  obtain ⟨_, _, _, h⟩ := h
  exact (Array.getElem?_eq_some_iff.1 h).1
theorem KMap.same {w w' : World} {r t : Nat} (h : KMap w r t) (hb : w'.heap[r]? = w.heap[r]?) : KMap w' r t := by
  obtain ⟨b0, b1, cl, h⟩ := h
  exact ⟨b0, b1, cl, hb.trans h⟩
theorem int_check (w : World) (a : Int) (b : Bool) : (Instr.checkKey b 10000 3 (.int .i64 a)).run Tryz.prog w = .ok () w := by
  rw [show (10000 : Nat) = 9999 + 1 from rfl]
  unfold Instr.checkKey
  rw [Sem.run_bind, run_underlying Tryz.underlying3]
  simp [Result.andThen]
theorem kinds_one {w : World} {r t : Nat} (h : KMap w r t) :
    (Instr.lookup 149 (.map (some r)) (.int .i64 1) true).run Tryz.prog w = .ok (.tuple #[fnSig t, .bool true]) w := by
  obtain ⟨b0, b1, cl, h⟩ := h
  have hg : (getObj r).run Tryz.prog w = .ok (.map #[{ key := .int .i64 1, val := fnSig t, born := b0 }, { key := .int .i64 2, val := fnPts t, born := b1 }] cl) w := by simp [getObj, Sem.run, h]
  unfold Instr.lookup Instr.findKey
  simp [Sem.run_bind, run_underlying Tryz.underlying149, run_underlying Tryz.underlying3, Result.andThen_ok, hg, Sem.run_pure, int_check, Instr.findNow, Instr.sameNow]
theorem kinds_two {w : World} {r t : Nat} (h : KMap w r t) :
    (Instr.lookup 149 (.map (some r)) (.int .i64 2) true).run Tryz.prog w = .ok (.tuple #[fnPts t, .bool true]) w := by
  obtain ⟨b0, b1, cl, h⟩ := h
  have hg : (getObj r).run Tryz.prog w = .ok (.map #[{ key := .int .i64 1, val := fnSig t, born := b0 }, { key := .int .i64 2, val := fnPts t, born := b1 }] cl) w := by simp [getObj, Sem.run, h]
  unfold Instr.lookup Instr.findKey
  simp [Sem.run_bind, run_underlying Tryz.underlying149, run_underlying Tryz.underlying3, Result.andThen_ok, hg, Sem.run_pure, int_check, Instr.findNow, Instr.sameNow]
theorem kinds_none {w : World} {r t : Nat} (h : KMap w r t) {k : Int} (h1 : k ≠ 1) (h2 : k ≠ 2) :
    (Instr.lookup 149 (.map (some r)) (.int .i64 k) true).run Tryz.prog w = .ok (.tuple #[.nilFunc, .bool false]) w := by
  obtain ⟨b0, b1, cl, h⟩ := h
  have hg : (getObj r).run Tryz.prog w = .ok (.map #[{ key := .int .i64 1, val := fnSig t, born := b0 }, { key := .int .i64 2, val := fnPts t, born := b1 }] cl) w := by simp [getObj, Sem.run, h]
  have e1 : (k == 1) = false := beq_eq_false_iff_ne.2 h1
  have e2 : (k == 2) = false := beq_eq_false_iff_ne.2 h2
  unfold Instr.lookup Instr.findKey
  simp [Sem.run_bind, run_underlying Tryz.underlying149, run_underlying Tryz.underlying3, Result.andThen_ok, hg, Sem.run_pure, int_check, Instr.findNow, Instr.sameNow, e1, e2]
theorem kput_first {w : World} {r t : Nat} (h : w.heap[r]? = some (.map #[] 0)) :
    (Instr.mapUpdate 149 (.map (some r)) (.int .i64 1) (fnSig t)).run Tryz.prog w = .ok () (w.putObj r (.map #[{ key := .int .i64 1, val := fnSig t, born := 0 }] 1)) := by
  have hg : (getObj r).run Tryz.prog w = .ok (.map #[] 0) w := by simp [getObj, Sem.run, h]
  have hs : ∀ o, (setObj r o).run Tryz.prog w = .ok () (w.putObj r o) := fun o => by simp [setObj, Sem.run, h, World.putObj]
  unfold Instr.mapUpdate Instr.findKey
  simp [Sem.run_bind, run_underlying Tryz.underlying149, run_underlying Tryz.underlying3, Result.andThen_ok, hg, int_check, Instr.findNow, hs]
theorem kput_second {w : World} {r t : Nat} (h : w.heap[r]? = some (.map #[{ key := .int .i64 1, val := fnSig t, born := 0 }] 1)) :
    (Instr.mapUpdate 149 (.map (some r)) (.int .i64 2) (fnPts t)).run Tryz.prog w = .ok () (w.putObj r (.map #[{ key := .int .i64 1, val := fnSig t, born := 0 }, { key := .int .i64 2, val := fnPts t, born := 1 }] 2)) := by
  have hg : (getObj r).run Tryz.prog w = .ok (.map #[{ key := .int .i64 1, val := fnSig t, born := 0 }] 1) w := by simp [getObj, Sem.run, h]
  have hs : ∀ o, (setObj r o).run Tryz.prog w = .ok () (w.putObj r o) := fun o => by simp [setObj, Sem.run, h, World.putObj]
  unfold Instr.mapUpdate Instr.findKey
  simp [Sem.run_bind, run_underlying Tryz.underlying149, run_underlying Tryz.underlying3, Result.andThen_ok, hg, Sem.run_pure, int_check, Instr.findNow, Instr.sameNow, hs]
theorem putM_self {w : World} {r : Nat} (h : r < w.heap.size) (o : Obj) : (w.putObj r o).heap[r]? = some o := by
  show (w.heap.setIfInBounds r o)[r]? = _
  rw [Array.getElem?_setIfInBounds_self_of_lt h]
set_option maxRecDepth 100000 in
set_option maxHeartbeats 1000000 in
theorem kinds_any (w : World) (t : Nat) : Calls Tryz.prog 80 #[.pointer (some ⟨t, 0, none⟩)] w fun e w' => e = .returned (.map (some w.heap.size)) ∧ KMap w' w.heap.size t ∧ Below w.heap.size w w' := by
  have hmm := @run_makeMap Tryz.prog
  obtain ⟨r, hr⟩ : ∃ r, w.heap.size = r := ⟨_, rfl⟩
  obtain ⟨w1, hw1⟩ : ∃ w1, w.alloc (.map #[] 0) = w1 := ⟨_, rfl⟩
  have h1 : w1.heap[r]? = some (.map #[] 0) := by rw [← hw1, ← hr]; exact heap_alloc_new w _
  have b1 : Below r w w1 := by rw [← hw1, ← hr]; exact (Below.refl _ _).alloc (Nat.le_refl _) _
  have l1 := (Array.getElem?_eq_some_iff.1 h1).1
  have p1 := kput_first h1 (t := t)
  obtain ⟨w2, hw2⟩ : ∃ w2, w1.putObj r (.map #[{ key := .int .i64 1, val := fnSig t, born := 0 }] 1) = w2 := ⟨_, rfl⟩
  have h2 : w2.heap[r]? = some (.map #[{ key := .int .i64 1, val := fnSig t, born := 0 }] 1) := by rw [← hw2]; exact putM_self l1 _
  have b2 : Below r w w2 := by rw [← hw2]; exact below_putObj b1 (Nat.le_refl _) _
  have l2 := (Array.getElem?_eq_some_iff.1 h2).1
  have p2 := kput_second h2
  obtain ⟨w3, hw3⟩ : ∃ w3, w2.putObj r (.map #[{ key := .int .i64 1, val := fnSig t, born := 0 }, { key := .int .i64 2, val := fnPts t, born := 1 }] 2) = w3 := ⟨_, rfl⟩
  have h3 : KMap w3 r t := ⟨0, 1, 2, by rw [← hw3]; exact putM_self l2 _⟩
  have b3 : Below r w w3 := by rw [← hw3]; exact below_putObj b2 (Nat.le_refl _) _
  have H3 := Lib.hid h3
  have HB := Lib.hid b3
  rw [hw2] at p1
  rw [hw3] at p2
  rw [hr]
  clear h1 h2 h3 b1 b2 b3 hw2 hw3 l1 l2
  go_enter Tryz.func80, Tryz.ntmps80
  go_wp2_with fail
  go_ret
  exact ⟨rfl, H3.out, HB.out⟩
end Go.Proofs.YtimihhcidbeonaaGreat

namespace Go.Proofs.YtimihhcidbeonaaGreat
open Go.RowKit Go.ChangeShapes Go.WideShapes
set_option linter.unusedVariables false
set_option maxRecDepth 100000 in
theorem gsigned_any (w : World) (A1 : Option Addr) (n1 c1 : Nat) (A2 : Option Addr) (n2 c2 : Nat) (sk fr : Int) (A3 : Option Addr) (n3 c3 : Nat) (b : Bool) (hb : decide (0 < fr) = b) :
    Calls Tryz.prog 78 #[.agg #[.slice A1 n1 c1, .slice A2 n2 c2, .int .i64 sk, .int .i64 fr, .slice A3 n3 c3]] w fun e w' => e = .returned (.bool b) ∧ Below w.heap.size w w' := by
  obtain ⟨u, hu⟩ : ∃ u, w.alloc (.cells #[.slice A1 n1 c1, .slice A2 n2 c2, .int .i64 sk, .int .i64 fr, .slice A3 n3 c3] 64) = u := ⟨_, rfl⟩
  have HB := Lib.hid (show Below w.heap.size w u from by rw [← hu]; exact (Below.refl _ _).alloc (Nat.le_refl _) _)
  have hh : Held u w.heap.size 64 #[.slice A1 n1 c1, .slice A2 n2 c2, .int .i64 sk, .int .i64 fr, .slice A3 n3 c3] := by rw [← hu]; exact heap_alloc_new w _
  have x3 := hh.cell 3
  simp at x3
  have HX := Lib.hid hb
  clear hh hb
  go_enter Tryz.func78, Tryz.ntmps78
  go_wp2_with fail
  go_ret
  exact ⟨by rw [← HX.out]; rfl, HB.out⟩
set_option maxRecDepth 100000 in
theorem refuse_any (w : World) (v : Value) :
    Calls Tryz.prog 81 #[v] w fun e w' => e = .returned (.int .i64 4) ∧ w' = w := by
  go_enter Tryz.func81, Tryz.ntmps81
  go_wp2_with fail
  go_ret
  exact ⟨rfl, rfl⟩
section
variable {w : World} {n t : Nat} {g : Gp} {SA : Option Addr} {Sc : Nat} {es : List Pd} {PA : Option Addr} {Pc : Nat} {ps : List Pm} {RA : Option Addr} {Rc : Nat}
set_option maxRecDepth 100000 in
set_option maxHeartbeats 1000000 in
theorem rlast_any (h : TAt w n t g SA Sc es PA Pc ps RA Rc) :
    Calls Tryz.prog 180 #[.pointer (some ⟨t, 0, none⟩)] w fun e w' => e = .returned (.int .u64 (lastT g.pts)) ∧ Below w.heap.size w w' := by
  obtain ⟨-, x1, -, -, -⟩ := h.cells
  have hlt := h.held.lt
  obtain ⟨-, hc1, hc2⟩ := h.pts.row.1.len
  by_cases h0 : ps.length = 0
  · have hl : lastT g.pts = 0 := by
      rw [← h.ptsp, List.eq_nil_of_length_eq_zero h0]
      rfl
    rw [hl]
    rw [h0] at x1
    clear h hl
    go_enter Tryz.func180, Tryz.ntmps180
    go_wp2_with fail
    go_ret
    exact ⟨rfl, Below.refl _ _⟩
  · obtain ⟨m, hm⟩ : ∃ m, ps.length - 1 = m := ⟨_, rfl⟩
    obtain ⟨d, hd⟩ : ∃ d, ps[m]? = some d := ⟨_, List.getElem?_eq_getElem (by omega)⟩
    have hl : lastT g.pts = d.tm := by
      unfold lastT
      rw [← h.ptsp, List.length_map, hm]
      simp only [List.getD, List.getElem?_map, hd, Option.map_some, Option.getD_some]
    rw [hl]
    obtain ⟨b, o, rfl, hbl, v0, -, -, -, -⟩ := h.pts.row.at hd
    have hbw : b < w.heap.size := hbl
    have e1 : (ps.length : Int) - 1 = (m : Int) := by omega
    have e2 : ¬ (ps.length : Int) = 0 := by omega
    have e3 : (m : Int) < (ps.length : Int) := by omega
    have e4 : ¬ (ps.length : Int) ≤ (m : Int) := by omega
    have e5 : (0 : Int) ≤ (m : Int) := by omega
    have e6 : ¬ (m : Int) < 0 := by omega
    have e7 : IntKind.i64.wrap (m : Int) = (m : Int) := IntWalk.i64_in _ (by omega)
    have e8 : m < ps.length := by omega
    clear h hl hm hd h0
    go_enter Tryz.func180, Tryz.ntmps180
    go_wp2_with fail
    go_region
    all_goals (
    go_wp2_with fail
    go_ret
    exact ⟨rfl, (Below.refl _ _).drew⟩)
/-- What is left of a taker by a call that turns its own blocks alone. -/
abbrev TLeft (w : World) (n t : Nat) (PA RA : Option Addr) (g : Gp) (w' : World) : Prop := TkR (TS t PA RA) w n t g w'
theorem TAt.left {w' : World} (h : TAt w n t g SA Sc es PA Pc ps RA Rc) (hb : Below w.heap.size w w') : TLeft w n t PA RA g w' := ⟨SA, Sc, es, PA, Pc, ps, RA, Rc, h.below hb, PartN.of_below hb, fun j hj => .inl hj⟩
theorem PartN.tail {S : Nat → Prop} {w w1 w2 : World} (h : PartN S w w1) (hb : Below w1.heap.size w1 w2) : PartN S w w2 := h.trans (PartN.of_below hb)
/-- Behind the frame's own error. -/
def cntG (g : Gp) (a e : Int) : Gp := if e ≠ 0 then ⟨g.sig, g.isg, g.pts, g.sk, g.fr, g.rej ++ [(a, e)]⟩ else ⟨g.sig, g.isg, g.pts, g.sk, g.fr + 1, g.rej⟩
theorem flatJ_snoc (l : List (Int × Int)) (a e : Int) : flatJ l ++ [.int .i64 a, .int .i64 e] = flatJ (l ++ [(a, e)]) := by rw [flatJ_append]; rfl
set_option maxRecDepth 100000 in
set_option maxHeartbeats 1000000 in
theorem rcount_any18 (h : TAt w n t g SA Sc es PA Pc ps RA Rc) (a e : Int) (hR : g.rej.length ≤ 1000000000) (hF : -4611686018427387904 ≤ g.fr ∧ g.fr ≤ 4611686018427387904) :
    Calls Tryz.prog 82 #[.pointer (some ⟨t, 0, none⟩), .int .i64 a, .int .i64 e] w fun r w' => r = .returned (.tuple #[]) ∧ TLeft w n t PA RA (cntG g a e) w' := by
  obtain ⟨i1, hi1, hy0, hy1, hy2⟩ := info_parts Tryz.infoReject
  obtain ⟨x0, x1, x2, x3, x4⟩ := h.cells
  have hlt := h.held.lt
  have hn := h.size
  unfold cntG
  by_cases he : e = 0
  · have hb : (e != 0) = false := by simp [he]
    rw [if_neg (fun x => x he)]
    have f3 := h.held.frozen 3
    have HT := Lib.hid h
    have hw : IntKind.i64.wrap (g.fr + 1) = g.fr + 1 := IntWalk.i64_in _ (by omega)
    clear h
    go_enter Tryz.func82, Tryz.ntmps82
    go_wp2_with fail
    go_end0
    exact ⟨rfl, SA, Sc, es, PA, Pc, ps, RA, Rc, HT.out.putFr _, PartN.put (.inl rfl) 3 _, fun j hj => .inl hj⟩
  · have hb : (e != 0) = true := by simp [he]
    rw [if_pos he]
    obtain ⟨u, hu⟩ : ∃ u, w.alloc (.cells #[.int .i64 a, .int .i64 e] 73) = u := ⟨_, rfl⟩
    have bu : Below w.heap.size w u := by rw [← hu]; exact (Below.refl _ _).alloc (Nat.le_refl _) _
    have su : u.heap.size = w.heap.size + 1 := by rw [← hu, World.size_alloc]
    have hu1 := h.below bu
    have HU := Lib.hid hu1
    have HO := Lib.hid hu1.rej
    have HE : Hid (ERow u u.heap.size (.slice (some ⟨w.heap.size, 0, none⟩) 1 1) 1 [.int .i64 a, .int .i64 e]) := Lib.hid (by rw [← hu]; exact ERow.held (t := 73) (heap_alloc_new w _) (by rw [hu]; omega) (show (1 : Nat) ≤ maxLen by unfold maxLen; omega))
    have HBU := Lib.hid bu
    have hnu : n ≤ u.heap.size := hu1.size
    obtain ⟨M, hM⟩ : ∃ M, g.rej.length = M := ⟨_, rfl⟩
    have HM := Lib.hid hM
    have HP := Lib.hid (fun A7 c7 w7 => TAt.putRej (A7 := A7) (c7 := c7) (w1 := w7) (a := a) (e := e) hu1 (show g.rej.length + 1 = M + 1 by omega))
    rw [hM] at x4 hR HO HP
    clear h bu hu1 hM
    go_enter Tryz.func82, Tryz.ntmps82
    go_wp2_with (at_builtin; refine wpList_append_erow _ rfl _ _ 62 73 rfl n i1 (.agg #[.int .i64 0, .int .i64 0]) 2 16 Tryz.underlying62 hi1 hy0 hy1 hy2 rfl (by decide) (.slice RA M Rc) M (flatJ g.rej) (by rfl) HO.out _ _ 1 [.int .i64 a, .int .i64 e] (by rfl) HE.out rfl (by simp [Value.oneCell']) (by unfold maxLen; omega) (by omega) hnu (M + 1) rfl (flatJ (g.rej ++ [(a, e)])) (flatJ_snoc _ _ _) ?_; intro A7 c7 w7 hown7 hg7 hat7; obtain ⟨k1, k2, k3, k4⟩ := HP.out A7 c7 w7 hown7 hg7 hat7; have f4 := k1.frozen 4; have q4 := k1.cell 4; have hl4 := k1.lt; simp at q4; clear hown7 hg7 hat7 k1)
    refine bodyPost_ret (v := .tuple #[]) (results_none rfl _ _ _) rfl ?_
    refine ⟨rfl, SA, Sc, es, PA, Pc, ps, A7, c7, k2.out, (PartN.of_below HBU.out).trans k3.out, fun j hj => ?_⟩
    rcases k4.out j hj with k | k
    · exact .inl k
    · exact .inr (by omega)
end
end Go.Proofs.YtimihhcidbeonaaGreat

namespace Go.Proofs.YtimihhcidbeonaaGreat
open Go.RowKit
def SameC : Prop := ∀ (A1 : Option Addr) (c1 : Nat) (ds1 : List Pd) (A2 : Option Addr) (c2 : Nat) (ds2 : List Pd) (w : World), PredRow w w.heap.size (.slice A1 ds1.length c1) ds1 → PredRow w w.heap.size (.slice A2 ds2.length c2) ds2 →
  Calls Tryz.prog 179 #[.slice A1 ds1.length c1, .slice A2 ds2.length c2] w fun e w' => e = .returned (.bool (decide (ds1.map (·.p) = ds2.map (·.p)))) ∧ Below w.heap.size w w'
end Go.Proofs.YtimihhcidbeonaaGreat

namespace Go.Proofs.YtimihhcidbeonaaGreat
open Go.RowKit
set_option maxRecDepth 100000 in
set_option maxHeartbeats 2000000 in
theorem equal_any (A1 : Option Addr) (c1 : Nat) (l1 : List Int) (A2 : Option Addr) (c2 : Nat) (l2 : List Int) (w : World) (hrow1 : IRow w w.heap.size (.slice A1 l1.length c1) l1) (hrow2 : IRow w w.heap.size (.slice A2 l2.length c2) l2) :
    Calls Tryz.prog 215 #[.slice A1 l1.length c1, .slice A2 l2.length c2] w fun e w' => e = .returned (.bool (decide (l1 = l2))) ∧ Below w.heap.size w w' := by
  by_cases hl : l1.length = l2.length
  · have hyes := fun h => decide_eq_true (args_ext (l := l1) (m := l2) hl h)
    have hno := fun (i : Nat) (h : l1.getD i 0 ≠ l2.getD i 0) => decide_eq_false (p := l1 = l2) (fun e => h (by rw [e]))
    generalize decide (l1 = l2) = R at hyes hno ⊢
    have HY := Lib.hid hyes
    have HN := Lib.hid hno
    have HI1 := Lib.hid (fun W (h : Below w.heap.size w W) => hrow1.below h)
    have HI2 := Lib.hid (fun W (h : Below w.heap.size w W) => hrow2.below h)
    have hlt : l1.length ≤ 9223372036854775807 := by
      obtain ⟨_, _, _, q1, q2, _⟩ := hrow1
      rw [List.length_map] at q1
      unfold maxLen at q2
      omega
    clear hyes hno hrow1 hrow2
    have HL := Lib.hid hl
    rw [← hl] at HI2 ⊢
    clear hl
    go_enter Tryz.func215, Tryz.ntmps215
    go_wp2_with fail
    go_loopg [13] l1.length (fun gm i wr2 => ∃ m : Nat, m ≤ l1.length ∧ i = .int .i64 m ∧ Hid (l1.length - m = gm) ∧ Hid (∀ j, j < m → l1.getD j 0 = l2.getD j 0) ∧ Below w.heap.size w wr2)
    case atStart => exact ⟨0, Nat.zero_le _, rfl, Lib.hid rfl, Lib.hid (fun j h => absurd h (Nat.not_lt_zero _)), Below.refl _ _⟩
    case round =>
      obtain ⟨m, hm, rfl, HGM, HI, hbw2⟩ := hrel
      by_cases hml : m < l1.length
      · obtain ⟨q1, r1, rfl, hq1, t1⟩ := (HI1.out _ hbw2).at hml
        obtain ⟨q2, r2, rfl, hq2, t2⟩ := (HI2.out _ hbw2).at (by rw [← HL.out]; exact hml)
        by_cases he : l1.getD m 0 = l2.getD m 0
        · have HI3 := Lib.hid (step_lt (P := fun j => l1.getD j 0 = l2.getD j 0) HI.out he)
          rw [he] at t1
          generalize l2.getD m 0 = t at t1 t2
          have HB2 := Lib.hid hbw2
          clear he hbw2
          go_wp2_with fail
          go_quiet (fail)
          go_wp2_with fail
          go_roundg (l1.length - (m + 1))
          case measure => have := HGM.out; omega
          case rel => exact ⟨m + 1, by omega, by go_num, Lib.hid rfl, HI3, HB2.out.trans (drewN_low _ _ _)⟩
        · have HR := Lib.hid (HN.out m he)
          generalize l1.getD m 0 = s1 at t1 he
          generalize l2.getD m 0 = s2 at t2 he
          have hse : (s1 != s2) = true := bne_iff_ne.2 he
          have HB2 := Lib.hid hbw2
          clear he hbw2
          go_wp2_with fail
          go_quiet (fail)
          go_wp2_with fail
          go_ret
          exact ⟨by rw [HR.out]; rfl, HB2.out.trans (drewN_low _ _ _)⟩
      · obtain rfl : m = l1.length := by omega
        have HR := Lib.hid (HY.out HI.out)
        have HB2 := Lib.hid hbw2
        clear hbw2
        go_wp2_with fail
        go_ret
        exact ⟨by rw [HR.out]; rfl, HB2.out⟩
  · have hlb : ((l1.length : Int) != (l2.length : Int)) = true := bne_iff_ne.2 (by omega)
    have hf : decide (l1 = l2) = false := decide_eq_false (fun e => hl (by rw [e]))
    rw [hf]
    clear hf hrow1 hrow2
    go_enter Tryz.func215, Tryz.ntmps215
    go_wp2_with fail
    go_ret
    exact ⟨rfl, Below.refl _ _⟩
theorem run_eql_key (w : World) (a b : ByteArray) : (binOp .eql 169 (.agg #[.string a]) (.agg #[.string b])).run Tryz.prog w = .ok (.bool (a.toList == b.toList)) w := by
  have h := key_eq w a b
  unfold Op.equal at h
  rw [run_eql_struct, show (10000 : Nat) = Op.maxDepth from rfl, h]
  rfl
theorem pr_eq_dec (p q : Pr) : decide (p = q) = (decide (p.name = q.name) && decide (p.args = q.args)) := by
  obtain ⟨a, b⟩ := p
  obtain ⟨c, d⟩ := q
  by_cases h1 : a = c <;> by_cases h2 : b = d <;> simp [h1, h2]
set_option maxRecDepth 100000 in
set_option maxHeartbeats 2000000 in
theorem spred_any (d1 d2 : Pd) (w : World) (f1 : ∀ x ∈ d1.p.name, 0 ≤ x ∧ x < 256) (f2 : ∀ x ∈ d2.p.name, 0 ≤ x ∧ x < 256) (hrow1 : IRow w w.heap.size (.slice d1.A d1.p.args.length d1.c) d1.p.args) (hrow2 : IRow w w.heap.size (.slice d2.A d2.p.args.length d2.c) d2.p.args) :
    Calls Tryz.prog 203 #[d1.val, d2.val] w fun e w' => e = .returned (.bool (decide (d1.p = d2.p))) ∧ Below w.heap.size w w' := by
  obtain ⟨⟨nm1, l1⟩, A1, c1⟩ := d1
  obtain ⟨⟨nm2, l2⟩, A2, c2⟩ := d2
  simp only at f1 f2 hrow1 hrow2
  rw [pr_eq_dec]
  dsimp only [Pd.val]
  have hde := str_eq_dec f1 f2
  have HIE := Lib.hid (fun W (h : Below w.heap.size w W) => equal_any A1 c1 l1 A2 c2 l2 W ((hrow1.below h).more h.size) ((hrow2.below h).more h.size))
  clear f1 f2 hrow1 hrow2
  generalize decide (l1 = l2) = E at HIE ⊢
  generalize l1.length = n1 at HIE ⊢
  generalize l2.length = n2 at HIE ⊢
  have HK1 := Lib.hid (fun W => key_any (strOfNums nm1) A1 n1 c1 W)
  have HK2 := Lib.hid (fun W => key_any (strOfNums nm2) A2 n2 c2 W)
  have hke := fun W => run_eql_key W (strOfNums nm1) (strOfNums nm2)
  rw [hde] at hke
  generalize strOfNums nm1 = s1 at HK1 hke hde ⊢
  generalize strOfNums nm2 = s2 at HK2 hke hde ⊢
  obtain ⟨w1, hw1⟩ : ∃ w1, (w.alloc (.cells #[.string s1, .slice A1 n1 c1] 88)).alloc (.cells #[.string s2, .slice A2 n2 c2] 88) = w1 := ⟨_, rfl⟩
  have s1' : w1.heap.size = w.heap.size + 1 + 1 := by rw [← hw1]; simp
  have b1 : Below w.heap.size w w1 := by rw [← hw1]; exact ((Below.refl _ _).alloc (Nat.le_refl _) _).alloc (by simp) _
  have h1 : Held w1 w.heap.size 88 #[.string s1, .slice A1 n1 c1] := by
    rw [← hw1]
    exact Held.below (heap_alloc_new w _) ((Below.refl _ _).alloc (Nat.le_refl _) _) (by simp)
  have h2 : Held w1 (w.heap.size + 1) 88 #[.string s2, .slice A2 n2 c2] := by
    rw [← hw1, show w.heap.size + 1 = (w.alloc (.cells #[.string s1, .slice A1 n1 c1] 88)).heap.size by simp]
    exact heap_alloc_new _ _
  have hall : ∀ W, Below w1.heap.size w1 W → Below w1.heap.size w1 W ∧ W.cell? ⟨w.heap.size, 0, none⟩ = some (.string s1) ∧ W.cell? ⟨w.heap.size, 1, none⟩ = some (.slice A1 n1 c1) ∧ W.cell? ⟨w.heap.size + 1, 0, none⟩ = some (.string s2) ∧ W.cell? ⟨w.heap.size + 1, 1, none⟩ = some (.slice A2 n2 c2) := fun W h => by
    have g1 := h1.below h (by omega)
    have g2 := h2.below h (by omega)
    have e0 := g1.cell 0
    have e1 := g1.cell 1
    have e2 := g2.cell 0
    have e3 := g2.cell 1
    exact ⟨h, by simpa using e0, by simpa using e1, by simpa using e2, by simpa using e3⟩
  have HALL := Lib.hid hall
  have HB1 := Lib.hid b1
  clear hall h1 h2 b1
  have hkp : ∀ W W', Below w1.heap.size w1 W → Below W.heap.size W W' → Below w1.heap.size w1 W' := fun W W' h h' => h.trans (h'.mono h.size)
  have HKP := Lib.hid hkp
  clear hkp
  cases hd : decide (nm1 = nm2) with
  | false =>
    rw [hd] at hke hde
    clear hd
    rw [Bool.false_and]
    clear hke
    go_enter Tryz.func203, Tryz.ntmps203
    go_wp2_with fail
    clear hw1
    have hS0 := HALL.out _ (Below.refl _ _).drew
    refine wp_region_held_drew (S := fun W => Below w1.heap.size w1 W ∧ W.cell? ⟨w.heap.size, 0, none⟩ = some (.string s1) ∧ W.cell? ⟨w.heap.size, 1, none⟩ = some (.slice A1 n1 c1) ∧ W.cell? ⟨w.heap.size + 1, 0, none⟩ = some (.string s2) ∧ W.cell? ⟨w.heap.size + 1, 1, none⟩ = some (.slice A2 n2 c2)) (by kernel_rfl) hS0 (fun _ => ?_)
    refine wpAnyH_take (i := 0) (v := .agg #[.string s1, .slice A1 n1 c1]) rfl (by kernel_rfl) (by kernel_rfl) (by kernel_rfl) (fun _ _ _ h => h) (Or.inl ⟨by rfl, fun W hW => by obtain ⟨_, q0, q1, q2, q3⟩ := hW; go_simp⟩) hS0 ?_
    try simp only [List.getElem_toArray, List.getElem_cons_zero, Act.put, List.setIfInBounds_toArray, List.set_cons_zero, List.set_cons_succ]
    refine wpAnyH_take (i := 2) (v := .agg #[.string s2, .slice A2 n2 c2]) rfl (by kernel_rfl) (by kernel_rfl) (by kernel_rfl) (fun _ _ _ h => h) (Or.inl ⟨by rfl, fun W hW => by obtain ⟨_, q0, q1, q2, q3⟩ := hW; go_simp⟩) hS0 ?_
    try simp only [List.getElem_toArray, List.getElem_cons_zero, List.getElem_cons_succ, Act.put, List.setIfInBounds_toArray, List.set_cons_zero, List.set_cons_succ]
    refine wpAnyH_ready (rs := [1]) (by kernel_rfl) (by simp) ?_
    refine AllReadyH.cons rfl (fun K hK => ?_) AllReadyH.nil
    go_simp
    refine (HK1.out _).mono ?_
    rintro e w7 ⟨rfl, hb7⟩
    have b7 : Below w1.heap.size w1 w7 := HKP.out _ _ (Below.refl _ _).drew hb7
    refine hK.out _ _ (HALL.out _ b7) (fun _ => ?_)
    clear hK K
    try simp only [List.getElem_toArray, List.getElem_cons_zero, List.getElem_cons_succ, Act.put, List.setIfInBounds_toArray, List.set_cons_zero, List.set_cons_succ]
    refine wpAnyH_ready (rs := [3]) (by kernel_rfl) (by simp) ?_
    refine AllReadyH.cons rfl (fun K hK => ?_) AllReadyH.nil
    go_simp
    refine (HK2.out _).mono ?_
    rintro e w8 ⟨rfl, hb8⟩
    have b8 : Below w1.heap.size w1 w8 := HKP.out _ _ b7 hb8
    have hS8 := HALL.out _ b8
    refine hK.out _ _ hS8 (fun _ => ?_)
    clear hK K hS0
    try simp only [List.getElem_toArray, List.getElem_cons_zero, List.getElem_cons_succ, Act.put, List.setIfInBounds_toArray, List.set_cons_zero, List.set_cons_succ]
    refine wpAnyH_take (i := 4) (v := .bool false) rfl (by kernel_rfl) (by kernel_rfl) (by kernel_rfl) (fun _ _ _ h => h) (Or.inl ⟨by rfl, fun W _ => by go_simp⟩) hS8 ?_
    try simp only [List.getElem_toArray, List.getElem_cons_zero, List.getElem_cons_succ, Act.put, List.setIfInBounds_toArray, List.set_cons_zero, List.set_cons_succ]
    refine wpAnyH_take (i := 5) (v := .bool false) rfl (by kernel_rfl) (by kernel_rfl) (by kernel_rfl) (fun _ _ _ h => h) (Or.inl ⟨by rfl, fun W _ => by go_simp⟩) hS8 ?_
    try simp only [List.getElem_toArray, List.getElem_cons_zero, List.getElem_cons_succ, Act.put, List.setIfInBounds_toArray, List.set_cons_zero, List.set_cons_succ]
    refine wpAnyH_take (i := 6) (v := undef) rfl (by kernel_rfl) (by kernel_rfl) (by kernel_rfl) (fun _ _ _ h => h) (Or.inr ⟨by rfl, rfl⟩) hS8 ?_
    try simp only [List.getElem_toArray, List.getElem_cons_zero, List.getElem_cons_succ, Act.put, List.setIfInBounds_toArray, List.set_cons_zero, List.set_cons_succ]
    refine wpAnyH_take (i := 7) (v := undef) rfl (by kernel_rfl) (by kernel_rfl) (by kernel_rfl) (fun _ _ _ h => h) (Or.inr ⟨by rfl, rfl⟩) hS8 ?_
    try simp only [List.getElem_toArray, List.getElem_cons_zero, List.getElem_cons_succ, Act.put, List.setIfInBounds_toArray, List.set_cons_zero, List.set_cons_succ]
    refine wpAnyH_take (i := 8) (v := undef) rfl (by kernel_rfl) (by kernel_rfl) (by kernel_rfl) (fun _ _ _ h => h) (Or.inr ⟨by rfl, rfl⟩) hS8 ?_
    try simp only [List.getElem_toArray, List.getElem_cons_zero, List.getElem_cons_succ, Act.put, List.setIfInBounds_toArray, List.set_cons_zero, List.set_cons_succ]
    refine wpAnyH_take (i := 9) (v := undef) rfl (by kernel_rfl) (by kernel_rfl) (by kernel_rfl) (fun _ _ _ h => h) (Or.inr ⟨by rfl, rfl⟩) hS8 ?_
    try simp only [List.getElem_toArray, List.getElem_cons_zero, List.getElem_cons_succ, Act.put, List.setIfInBounds_toArray, List.set_cons_zero, List.set_cons_succ]
    refine wpAnyH_take (i := 10) (v := undef) rfl (by kernel_rfl) (by kernel_rfl) (by kernel_rfl) (fun _ _ _ h => h) (Or.inr ⟨by rfl, rfl⟩) hS8 ?_
    try simp only [List.getElem_toArray, List.getElem_cons_zero, List.getElem_cons_succ, Act.put, List.setIfInBounds_toArray, List.set_cons_zero, List.set_cons_succ]
    refine wpAnyH_take (i := 11) (v := .bool false) rfl (by kernel_rfl) (by kernel_rfl) (by kernel_rfl) (fun _ _ _ h => h) (Or.inl ⟨by rfl, fun W _ => by go_simp⟩) hS8 ?_
    try simp only [List.getElem_toArray, List.getElem_cons_zero, List.getElem_cons_succ, Act.put, List.setIfInBounds_toArray, List.set_cons_zero, List.set_cons_succ]
    refine wpAnyH_take (i := 12) (v := .bool false) rfl (by kernel_rfl) (by kernel_rfl) (by kernel_rfl) (fun _ _ _ h => h) (Or.inl ⟨by rfl, fun W _ => by go_simp⟩) hS8 ?_
    try simp only [List.getElem_toArray, List.getElem_cons_zero, List.getElem_cons_succ, Act.put, List.setIfInBounds_toArray, List.set_cons_zero, List.set_cons_succ]
    refine wpAnyH_done (by kernel_rfl) ?_ _
    go_wp2_with fail
    go_ret
    exact ⟨rfl, HB1.out.trans (b8.mono (by omega))⟩
  | true =>
    rw [hd] at hke
    clear hd
    rw [Bool.true_and]
    go_enter Tryz.func203, Tryz.ntmps203
    go_wp2_with fail
    clear hw1
    go_region_held3 (fun W => Below w1.heap.size w1 W ∧ W.cell? ⟨w.heap.size, 0, none⟩ = some (.string s1) ∧ W.cell? ⟨w.heap.size, 1, none⟩ = some (.slice A1 n1 c1) ∧ W.cell? ⟨w.heap.size + 1, 0, none⟩ = some (.string s2) ∧ W.cell? ⟨w.heap.size + 1, 1, none⟩ = some (.slice A2 n2 c2))
      (first | exact HALL.out _ (Below.refl _ _) | exact HALL.out _ (Below.refl _ _).drew | exact HALL.out _ b7 | exact HALL.out _ b8 | exact HALL.out _ b9)
      (first
        | (go_at_call 91; (with_reducible refine (HK1.out _).mono ?_); rintro e w7 ⟨rfl, hb7⟩; have b7 : Below w1.heap.size w1 w7 := HKP.out _ _ (Below.refl _ _).drew hb7)
        | (go_at_call 91; (with_reducible refine (HK2.out _).mono ?_); rintro e w8 ⟨rfl, hb8⟩; have b8 : Below w1.heap.size w1 w8 := HKP.out _ _ b7 hb8)
        | (go_at_call 215; (with_reducible refine (HIE.out _ (HB1.out.trans (b8.mono (by omega)))).mono ?_); rintro e w9 ⟨rfl, hb9⟩; have b9 : Below w1.heap.size w1 w9 := HKP.out _ _ b8 hb9))
    go_wp2_with fail
    go_ret
    exact ⟨rfl, HB1.out.trans (b9.mono (by omega))⟩
end Go.Proofs.YtimihhcidbeonaaGreat

namespace Go.Proofs.YtimihhcidbeonaaGreat
open Go.RowKit
set_option maxRecDepth 100000 in
set_option maxHeartbeats 2000000 in
theorem eqfunc_any (A1 : Option Addr) (c1 : Nat) (ds1 : List Pd) (A2 : Option Addr) (c2 : Nat) (ds2 : List Pd) (w : World) (hrow1 : PredRow w w.heap.size (.slice A1 ds1.length c1) ds1) (hrow2 : PredRow w w.heap.size (.slice A2 ds2.length c2) ds2) :
    Calls Tryz.prog 202 #[.slice A1 ds1.length c1, .slice A2 ds2.length c2, .func (.func 203) #[] #[]] w fun e w' => e = .returned (.bool (decide (ds1.map (·.p) = ds2.map (·.p)))) ∧ Below w.heap.size w w' := by
  obtain ⟨_, hc1, hc2⟩ : ∃ _ : True, ds1.length ≤ c1 ∧ c1 ≤ 9223372036854775807 := by
    obtain ⟨A', c', hv, q1, q2⟩ := hrow1.form
    injection hv with _ _ e3
    exact ⟨trivial, by omega, by omega⟩
  obtain ⟨_, hc3, hc4⟩ : ∃ _ : True, ds2.length ≤ c2 ∧ c2 ≤ 9223372036854775807 := by
    obtain ⟨A', c', hv, q1, q2⟩ := hrow2.form
    injection hv with _ _ e3
    exact ⟨trivial, by omega, by omega⟩
  by_cases hl : ds1.length = ds2.length
  · have hyes := fun h => decide_eq_true (prs_ext (l := ds1.map (·.p)) (m := ds2.map (·.p)) (by simpa using hl) h)
    have hno := fun (i : Nat) (h : (ds1.map (·.p)).getD i default ≠ (ds2.map (·.p)).getD i default) => decide_eq_false (p := ds1.map (·.p) = ds2.map (·.p)) (fun e => h (by rw [e]))
    generalize decide (ds1.map (·.p) = ds2.map (·.p)) = R at hyes hno ⊢
    have HY := Lib.hid hyes
    have HN := Lib.hid hno
    have HR1 := Lib.hid hrow1
    have HR2 := Lib.hid hrow2
    clear hyes hno hrow1 hrow2
    rw [← hl] at hc3
    have HL := Lib.hid hl
    rw [← hl] at HR2 ⊢
    clear hl
    obtain ⟨N, hN⟩ : ∃ N, ds1.length = N := ⟨_, rfl⟩
    have HN1 := Lib.hid hN
    rw [hN] at HR1 HR2 hc1 hc3 HL ⊢
    clear hN
    go_enter Tryz.func202, Tryz.ntmps202
    go_wp2_with fail
    go_loopg [17] N (fun gk i wr => ∃ k : Nat, k ≤ N ∧ i = .int .i64 k ∧ Hid (N - k = gk) ∧ Hid (∀ j, j < k → (ds1.map (·.p)).getD j default = (ds2.map (·.p)).getD j default) ∧ Hid (Below w.heap.size w wr))
    case atStart => exact ⟨0, Nat.zero_le _, rfl, Lib.hid rfl, Lib.hid (fun j h => absurd h (Nat.not_lt_zero _)), Lib.hid (Below.refl _ _)⟩
    case round =>
      obtain ⟨k, hk, rfl, HGK, HJ, HBW⟩ := hrel
      by_cases hlt : k < N
      · obtain ⟨d1, hd1⟩ : ∃ d, ds1[k]? = some d := ⟨_, List.getElem?_eq_getElem (by rw [HN1.out]; exact hlt)⟩
        obtain ⟨d2, hd2⟩ : ∃ d, ds2[k]? = some d := ⟨_, List.getElem?_eq_getElem (by rw [← HL.out]; exact hlt)⟩
        obtain ⟨b1, o1, rfl, hb1, x0, x1, hir1, hfit1, ha1, ha2⟩ := (HR1.out.below HBW.out).at hd1
        obtain ⟨b2, o2, rfl, hb2, y0, y1, hir2, hfit2, ha3, ha4⟩ := (HR2.out.below HBW.out).at hd2
        have e1 := getD_pr (at_pr hd1)
        have e2 := getD_pr (at_pr hd2)
        have hno := HN.out k
        rw [e1, e2] at hno
        have HNO := Lib.hid hno
        have HST := Lib.hid (fun (h : d1.p = d2.p) => step_lt (P := fun j => (ds1.map (·.p)).getD j default = (ds2.map (·.p)).getD j default) HJ.out (by rw [e1, e2]; exact h))
        have HSP := Lib.hid (fun W (h : Below w.heap.size wr W) => spred_any d1 d2 W hfit1.2.1 hfit2.2.1 ((hir1.below h).more (Nat.le_trans HBW.out.size h.size)) ((hir2.below h).more (Nat.le_trans HBW.out.size h.size)))
        obtain ⟨w1, hw1⟩ : ∃ w1, wr.alloc (.cells #[.string (strOfNums d1.p.name), .slice d1.A d1.p.args.length d1.c] 88) = w1 := ⟨_, rfl⟩
        obtain ⟨w2, hw2⟩ : ∃ w2, w1.alloc (.cells #[.string (strOfNums d2.p.name), .slice d2.A d2.p.args.length d2.c] 88) = w2 := ⟨_, rfl⟩
        have s1 : w1.heap.size = wr.heap.size + 1 := by rw [← hw1]; simp
        have s2 : w2.heap.size = wr.heap.size + 1 + 1 := by rw [← hw2]; simp [s1]
        have z0 := HBW.out.size
        have g1 : Below wr.heap.size wr w1 := by rw [← hw1]; exact (Below.refl _ _).alloc (Nat.le_refl _) _
        have g2 : Below w1.heap.size w1 w2 := by rw [← hw2]; exact (Below.refl _ _).alloc (Nat.le_refl _) _
        have h1 : Held w1 wr.heap.size 88 #[.string (strOfNums d1.p.name), .slice d1.A d1.p.args.length d1.c] := by rw [← hw1]; exact heap_alloc_new wr _
        have h2 : Held w2 (wr.heap.size + 1) 88 #[.string (strOfNums d2.p.name), .slice d2.A d2.p.args.length d2.c] := by rw [← hw2, ← s1]; exact heap_alloc_new w1 _
        have h1' := h1.below g2 (by omega)
        have p0 := h1'.cell 0
        have p1 := h1'.cell 1
        have p2 := h2.cell 0
        have p3 := h2.cell 1
        simp at p0 p1 p2 p3
        have y0' := (g1.cell (p := ⟨b2, o2 + k * 2, none⟩) (by simpa using Nat.lt_of_lt_of_le hb2 z0)).trans y0
        have y1' := (g1.cell (p := ⟨b2, o2 + k * 2 + 1, none⟩) (by simpa using Nat.lt_of_lt_of_le hb2 z0)).trans y1
        have g12 := (g1.trans (g2.mono (by omega))).mono z0
        have HSQ := Lib.hid (HSP.out w2 g12)
        have HB2 := Lib.hid (HBW.out.trans g12)
        have hbz1 : b1 < w1.heap.size := by omega
        have hbz2 : b2 < w1.heap.size := by omega
        clear HSP hir1 hir2 hfit1 hfit2 e1 e2 hno hd1 hd2 h1 h2 h1' g1 g2 g12
        by_cases hp : d1.p = d2.p
        · have HJ2 := Lib.hid (HST.out hp)
          rw [decide_eq_true hp] at HSQ
          clear hp
          go_wp2_with fail
          refine HSQ.out.mono ?_
          rintro e w3 ⟨rfl, hb3⟩
          have HB3 := Lib.hid (HB2.out.trans (hb3.mono (by omega)))
          clear hb3 p0 p1 p2 p3 x0 x1 y0 y1 y0' y1'
          go_wp2_with fail
          go_roundg (N - (k + 1))
          case measure => have := HGK.out; omega
          case rel => exact ⟨k + 1, by omega, by go_num, Lib.hid rfl, HJ2, HB3⟩
        · have HR := Lib.hid (HNO.out hp)
          rw [decide_eq_false hp] at HSQ
          clear hp
          go_wp2_with fail
          refine HSQ.out.mono ?_
          rintro e w3 ⟨rfl, hb3⟩
          have HB3 := Lib.hid (HB2.out.trans (hb3.mono (by omega)))
          clear hb3 p0 p1 p2 p3 x0 x1 y0 y1 y0' y1'
          go_wp2_with fail
          go_ret
          exact ⟨by rw [HR.out]; rfl, HB3.out⟩
      · obtain rfl : k = N := by omega
        have HR := Lib.hid (HY.out (fun i hi => HJ.out i (by rw [List.length_map, HN1.out] at hi; exact hi)))
        go_wp2_with fail
        go_ret
        exact ⟨by rw [HR.out]; rfl, HBW.out⟩
  · have hlb : ((ds1.length : Int) != (ds2.length : Int)) = true := bne_iff_ne.2 (by omega)
    have hf : decide (ds1.map (·.p) = ds2.map (·.p)) = false := decide_eq_false (fun e => hl (by have := congrArg List.length e; simpa using this))
    rw [hf]
    clear hf hrow1 hrow2
    go_enter Tryz.func202, Tryz.ntmps202
    go_wp2_with fail
    go_ret
    exact ⟨rfl, Below.refl _ _⟩
theorem ssame_any : SameC := by
  intro A1 c1 ds1 A2 c2 ds2 w hrow1 hrow2
  have HE := Lib.hid (eqfunc_any A1 c1 ds1 A2 c2 ds2 w hrow1 hrow2)
  clear hrow1 hrow2
  generalize decide (ds1.map (·.p) = ds2.map (·.p)) = R at HE ⊢
  go_enter Tryz.func179, Tryz.ntmps179
  go_wp2_with fail
  refine HE.out.mono ?_
  rintro e w1 ⟨rfl, hb⟩
  go_wp2_with fail
  go_ret
  exact ⟨rfl, hb⟩
end Go.Proofs.YtimihhcidbeonaaGreat
