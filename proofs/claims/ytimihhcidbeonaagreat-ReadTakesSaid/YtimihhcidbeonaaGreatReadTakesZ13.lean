/-
  What the theorem of ReadTakes rests on, part 13 of 17.
-/
import Derived.Carry
import Derived.Test.YtimihhcidbeonaaGreatReadTakesZ12
set_option maxRecDepth 100000
set_option maxHeartbeats 16000000
namespace Go.Proofs.YtimihhcidbeonaaGreat
open Lib (hid)
open Go.RowKit Go.ChangeShapes Go.WideShapes
set_option linter.unusedVariables false
structure Jm where
 s : Sj
 A : Option Addr
 c : Nat
def flatS5 : List Jm → List Value
 | [] => []
 | a :: l => .int .i64 a.s.frm :: .int .i64 a.s.n :: .bool a.s.isf :: .int .i64 a.s.kind :: .slice a.A a.s.pay.length a.c :: flatS5 l
theorem flatS5_at : ∀ (l : List Jm) (i : Nat) (d : Jm), l[i]? = some d → (flatS5 l)[i * 5]? = some (.int .i64 d.s.frm) ∧ (flatS5 l)[i * 5 + 1]? = some (.int .i64 d.s.n) ∧ (flatS5 l)[i * 5 + 2]? = some (.bool d.s.isf) ∧ (flatS5 l)[i * 5 + 3]? = some (.int .i64 d.s.kind) ∧ (flatS5 l)[i * 5 + 4]? = some (.slice d.A d.s.pay.length d.c)
 | [], i, d, h => by simp at h
 | a :: l, 0, d, h => by
  simp only [List.getElem?_cons_zero, Option.some.injEq] at h
  subst h
  exact ⟨rfl, rfl, rfl, rfl, rfl⟩
 | a :: l, i + 1, d, h => by
  rw [List.getElem?_cons_succ] at h
  have h1 := flatS5_at l i d h
  rw [flatS5, show (i + 1) * 5 = i * 5 + 5 by omega]
  exact h1
def JRow (W : World) (B : Nat) (v : Value) (ls : List Jm) : Prop := ERow W B v ls.length (flatS5 ls) ∧ ∀ x ∈ ls, Row W B (.slice x.A x.s.pay.length x.c) x.s.pay ∧ (∀ y ∈ x.s.pay, 0 ≤ y ∧ y < 256) ∧ x.s.pay.length ≤ 1000000 ∧ -1099511627776 ≤ x.s.n ∧ x.s.n ≤ 1099511627776
theorem JRow.below {W W' : World} {B : Nat} {v : Value} {ls : List Jm} (h : JRow W B v ls) (hb : Below B W W') : JRow W' B v ls := ⟨h.1.below hb, fun x hx => ⟨(h.2 x hx).1.below hb, (h.2 x hx).2⟩⟩
theorem JRow.more {W : World} {B B' : Nat} {v : Value} {ls : List Jm} (h : JRow W B v ls) (hb : B ≤ B') : JRow W B' v ls := ⟨h.1.more hb, fun x hx => ⟨(h.2 x hx).1.more hb, (h.2 x hx).2⟩⟩
theorem JRow.at {W : World} {B n c : Nat} {A : Option Addr} {ls : List Jm} (h : JRow W B (.slice A n c) ls) {i : Nat} {d : Jm} (hd : ls[i]? = some d) : ∃ b o, A = some ⟨b, o, none⟩ ∧ b < B ∧
  W.cell? ⟨b, o + i * 5, none⟩ = some (.int .i64 d.s.frm) ∧ W.cell? ⟨b, o + i * 5 + 1, none⟩ = some (.int .i64 d.s.n) ∧ W.cell? ⟨b, o + i * 5 + 2, none⟩ = some (.bool d.s.isf) ∧ W.cell? ⟨b, o + i * 5 + 3, none⟩ = some (.int .i64 d.s.kind) ∧ W.cell? ⟨b, o + i * 5 + 4, none⟩ = some (.slice d.A d.s.pay.length d.c) := by
 have hl := (List.getElem?_eq_some_iff.1 hd).1
 obtain ⟨b, o, e, hb, hc⟩ := h.1.block (by omega)
 obtain ⟨m0, m1, m2, m3, m4⟩ := flatS5_at _ _ _ hd
 refine ⟨b, o, e, hb, hc _ _ m0, ?_, ?_, ?_, ?_⟩
 ·rw [Nat.add_assoc]; exact hc _ _ m1
 ·rw [Nat.add_assoc]; exact hc _ _ m2
 ·rw [Nat.add_assoc]; exact hc _ _ m3
 ·rw [Nat.add_assoc]; exact hc _ _ m4
structure Bd (P : Nat) (g : Gp) : Prop where
 pts : g.pts.length ≤ 100000000 + 1024 * P
 sk : -1152921504606846976 - 1099511627776 * (P : Int) ≤ g.sk ∧ g.sk ≤ 1152921504606846976 + 1099511627776 * (P : Int)
 fr : -1152921504606846976 ≤ g.fr ∧ g.fr ≤ 1152921504606846976 + (P : Int)
 rej : g.rej.length ≤ 100000000 + P
theorem frameG_pts (g : Gp) (k : Int) (p : List Int) : (frameG g k p).1.pts.length ≤ g.pts.length + 1024 := by
 unfold frameG
 split
 ·split
  ·exact Nat.le_add_right _ _
  ·split <;> exact Nat.le_add_right _ _
 ·split
  ·exact Nat.le_add_right _ _
  ·split
   ·exact Nat.le_add_right _ _
   ·split
    ·exact Nat.le_add_right _ _
    ·rename_i h
     split
     ·exact Nat.le_add_right _ _
     ·have := (getU_len (sig := g.sig) (xs := p) (by simpa using h)).2
      simp only [List.length_append]
      omega
theorem Bd.step {P : Nat} {g : Gp} {s : Sj} (h : Bd P g) (h1 : -1099511627776 ≤ s.n) (h2 : s.n ≤ 1099511627776) : Bd (P + 1) (takeS g s) := by
 have hp := frameG_pts g s.kind s.pay
 obtain ⟨a, b, c, d⟩ := h
 unfold takeS
 split
 ·exact ⟨by simp only; omega, by simp only; omega, by simp only; omega, by simp only; omega⟩
 ·split
  ·exact ⟨by simp only; omega, by simp only; omega, by simp only; omega, by simp only [List.length_append, List.length_cons, List.length_nil]; omega⟩
  ·exact ⟨by simp only; omega, by simp only; omega, by simp only; omega, by simp only; omega⟩
theorem Bd.take {g : Gp} {l : List Sj} (h : Bd 0 g) (hl : ∀ s ∈ l, -1099511627776 ≤ s.n ∧ s.n ≤ 1099511627776) : ∀ k, k ≤ l.length → Bd k (takeL g (l.take k))
 | 0, _ => h
 | k + 1, hk => by
  have hs := List.getElem?_eq_getElem (show k < l.length by omega)
  rw [takeL_succ hs]
  have hm := hl _ (List.getElem_mem (show k < l.length by omega))
  exact (Bd.take h hl k (by omega)).step hm.1 hm.2
theorem part_put6 {S : Nat → Prop} (W : World) (B : Nat) (h0 : S B) (a b c d e f : Value) :
  PartN S W ((((((W.setCell ⟨B, 0, none⟩ a).setCell ⟨B, 1, none⟩ b).setCell ⟨B, 2, none⟩ c).setCell ⟨B, 3, none⟩ d).setCell ⟨B, 4, none⟩ e).setCell ⟨B, 5, none⟩ f) :=
 ((((((PartN.refl S W).trans (PartN.put h0 0 a)).trans (PartN.put h0 1 b)).trans (PartN.put h0 2 c)).trans (PartN.put h0 3 d)).trans (PartN.put h0 4 e)).trans (PartN.put h0 5 f)
theorem PartN.mono {S S' : Nat → Prop} {W W' : World} (h : PartN S W W') (hs : ∀ i, S i → S' i) : PartN S' W W' := ⟨h.os, h.tape, h.output, h.size, fun i hi hn => h.block i hi (fun e => hn (hs i e))⟩
def TGot (S : Nat → Prop) (w : World) (g : Gp) (e : Ending) (W' : World) : Prop := ∃ SA Sc es PA Pc ps RA Rc, e = .returned (GV g SA Sc es PA Pc ps RA Rc) ∧ GIn S W' g SA Sc es PA Pc ps RA Rc ∧ Below w.heap.size w W'
theorem Tryz.infoReject : (Tryz.prog.info? 73).map (fun i => (i.zero, i.size, i.bytes)) = some (some (.agg #[.int .i64 0, .int .i64 0]), 2, 16) := by kernel_rfl
def InBox (S : Nat → Prop) (N i : Nat) : Prop := (i = N ∨ i = N + 1) ∨ S i
def InBox3 (S : Nat → Prop) (N B i : Nat) : Prop := InBox S N i ∨ i = B
theorem gin_wide {S : Nat → Prop} {N : Nat} {wr W' : World} {o : Obj} (hp : PartN (InBox3 S N wr.heap.size) (wr.alloc o) W') : PartN (InBox S N) wr W' := by
 have h := (Below.refl wr.heap.size wr).alloc (Nat.le_refl _) o
 refine ⟨hp.os.trans h.os, hp.tape.trans h.tape, hp.output.trans h.output, Nat.le_trans h.size hp.size, fun i hi hn => (hp.block i (by rw [World.size_alloc]; omega) (fun e => ?_)).trans (h.block i hi)⟩
 rcases e with e | e
 ·exact hn e
 ·omega
def TkRel (S : Nat → Prop) (w : World) (N n : Nat) (g : Gp) (l : List Sj) (gk : Nat) (iv : Value) (wr : World) : Prop :=
 ∃ (k : Nat) (SA : Option Addr) (Sc : Nat) (es : List Pd) (PA : Option Addr) (Pc : Nat) (ps : List Pm) (RA : Option Addr) (Rc : Nat), iv = .int .i64 k ∧ k ≤ n ∧ Hid (n - k = gk) ∧ Hid (Held wr N 66 #[.slice SA es.length Sc, .slice PA ps.length Pc, .int .i64 (takeL g (l.take k)).sk, .int .i64 (takeL g (l.take k)).fr, .slice RA (takeL g (l.take k)).rej.length Rc, .bool (takeL g (l.take k)).isg]) ∧ Hid (Held wr (N + 1) 66 #[.slice none 0 0, .slice none 0 0, .int .i64 0, .int .i64 0, .slice none 0 0, .bool false]) ∧ Hid (GIn (InBox S N) wr (takeL g (l.take k)) SA Sc es PA Pc ps RA Rc) ∧ Hid (Below N w wr)
section
variable {S : Nat → Prop} {w wr : World} {N n k : Nat} {g gq : Gp} {l : List Sj} {s : Sj} {SA : Option Addr} {Sc : Nat} {es : List Pd} {PA : Option Addr} {Pc : Nat} {ps : List Pm} {RA : Option Addr} {Rc : Nat}
theorem held_drew {b : Nat} {t : TypeId} {cs : Array Value} (h : Held w b t cs) : Held w.drew b t cs := h.below (Below.refl _ _).drew h.lt
theorem TkRel.skip (h0 : Held wr N 66 #[.slice SA es.length Sc, .slice PA ps.length Pc, .int .i64 gq.sk, .int .i64 gq.fr, .slice RA gq.rej.length Rc, .bool gq.isg]) (h1 : Held wr (N + 1) 66 #[.slice none 0 0, .slice none 0 0, .int .i64 0, .int .i64 0, .slice none 0 0, .bool false]) (hgi : GIn (InBox S N) wr gq SA Sc es PA Pc ps RA Rc) (hb : Below N w wr) (hsu : takeL g (l.take (k + 1)) = takeS gq s) (hf : s.isf = false) (hk : k < n) :
  TkRel S w N n g l (n - (k + 1)) (.int .i64 ((k : Int) + 1)) (wr.setCell ⟨N, 2, none⟩ (.int .i64 (gq.sk + s.n))).drew := by
 have ht : takeS gq s = ⟨gq.sig, gq.isg, gq.pts, gq.sk + s.n, gq.fr, gq.rej⟩ := by unfold takeS; rw [if_pos hf]
 refine ⟨k + 1, SA, Sc, es, PA, Pc, ps, RA, Rc, by go_num, hk, hid rfl, hid ?_, hid (held_drew (h1.other_put (by omega) _)), hid ?_, hid ((hb.trans (below_put _ (Nat.le_refl _))).trans (Below.refl _ _).drew)⟩
 ·rw [hsu, ht]
  exact held_drew (by simpa using h0.put 2 (.int .i64 (gq.sk + s.n)))
 ·rw [hsu, ht]
  intro W' hp
  have h := hgi W' (((PartN.put (S := InBox S N) (Or.inl (Or.inl rfl)) 2 (.int .i64 (gq.sk + s.n))).trans (PartN.of_below (Below.refl _ _).drew)).trans hp)
  exact ⟨h.sig, h.sigp, h.pts, h.ptsp, h.rej⟩
theorem TkRel.refused {y : World} {g2 : Gp} {e2 : Int} {A8 : Option Addr} {c8 : Nat} (h0 : Held wr N 66 #[.slice SA es.length Sc, .slice PA ps.length Pc, .int .i64 g2.sk, .int .i64 g2.fr, .slice RA g2.rej.length Rc, .bool g2.isg]) (h1 : Held wr (N + 1) 66 #[.slice none 0 0, .slice none 0 0, .int .i64 0, .int .i64 0, .slice none 0 0, .bool false]) (hgi : GIn (InBox S N) wr g2 SA Sc es PA Pc ps RA Rc) (hb : Below N w wr) (bel : Below wr.heap.size wr y) (hS : ∀ j, N ≤ j → ¬ S j)
  (ho : y.ownsRow wr.heap.size 73 2 (.slice A8 (g2.rej.length + 1) c8) (g2.rej.length + 1) (flatJ g2.rej ++ flatJ [(s.frm, e2)])) (hsu : takeL g (l.take (k + 1)) = takeS gq s) (hf : s.isf = true) (hge : frameG gq s.kind s.pay = (g2, e2)) (he : e2 ≠ 0) (hk : k < n) :
  TkRel S w N n g l (n - (k + 1)) (.int .i64 ((k : Int) + 1)) (y.setCell ⟨N, 4, none⟩ (.slice A8 (g2.rej.length + 1) c8)) := by
 have hg2 : g2 = gq := by
  have := frameG_kept (g := gq) (k := s.kind) (p := s.pay) (by rw [hge]; exact he)
  rw [hge] at this
  exact this
 subst hg2
 have ht : takeS g2 s = ⟨g2.sig, g2.isg, g2.pts, g2.sk, g2.fr, g2.rej ++ [(s.frm, e2)]⟩ := by unfold takeS; rw [if_neg (by rw [hf]; decide), hge, if_pos he]
 have hl0 := h0.lt
 have hl1 := h1.lt
 refine ⟨k + 1, SA, Sc, es, PA, Pc, ps, A8, c8, by go_num, hk, hid rfl, hid ?_, hid ((h1.below bel hl1).other_put (by omega) _), hid ?_, hid ((hb.trans (bel.mono (by omega))).trans (below_put _ (Nat.le_refl _)))⟩
 ·rw [hsu, ht]
  simpa using (h0.below bel hl0).put 4 (.slice A8 (g2.rej.length + 1) c8)
 ·rw [hsu, ht]
  intro W' hp
  have hpp := (PartN.put (S := InBox S N) (W := y) (Or.inl (Or.inl rfl)) 4 (.slice A8 (g2.rej.length + 1) c8)).trans hp
  have h := hgi W' ((PartN.of_below bel).trans hpp)
  have ho2 := own_part ho hpp (fun j hj e => by
   rcases e with (e | e) | e
   ·omega
   ·omega
   ·exact hS j (by omega) e)
  refine ⟨h.sig, h.sigp, h.pts, h.ptsp, ?_⟩
  show ERow W' W'.heap.size (.slice A8 (g2.rej ++ [(s.frm, e2)]).length c8) (g2.rej ++ [(s.frm, e2)]).length (flatJ (g2.rej ++ [(s.frm, e2)]))
  rw [flatJ_append, List.length_append]
  exact ERow.of_own ho2
theorem TkRel.took {g2 : Gp} {e2 : Int} {a0 a1 a2 a3 a4 a5 : Value} (h0 : Held wr N 66 #[a0, a1, a2, a3, a4, a5]) (h1 : Held wr (N + 1) 66 #[.slice none 0 0, .slice none 0 0, .int .i64 0, .int .i64 0, .slice none 0 0, .bool false]) (hgi : GIn (InBox S N) wr g2 SA Sc es PA Pc ps RA Rc) (hb : Below N w wr) (hsu : takeL g (l.take (k + 1)) = takeS gq s) (hf : s.isf = true)
  (hge : frameG gq s.kind s.pay = (g2, e2)) (he : e2 = 0) (hc : g2.sk = gq.sk ∧ g2.fr = gq.fr ∧ g2.rej = gq.rej) (hk : k < n) :
  TkRel S w N n g l (n - (k + 1)) (.int .i64 ((k : Int) + 1)) (((((((wr.setCell ⟨N, 0, none⟩ (.slice SA es.length Sc)).setCell ⟨N, 1, none⟩ (.slice PA ps.length Pc)).setCell ⟨N, 2, none⟩ (.int .i64 g2.sk)).setCell ⟨N, 3, none⟩ (.int .i64 g2.fr)).setCell ⟨N, 4, none⟩ (.slice RA g2.rej.length Rc)).setCell ⟨N, 5, none⟩ (.bool g2.isg)).setCell ⟨N, 3, none⟩ (.int .i64 (g2.fr + 1))) := by
 obtain ⟨c1, c2, c3⟩ := hc
 have ht : takeS gq s = ⟨g2.sig, g2.isg, g2.pts, g2.sk, g2.fr + 1, g2.rej⟩ := by unfold takeS; rw [if_neg (by rw [hf]; decide), hge, if_neg (fun h => h he), c1, c2, c3]
 have h6 := held_put6 h0 (.slice SA es.length Sc) (.slice PA ps.length Pc) (.int .i64 g2.sk) (.int .i64 g2.fr) (.slice RA g2.rej.length Rc) (.bool g2.isg)
 have g6 := grown_put6 wr N (.slice SA es.length Sc) (.slice PA ps.length Pc) (.int .i64 g2.sk) (.int .i64 g2.fr) (.slice RA g2.rej.length Rc) (.bool g2.isg)
 have p6 := part_put6 (S := InBox S N) wr N (Or.inl (Or.inl rfl)) (.slice SA es.length Sc) (.slice PA ps.length Pc) (.int .i64 g2.sk) (.int .i64 g2.fr) (.slice RA g2.rej.length Rc) (.bool g2.isg)
 refine ⟨k + 1, SA, Sc, es, PA, Pc, ps, RA, Rc, by go_num, hk, hid rfl, hid ?_, hid ((h1.grown g6 (by simp)).other_put (by omega) _), hid ?_, hid ((hb.grown g6 (by have := h0.lt; omega) (fun j e => by injection e with e; omega)).trans (below_put _ (Nat.le_refl _)))⟩
 ·rw [hsu, ht]
  simpa using h6.put 3 (.int .i64 (g2.fr + 1))
 ·rw [hsu, ht]
  intro W' hp
  have h := hgi W' ((p6.trans (PartN.put (S := InBox S N) (Or.inl (Or.inl rfl)) 3 (.int .i64 (g2.fr + 1)))).trans hp)
  exact ⟨h.sig, h.sigp, h.pts, h.ptsp, h.rej⟩
end
section
variable {w : World} {R : Nat} {a b c d e f : Value} {T : Array Value}
theorem res_take (h : T[4]?.getD undef = .pointer (some ⟨R, 0, none⟩)) (hz : Held w R 66 #[a, b, c, d, e, f]) :
  (results Tryz.f38 T).run Tryz.prog w = .ok (.agg #[a, b, c, d, e, f]) w := by
 obtain ⟨z0, z1, z2, z3, z4, z5⟩ := cC6 hz
 simp at z0 z1 z2 z3 z4 z5
 simp [results, Tryz.results38, go_sem, h, z0, z1, z2, z3, z4, z5]
end
section
variable (g : Gp) (SA : Option Addr) (Sc : Nat) (es : List Pd) (PA : Option Addr) (Pc : Nat) (ps : List Pm) (RA : Option Addr) (Rc : Nat) (TA : Option Addr) (Tc : Nat) (ls : List Jm) (w : World) (S : Nat → Prop)
theorem rgtake_any (hg : GIn S w g SA Sc es PA Pc ps RA Rc) (hS : ∀ j, w.heap.size ≤ j → ¬ S j) (hrow : JRow w w.heap.size (.slice TA ls.length Tc) ls) (hls : ls.length ≤ 100000) (hbd : Bd 0 g) :
  Calls Tryz.prog 38 #[GV g SA Sc es PA Pc ps RA Rc, .slice TA ls.length Tc] w (TGot S w (takeL g (ls.map (·.s)))) := by
 obtain ⟨N, hN⟩ : ∃ N, w.heap.size = N := ⟨_, rfl⟩
 obtain ⟨u0, hu0⟩ : ∃ u, w.alloc (.cells #[.slice SA es.length Sc, .slice PA ps.length Pc, .int .i64 g.sk, .int .i64 g.fr, .slice RA g.rej.length Rc, .bool g.isg] 66) = u := ⟨_, rfl⟩
 have s0 : u0.heap.size = N + 1 := by rw [← hu0, World.size_alloc, hN]
 have b0 : Below N w u0 := by rw [← hu0]; exact (Below.refl _ _).alloc (by omega) _
 have k0 : Held u0 N 66 #[.slice SA es.length Sc, .slice PA ps.length Pc, .int .i64 g.sk, .int .i64 g.fr, .slice RA g.rej.length Rc, .bool g.isg] := by rw [← hu0, ← hN]; exact heap_alloc_new w _
 obtain ⟨u1, hu1⟩ : ∃ u, u0.alloc (.cells #[.slice none 0 0, .slice none 0 0, .int .i64 0, .int .i64 0, .slice none 0 0, .bool false] 66) = u := ⟨_, rfl⟩
 have s1 : u1.heap.size = N + 1 + 1 := by rw [← hu1, World.size_alloc, s0]
 have b1 : Below (N + 1) u0 u1 := by rw [← hu1]; exact (Below.refl _ _).alloc (by omega) _
 have h1 : Held u1 (N + 1) 66 #[.slice none 0 0, .slice none 0 0, .int .i64 0, .int .i64 0, .slice none 0 0, .bool false] := by rw [← hu1, ← s0]; exact heap_alloc_new u0 _
 have h0 := k0.below b1 (by omega)
 have hbb : Below N w u1 := b0.trans (b1.mono (by omega))
 rw [hN] at hrow hS
 have hgi : GIn (InBox S N) u1 g SA Sc es PA Pc ps RA Rc := fun W' hp => hg W' ⟨hp.os.trans hbb.os, hp.tape.trans hbb.tape, hp.output.trans hbb.output, Nat.le_trans (by omega) hp.size, fun i hi hn => (hp.block i (by omega) (fun e => by
  rcases e with (e | e) | e
  ·omega
  ·omega
  ·exact hn e)).trans (hbb.block i (by omega))⟩
 obtain ⟨-, hc1, hc2⟩ := hrow.1.len
 have HBD := hid (hbd.take (l := ls.map (·.s)) (fun s hs => by obtain ⟨x, hx, rfl⟩ := List.mem_map.1 hs; exact (hrow.2 x hx).2.2.2))
 have HROW := hid hrow
 have HN := hid hN
 have HH := hid (And.intro h0 (And.intro h1 (And.intro hgi hbb)))
 obtain ⟨n, hn⟩ : ∃ n, ls.length = n := ⟨_, rfl⟩
 rw [hn] at HROW hc1 hls ⊢
 have HLN := hid hn
 have HNM := hid (show (ls.map (·.s)).length = n by rw [List.length_map, hn])
 have hu1s : u1.heap.size = N + 1 + 1 := s1
 obtain ⟨l, hl⟩ : ∃ l, ls.map (·.s) = l := ⟨_, rfl⟩
 rw [hl] at HBD HNM ⊢
 have HL := hid hl
 clear hg hrow hbd b0 b1 k0 h0 h1 hbb hgi hn hl s1
 go_enter Tryz.func38, Tryz.ntmps38
 go_wp2_with fail
 go_loopg [5] n (fun gk iv wr => TkRel S w N n g l gk iv wr)
 case atStart => exact ⟨0, SA, Sc, es, PA, Pc, ps, RA, Rc, rfl, Nat.zero_le _, hid rfl, hid HH.out.1, hid HH.out.2.1, hid HH.out.2.2.1, hid HH.out.2.2.2⟩
 case round =>
  clear hu0 hu1
  obtain ⟨k, SA, Sc, es, PA, Pc, ps, RA, Rc, rfl, hk, HGK, HH0, HH1, HGI, HB⟩ := hrel
  by_cases hlt : k < n
  ·obtain ⟨x, hx⟩ : ∃ x, ls[k]? = some x := ⟨_, List.getElem?_eq_getElem (by rw [HLN.out]; exact hlt)⟩
   obtain ⟨gq, hgq⟩ : ∃ gq, takeL g (l.take k) = gq := ⟨_, rfl⟩
   have hbd := HBD.out k (by rw [HNM.out]; exact hk)
   have hsu : takeL g (l.take (k + 1)) = takeS gq x.s := by rw [← hgq]; exact takeL_succ (by rw [← HL.out, List.getElem?_map, hx]; rfl)
   rw [hgq] at HH0 HGI hbd
   have HSU := hid hsu
   have hxr := (HROW.out.2 x (List.mem_of_getElem? hx))
   obtain ⟨b, o, rfl, hbl, v0, v1, v2, v3, v4⟩ := (HROW.out.below HB.out).at hx
   have HXR := hid hxr
   have HV0 := hid v0
   have hz := HH1.out.lt
   obtain ⟨x0, x1, x2, x3, x4, x5⟩ := cC6 HH0.out
   simp at x0 x1 x2 x3 x4 x5
   obtain ⟨f0, f1, f2, f3, f4, f5⟩ := cF6 HH0.out
   clear hsu hgq hx hxr
   cases hf : x.s.isf with
   | false =>
    rw [hf] at v2
    have hwr : IntKind.i64.wrap (gq.sk + x.s.n) = gq.sk + x.s.n := by
     have h1 := hbd.sk
     have h2 := HXR.out.2.2.2
     exact IntWalk.i64_in _ (by omega)
    have HF := hid hf
    clear hf hbd
    go_wp2_with fail
    go_region
    all_goals (
    go_wp2_with fail
    go_roundg (n - (k + 1))
    case measure => have := HGK.out; omega
    case rel => exact TkRel.skip HH0.out HH1.out HGI.out HB.out HSU.out HF.out hlt)
   | true =>
    rw [hf] at v2
    have HF := hid hf
    have hpl := HGI.out.here.ptsp
    have hpb : ps.length ≤ 1000000000 := by
     have h1 := hbd.pts
     rw [← hpl, List.length_map] at h1
     omega
    have hal := (Below.refl wr.heap.size wr).alloc (Nat.le_refl _) (.cells #[.slice none 0 0, .slice none 0 0, .int .i64 0, .int .i64 0, .slice none 0 0, .bool false] 66)
    have hsa : (wr.alloc (.cells #[.slice none 0 0, .slice none 0 0, .int .i64 0, .int .i64 0, .slice none 0 0, .bool false] 66)).heap.size = wr.heap.size + 1 := World.size_alloc _ _
    have HG3 := hid (show GIn (InBox3 S N wr.heap.size) (wr.alloc (.cells #[.slice none 0 0, .slice none 0 0, .int .i64 0, .int .i64 0, .slice none 0 0, .bool false] 66)) gq SA Sc es PA Pc ps RA Rc from fun W' hp => HGI.out W' (gin_wide hp))
    have HFM := hid (fun (W : World) (h : Below (wr.alloc (.cells #[.slice none 0 0, .slice none 0 0, .int .i64 0, .int .i64 0, .slice none 0 0, .bool false] 66)).heap.size (wr.alloc (.cells #[.slice none 0 0, .slice none 0 0, .int .i64 0, .int .i64 0, .slice none 0 0, .bool false] 66)) W) => rgframe_any gq SA Sc es PA Pc ps RA Rc x.s.kind x.A x.c x.s.pay W (InBox3 S N wr.heap.size) (HG3.out.next (PartN.of_below h)) (fun j hj e => by
     have := h.size
     rw [World.size_alloc] at this
     rcases e with ((e | e) | e) | e
     ·omega
     ·omega
     ·exact hS j (by omega) e
     ·omega) ((HXR.out.1.below ((HB.out.trans (hal.mono (by omega))).trans (h.mono (by omega)))).more (by have := h.size; omega)) HXR.out.2.1 HXR.out.2.2.1 hpb)
    have HFM0 := hid (fun (W : World) (h : Below wr.heap.size wr W) => rgframe_any gq SA Sc es PA Pc ps RA Rc x.s.kind x.A x.c x.s.pay W (InBox S N) (HGI.out.next (PartN.of_below h)) (fun j hj e => by
     have := h.size
     rcases e with (e | e) | e
     ·omega
     ·omega
     ·exact hS j (by omega) e) ((HXR.out.1.below (HB.out.trans (h.mono (by omega)))).more (by have := h.size; omega)) HXR.out.2.1 HXR.out.2.2.1 hpb)
    have HSX := hid (fun (W : World) (h : Below wr.heap.size wr W) => show W.cell? ⟨N, 0, none⟩ = some (.slice SA es.length Sc) ∧ W.cell? ⟨N, 1, none⟩ = some (.slice PA ps.length Pc) ∧ W.cell? ⟨N, 2, none⟩ = some (.int .i64 gq.sk) ∧ W.cell? ⟨N, 3, none⟩ = some (.int .i64 gq.fr) ∧ W.cell? ⟨N, 4, none⟩ = some (.slice RA gq.rej.length Rc) ∧ W.cell? ⟨N, 5, none⟩ = some (.bool gq.isg) ∧ W.cell? ⟨b, o + k * 5 + 3, none⟩ = some (.int .i64 x.s.kind) ∧ W.cell? ⟨b, o + k * 5 + 4, none⟩ = some (.slice x.A x.s.pay.length x.c) from
     ⟨(h.cell (p := ⟨N, 0, none⟩) (by show N < _; omega)).trans x0, (h.cell (p := ⟨N, 1, none⟩) (by show N < _; omega)).trans x1, (h.cell (p := ⟨N, 2, none⟩) (by show N < _; omega)).trans x2, (h.cell (p := ⟨N, 3, none⟩) (by show N < _; omega)).trans x3, (h.cell (p := ⟨N, 4, none⟩) (by show N < _; omega)).trans x4, (h.cell (p := ⟨N, 5, none⟩) (by show N < _; omega)).trans x5, (h.cell (p := ⟨b, o + k * 5 + 3, none⟩) (by show b < _; omega)).trans v3, (h.cell (p := ⟨b, o + k * 5 + 4, none⟩) (by show b < _; omega)).trans v4⟩)
    have HBD2 := hid hbd
    clear hf hbd hpl
    go_wp2_with fail
    refine wp_region_held_drew (S := (fun W => W.cell? ⟨N, 0, none⟩ = some (.slice SA es.length Sc) ∧ W.cell? ⟨N, 1, none⟩ = some (.slice PA ps.length Pc) ∧ W.cell? ⟨N, 2, none⟩ = some (.int .i64 gq.sk) ∧ W.cell? ⟨N, 3, none⟩ = some (.int .i64 gq.fr) ∧ W.cell? ⟨N, 4, none⟩ = some (.slice RA gq.rej.length Rc) ∧ W.cell? ⟨N, 5, none⟩ = some (.bool gq.isg) ∧ W.cell? ⟨b, o + k * 5 + 3, none⟩ = some (.int .i64 x.s.kind) ∧ W.cell? ⟨b, o + k * 5 + 4, none⟩ = some (.slice x.A x.s.pay.length x.c))) (by kernel_rfl) (HSX.out _ (Below.refl _ _).drew) (fun _ => ?_)
    refine wpAnyH_take (i := 0) (v := GV gq SA Sc es PA Pc ps RA Rc) rfl (by kernel_rfl) (by kernel_rfl) (by kernel_rfl) (fun _ _ _ h => h) (Or.inl ⟨by rfl, fun W hW => by obtain ⟨q0, q1, q2, q3, q4, q5, q6, q7⟩ := hW; go_simp⟩) (HSX.out _ (Below.refl _ _).drew) ?_
    try simp only [pU]
    refine wpAnyH_take (i := 1) (v := .slice (some ⟨b, o, none⟩) n Tc) rfl (by kernel_rfl) (by kernel_rfl) (by kernel_rfl) (fun _ _ _ h => h) (Or.inl ⟨by rfl, fun W hW => by obtain ⟨q0, q1, q2, q3, q4, q5, q6, q7⟩ := hW; go_simp⟩) (HSX.out _ (Below.refl _ _).drew) ?_
    try simp only [pU]
    refine wpAnyH_take (i := 2) (v := .int .i64 k) rfl (by kernel_rfl) (by kernel_rfl) (by kernel_rfl) (fun _ _ _ h => h) (Or.inl ⟨by rfl, fun W hW => by obtain ⟨q0, q1, q2, q3, q4, q5, q6, q7⟩ := hW; go_simp⟩) (HSX.out _ (Below.refl _ _).drew) ?_
    try simp only [pU]
    refine wpAnyH_take (i := 3) (v := .pointer (some ⟨b, o + k * 5, none⟩)) rfl (by kernel_rfl) (by kernel_rfl) (by kernel_rfl) (fun _ _ _ h => h) (Or.inl ⟨by rfl, fun W hW => by obtain ⟨q0, q1, q2, q3, q4, q5, q6, q7⟩ := hW; go_simp⟩) (HSX.out _ (Below.refl _ _).drew) ?_
    try simp only [pU]
    refine wpAnyH_take (i := 4) (v := .pointer (some ⟨b, o + k * 5 + 3, none⟩)) rfl (by kernel_rfl) (by kernel_rfl) (by kernel_rfl) (fun _ _ _ h => h) (Or.inl ⟨by rfl, fun W hW => by obtain ⟨q0, q1, q2, q3, q4, q5, q6, q7⟩ := hW; go_simp⟩) (HSX.out _ (Below.refl _ _).drew) ?_
    try simp only [pU]
    refine wpAnyH_take (i := 5) (v := .agg #[.int .i64 x.s.kind, .slice x.A x.s.pay.length x.c]) rfl (by kernel_rfl) (by kernel_rfl) (by kernel_rfl) (fun _ _ _ h => h) (Or.inl ⟨by rfl, fun W hW => by obtain ⟨q0, q1, q2, q3, q4, q5, q6, q7⟩ := hW; go_simp⟩) (HSX.out _ (Below.refl _ _).drew) ?_
    try simp only [pU]
    refine wpAnyH_ready (rs := [6, 10]) (by kernel_rfl) (by simp) ?_
    refine AllReadyH.cons rfl (fun K hK => ?_) (AllReadyH.cons rfl (fun K hK => ?_) AllReadyH.nil)
    focus
     go_simp
     refine (HFM0.out _ (Below.refl _ _).drew).mono ?_
     rintro e w4 ⟨SA2, Sc2, es2, PA2, Pc2, ps2, RA2, Rc2, rfl, hgi4, hb4⟩
     have b4 : Below wr.heap.size wr w4 := (Below.refl wr.heap.size wr).drew.trans hb4
     refine hK.out _ _ (HSX.out _ b4) (fun _ => ?_)
     clear hK K
     try simp only [pU]
     refine wpAnyH_take (i := 7) (v := .tuple #[GV (frameG gq x.s.kind x.s.pay).1 SA2 Sc2 es2 PA2 Pc2 ps2 RA2 Rc2, .int .i64 (frameG gq x.s.kind x.s.pay).2]) rfl (by kernel_rfl) (by kernel_rfl) (by kernel_rfl) (fun _ _ _ h => h) (Or.inl ⟨by rfl, fun W hW => by obtain ⟨q0, q1, q2, q3, q4, q5, q6, q7⟩ := hW; go_simp⟩) (HSX.out _ b4) ?_
     try simp only [pU]
     refine wpAnyH_take (i := 8) (v := GV (frameG gq x.s.kind x.s.pay).1 SA2 Sc2 es2 PA2 Pc2 ps2 RA2 Rc2) rfl (by kernel_rfl) (by kernel_rfl) (by kernel_rfl) (fun _ _ _ h => h) (Or.inl ⟨by rfl, fun W hW => by obtain ⟨q0, q1, q2, q3, q4, q5, q6, q7⟩ := hW; go_simp⟩) (HSX.out _ b4) ?_
     try simp only [pU]
     refine wpAnyH_take (i := 9) (v := .int .i64 (frameG gq x.s.kind x.s.pay).2) rfl (by kernel_rfl) (by kernel_rfl) (by kernel_rfl) (fun _ _ _ h => h) (Or.inl ⟨by rfl, fun W hW => by obtain ⟨q0, q1, q2, q3, q4, q5, q6, q7⟩ := hW; go_simp⟩) (HSX.out _ b4) ?_
     try simp only [pU]
     refine wpAnyH_ready (rs := [10]) (by kernel_rfl) (by simp) ?_
     refine AllReadyH.cons rfl (fun K hK => ?_) AllReadyH.nil
     go_simp
     refine hK.out _ _ (HSX.out _ (b4.alloc b4.size _)) (fun _ => ?_)
     clear hK K
     try simp only [pU]
     refine wpAnyH_ready (rs := [11]) (by kernel_rfl) (by simp) ?_
     refine AllReadyH.cons rfl (fun K hK => ?_) AllReadyH.nil
     have h6 : Held (w4.alloc (.cells #[.slice none 0 0, .slice none 0 0, .int .i64 0, .int .i64 0, .slice none 0 0, .bool false] 66)) w4.heap.size 66 #[.slice none 0 0, .slice none 0 0, .int .i64 0, .int .i64 0, .slice none 0 0, .bool false] := heap_alloc_new w4 _
     obtain ⟨⟨l0, l1, l2, l3, l4, l5⟩, z0, z1, z2, z3, z4, z5⟩ := cG6 h6
     simp at z0 z1 z2 z3 z4 z5
     go_simp
     have hb5 := b4.alloc b4.size (.cells #[.slice SA2 es2.length Sc2, .slice PA2 ps2.length Pc2, .int .i64 (frameG gq x.s.kind x.s.pay).1.sk, .int .i64 (frameG gq x.s.kind x.s.pay).1.fr, .slice RA2 (frameG gq x.s.kind x.s.pay).1.rej.length Rc2, .bool (frameG gq x.s.kind x.s.pay).1.isg] 66)
     refine hK.out _ _ (HSX.out _ hb5) (fun _ => ?_)
     clear hK K
     try simp only [pU]
     refine wpAnyH_take (i := 12) (v := .int .i64 (frameG gq x.s.kind x.s.pay).2) rfl (by kernel_rfl) (by kernel_rfl) (by kernel_rfl) (fun _ _ _ h => h) (Or.inl ⟨by rfl, fun W hW => by obtain ⟨q0, q1, q2, q3, q4, q5, q6, q7⟩ := hW; go_simp⟩) (HSX.out _ hb5) ?_
     try simp only [pU]
     refine wpAnyH_done (by kernel_rfl) ?_ _
     clear z0 z1 z2 z3 z4 z5 l0 l1 l2 l3 l4 l5 h6 hb5
     have HW5 := hid (show Held (w4.alloc (.cells #[.slice SA2 es2.length Sc2, .slice PA2 ps2.length Pc2, .int .i64 (frameG gq x.s.kind x.s.pay).1.sk, .int .i64 (frameG gq x.s.kind x.s.pay).1.fr, .slice RA2 (frameG gq x.s.kind x.s.pay).1.rej.length Rc2, .bool (frameG gq x.s.kind x.s.pay).1.isg] 66)) N 66 #[.slice SA es.length Sc, .slice PA ps.length Pc, .int .i64 gq.sk, .int .i64 gq.fr, .slice RA gq.rej.length Rc, .bool gq.isg] ∧ Held (w4.alloc (.cells #[.slice SA2 es2.length Sc2, .slice PA2 ps2.length Pc2, .int .i64 (frameG gq x.s.kind x.s.pay).1.sk, .int .i64 (frameG gq x.s.kind x.s.pay).1.fr, .slice RA2 (frameG gq x.s.kind x.s.pay).1.rej.length Rc2, .bool (frameG gq x.s.kind x.s.pay).1.isg] 66)) (N + 1) 66 #[.slice none 0 0, .slice none 0 0, .int .i64 0, .int .i64 0, .slice none 0 0, .bool false] ∧ Held (w4.alloc (.cells #[.slice SA2 es2.length Sc2, .slice PA2 ps2.length Pc2, .int .i64 (frameG gq x.s.kind x.s.pay).1.sk, .int .i64 (frameG gq x.s.kind x.s.pay).1.fr, .slice RA2 (frameG gq x.s.kind x.s.pay).1.rej.length Rc2, .bool (frameG gq x.s.kind x.s.pay).1.isg] 66)) w4.heap.size 66 #[.slice SA2 es2.length Sc2, .slice PA2 ps2.length Pc2, .int .i64 (frameG gq x.s.kind x.s.pay).1.sk, .int .i64 (frameG gq x.s.kind x.s.pay).1.fr, .slice RA2 (frameG gq x.s.kind x.s.pay).1.rej.length Rc2, .bool (frameG gq x.s.kind x.s.pay).1.isg] ∧ GIn (InBox S N) (w4.alloc (.cells #[.slice SA2 es2.length Sc2, .slice PA2 ps2.length Pc2, .int .i64 (frameG gq x.s.kind x.s.pay).1.sk, .int .i64 (frameG gq x.s.kind x.s.pay).1.fr, .slice RA2 (frameG gq x.s.kind x.s.pay).1.rej.length Rc2, .bool (frameG gq x.s.kind x.s.pay).1.isg] 66)) (frameG gq x.s.kind x.s.pay).1 SA2 Sc2 es2 PA2 Pc2 ps2 RA2 Rc2 ∧ Below N w (w4.alloc (.cells #[.slice SA2 es2.length Sc2, .slice PA2 ps2.length Pc2, .int .i64 (frameG gq x.s.kind x.s.pay).1.sk, .int .i64 (frameG gq x.s.kind x.s.pay).1.fr, .slice RA2 (frameG gq x.s.kind x.s.pay).1.rej.length Rc2, .bool (frameG gq x.s.kind x.s.pay).1.isg] 66)) ∧ w4.heap.size < (w4.alloc (.cells #[.slice SA2 es2.length Sc2, .slice PA2 ps2.length Pc2, .int .i64 (frameG gq x.s.kind x.s.pay).1.sk, .int .i64 (frameG gq x.s.kind x.s.pay).1.fr, .slice RA2 (frameG gq x.s.kind x.s.pay).1.rej.length Rc2, .bool (frameG gq x.s.kind x.s.pay).1.isg] 66)).heap.size ∧ N + 1 < w4.heap.size from by
      have ba := (Below.refl w4.heap.size w4).alloc (Nat.le_refl _) (.cells #[.slice SA2 es2.length Sc2, .slice PA2 ps2.length Pc2, .int .i64 (frameG gq x.s.kind x.s.pay).1.sk, .int .i64 (frameG gq x.s.kind x.s.pay).1.fr, .slice RA2 (frameG gq x.s.kind x.s.pay).1.rej.length Rc2, .bool (frameG gq x.s.kind x.s.pay).1.isg] 66)
      have z4 := b4.size
      exact ⟨(HH0.out.below b4 HH0.out.lt).below ba (by have := HH0.out.lt; omega), (HH1.out.below b4 HH1.out.lt).below ba (by omega), heap_alloc_new w4 _, hgi4.next (PartN.of_below ba), (HB.out.trans (b4.mono (by omega))).trans (ba.mono (by omega)), by rw [World.size_alloc]; omega, by omega⟩)
     have HFC := hid (frameG_counts gq x.s.kind x.s.pay)
     obtain ⟨g2, hg2⟩ : ∃ g2, (frameG gq x.s.kind x.s.pay).1 = g2 := ⟨_, rfl⟩
     obtain ⟨e2, he2⟩ : ∃ e2, (frameG gq x.s.kind x.s.pay).2 = e2 := ⟨_, rfl⟩
     rw [hg2] at HW5 HFC
     rw [hg2, he2]
     have HGE := hid (show frameG gq x.s.kind x.s.pay = (g2, e2) from by rw [← hg2, ← he2])
     obtain ⟨w5, hw5⟩ : ∃ w5, w4.alloc (.cells #[.slice SA2 es2.length Sc2, .slice PA2 ps2.length Pc2, .int .i64 g2.sk, .int .i64 g2.fr, .slice RA2 g2.rej.length Rc2, .bool g2.isg] 66) = w5 := ⟨_, rfl⟩
     obtain ⟨B6, hB6⟩ : ∃ B6, w4.heap.size = B6 := ⟨_, rfl⟩
     rw [hw5, hB6] at HW5 ⊢
     clear hg2 he2 hw5 hB6 b4 hb4 hgi4
    rotate_left
    focus
     go_simp
     refine hK.out _ _ (HSX.out _ ((Below.refl wr.heap.size wr).drew.alloc (Nat.le_refl _) _)) (fun _ => ?_)
     clear hK K
     try simp only [pU]
     refine wpAnyH_ready (rs := [6]) (by kernel_rfl) (by simp) ?_
     refine AllReadyH.cons rfl (fun K hK => ?_) AllReadyH.nil
     go_simp
     refine (HFM.out (wr.drew.alloc (.cells #[.slice none 0 0, .slice none 0 0, .int .i64 0, .int .i64 0, .slice none 0 0, .bool false] 66)) (show Below (wr.alloc (.cells #[.slice none 0 0, .slice none 0 0, .int .i64 0, .int .i64 0, .slice none 0 0, .bool false] 66)).heap.size (wr.alloc (.cells #[.slice none 0 0, .slice none 0 0, .int .i64 0, .int .i64 0, .slice none 0 0, .bool false] 66)) (wr.drew.alloc (.cells #[.slice none 0 0, .slice none 0 0, .int .i64 0, .int .i64 0, .slice none 0 0, .bool false] 66)) from (Below.refl _ (wr.alloc (.cells #[.slice none 0 0, .slice none 0 0, .int .i64 0, .int .i64 0, .slice none 0 0, .bool false] 66))).drew)).mono ?_
     rintro e w4 ⟨SA2, Sc2, es2, PA2, Pc2, ps2, RA2, Rc2, rfl, hgi4, hb4⟩
     have hzA : (wr.drew.alloc (.cells #[.slice none 0 0, .slice none 0 0, .int .i64 0, .int .i64 0, .slice none 0 0, .bool false] 66)).heap.size = wr.heap.size + 1 := World.size_alloc _ _
     have b4 : Below wr.heap.size wr w4 := ((Below.refl wr.heap.size wr).drew.alloc (Nat.le_refl _) _).trans (hb4.mono (by omega))
     have h6 : Held w4 wr.heap.size 66 #[.slice none 0 0, .slice none 0 0, .int .i64 0, .int .i64 0, .slice none 0 0, .bool false] := Held.below (show Held (wr.drew.alloc (.cells #[.slice none 0 0, .slice none 0 0, .int .i64 0, .int .i64 0, .slice none 0 0, .bool false] 66)) wr.heap.size 66 #[.slice none 0 0, .slice none 0 0, .int .i64 0, .int .i64 0, .slice none 0 0, .bool false] from heap_alloc_new wr.drew _) hb4 (by omega)
     have z44 := hb4.size
     refine hK.out _ _ (HSX.out _ b4) (fun _ => ?_)
     clear hK K
     try simp only [pU]
     refine wpAnyH_take (i := 7) (v := .tuple #[GV (frameG gq x.s.kind x.s.pay).1 SA2 Sc2 es2 PA2 Pc2 ps2 RA2 Rc2, .int .i64 (frameG gq x.s.kind x.s.pay).2]) rfl (by kernel_rfl) (by kernel_rfl) (by kernel_rfl) (fun _ _ _ h => h) (Or.inl ⟨by rfl, fun W hW => by obtain ⟨q0, q1, q2, q3, q4, q5, q6, q7⟩ := hW; go_simp⟩) (HSX.out _ b4) ?_
     try simp only [pU]
     refine wpAnyH_take (i := 8) (v := GV (frameG gq x.s.kind x.s.pay).1 SA2 Sc2 es2 PA2 Pc2 ps2 RA2 Rc2) rfl (by kernel_rfl) (by kernel_rfl) (by kernel_rfl) (fun _ _ _ h => h) (Or.inl ⟨by rfl, fun W hW => by obtain ⟨q0, q1, q2, q3, q4, q5, q6, q7⟩ := hW; go_simp⟩) (HSX.out _ b4) ?_
     try simp only [pU]
     refine wpAnyH_take (i := 9) (v := .int .i64 (frameG gq x.s.kind x.s.pay).2) rfl (by kernel_rfl) (by kernel_rfl) (by kernel_rfl) (fun _ _ _ h => h) (Or.inl ⟨by rfl, fun W hW => by obtain ⟨q0, q1, q2, q3, q4, q5, q6, q7⟩ := hW; go_simp⟩) (HSX.out _ b4) ?_
     try simp only [pU]
     refine wpAnyH_ready (rs := [11]) (by kernel_rfl) (by simp) ?_
     refine AllReadyH.cons rfl (fun K hK => ?_) AllReadyH.nil
     obtain ⟨⟨l0, l1, l2, l3, l4, l5⟩, z0, z1, z2, z3, z4, z5⟩ := cG6 h6
     simp at z0 z1 z2 z3 z4 z5
     go_simp
     have g66 := grown_put6 w4 wr.heap.size (.slice SA2 es2.length Sc2) (.slice PA2 ps2.length Pc2) (.int .i64 (frameG gq x.s.kind x.s.pay).1.sk) (.int .i64 (frameG gq x.s.kind x.s.pay).1.fr) (.slice RA2 (frameG gq x.s.kind x.s.pay).1.rej.length Rc2) (.bool (frameG gq x.s.kind x.s.pay).1.isg)
     have hb5 := b4.grown g66 b4.size (fun j e => by injection e with e; omega)
     refine hK.out _ _ (HSX.out _ hb5) (fun _ => ?_)
     clear hK K
     try simp only [pU]
     refine wpAnyH_take (i := 12) (v := .int .i64 (frameG gq x.s.kind x.s.pay).2) rfl (by kernel_rfl) (by kernel_rfl) (by kernel_rfl) (fun _ _ _ h => h) (Or.inl ⟨by rfl, fun W hW => by obtain ⟨q0, q1, q2, q3, q4, q5, q6, q7⟩ := hW; go_simp⟩) (HSX.out _ hb5) ?_
     try simp only [pU]
     refine wpAnyH_done (by kernel_rfl) ?_ _
     clear z0 z1 z2 z3 z4 z5 l0 l1 l2 l3 l4 l5
     have HW5 := hid (show Held ((((((w4.setCell ⟨wr.heap.size, 0, none⟩ (.slice SA2 es2.length Sc2)).setCell ⟨wr.heap.size, 1, none⟩ (.slice PA2 ps2.length Pc2)).setCell ⟨wr.heap.size, 2, none⟩ (.int .i64 (frameG gq x.s.kind x.s.pay).1.sk)).setCell ⟨wr.heap.size, 3, none⟩ (.int .i64 (frameG gq x.s.kind x.s.pay).1.fr)).setCell ⟨wr.heap.size, 4, none⟩ (.slice RA2 (frameG gq x.s.kind x.s.pay).1.rej.length Rc2)).setCell ⟨wr.heap.size, 5, none⟩ (.bool (frameG gq x.s.kind x.s.pay).1.isg)) N 66 #[.slice SA es.length Sc, .slice PA ps.length Pc, .int .i64 gq.sk, .int .i64 gq.fr, .slice RA gq.rej.length Rc, .bool gq.isg] ∧ Held ((((((w4.setCell ⟨wr.heap.size, 0, none⟩ (.slice SA2 es2.length Sc2)).setCell ⟨wr.heap.size, 1, none⟩ (.slice PA2 ps2.length Pc2)).setCell ⟨wr.heap.size, 2, none⟩ (.int .i64 (frameG gq x.s.kind x.s.pay).1.sk)).setCell ⟨wr.heap.size, 3, none⟩ (.int .i64 (frameG gq x.s.kind x.s.pay).1.fr)).setCell ⟨wr.heap.size, 4, none⟩ (.slice RA2 (frameG gq x.s.kind x.s.pay).1.rej.length Rc2)).setCell ⟨wr.heap.size, 5, none⟩ (.bool (frameG gq x.s.kind x.s.pay).1.isg)) (N + 1) 66 #[.slice none 0 0, .slice none 0 0, .int .i64 0, .int .i64 0, .slice none 0 0, .bool false] ∧ Held ((((((w4.setCell ⟨wr.heap.size, 0, none⟩ (.slice SA2 es2.length Sc2)).setCell ⟨wr.heap.size, 1, none⟩ (.slice PA2 ps2.length Pc2)).setCell ⟨wr.heap.size, 2, none⟩ (.int .i64 (frameG gq x.s.kind x.s.pay).1.sk)).setCell ⟨wr.heap.size, 3, none⟩ (.int .i64 (frameG gq x.s.kind x.s.pay).1.fr)).setCell ⟨wr.heap.size, 4, none⟩ (.slice RA2 (frameG gq x.s.kind x.s.pay).1.rej.length Rc2)).setCell ⟨wr.heap.size, 5, none⟩ (.bool (frameG gq x.s.kind x.s.pay).1.isg)) wr.heap.size 66 #[.slice SA2 es2.length Sc2, .slice PA2 ps2.length Pc2, .int .i64 (frameG gq x.s.kind x.s.pay).1.sk, .int .i64 (frameG gq x.s.kind x.s.pay).1.fr, .slice RA2 (frameG gq x.s.kind x.s.pay).1.rej.length Rc2, .bool (frameG gq x.s.kind x.s.pay).1.isg] ∧ GIn (InBox S N) ((((((w4.setCell ⟨wr.heap.size, 0, none⟩ (.slice SA2 es2.length Sc2)).setCell ⟨wr.heap.size, 1, none⟩ (.slice PA2 ps2.length Pc2)).setCell ⟨wr.heap.size, 2, none⟩ (.int .i64 (frameG gq x.s.kind x.s.pay).1.sk)).setCell ⟨wr.heap.size, 3, none⟩ (.int .i64 (frameG gq x.s.kind x.s.pay).1.fr)).setCell ⟨wr.heap.size, 4, none⟩ (.slice RA2 (frameG gq x.s.kind x.s.pay).1.rej.length Rc2)).setCell ⟨wr.heap.size, 5, none⟩ (.bool (frameG gq x.s.kind x.s.pay).1.isg)) (frameG gq x.s.kind x.s.pay).1 SA2 Sc2 es2 PA2 Pc2 ps2 RA2 Rc2 ∧ Below N w ((((((w4.setCell ⟨wr.heap.size, 0, none⟩ (.slice SA2 es2.length Sc2)).setCell ⟨wr.heap.size, 1, none⟩ (.slice PA2 ps2.length Pc2)).setCell ⟨wr.heap.size, 2, none⟩ (.int .i64 (frameG gq x.s.kind x.s.pay).1.sk)).setCell ⟨wr.heap.size, 3, none⟩ (.int .i64 (frameG gq x.s.kind x.s.pay).1.fr)).setCell ⟨wr.heap.size, 4, none⟩ (.slice RA2 (frameG gq x.s.kind x.s.pay).1.rej.length Rc2)).setCell ⟨wr.heap.size, 5, none⟩ (.bool (frameG gq x.s.kind x.s.pay).1.isg)) ∧ wr.heap.size < ((((((w4.setCell ⟨wr.heap.size, 0, none⟩ (.slice SA2 es2.length Sc2)).setCell ⟨wr.heap.size, 1, none⟩ (.slice PA2 ps2.length Pc2)).setCell ⟨wr.heap.size, 2, none⟩ (.int .i64 (frameG gq x.s.kind x.s.pay).1.sk)).setCell ⟨wr.heap.size, 3, none⟩ (.int .i64 (frameG gq x.s.kind x.s.pay).1.fr)).setCell ⟨wr.heap.size, 4, none⟩ (.slice RA2 (frameG gq x.s.kind x.s.pay).1.rej.length Rc2)).setCell ⟨wr.heap.size, 5, none⟩ (.bool (frameG gq x.s.kind x.s.pay).1.isg)).heap.size ∧ N + 1 < wr.heap.size from by
      have hh := held_put6 h6 (.slice SA2 es2.length Sc2) (.slice PA2 ps2.length Pc2) (.int .i64 (frameG gq x.s.kind x.s.pay).1.sk) (.int .i64 (frameG gq x.s.kind x.s.pay).1.fr) (.slice RA2 (frameG gq x.s.kind x.s.pay).1.rej.length Rc2) (.bool (frameG gq x.s.kind x.s.pay).1.isg)
      exact ⟨(HH0.out.below b4 HH0.out.lt).grown g66 (fun e => by injection e with e; omega), (HH1.out.below b4 HH1.out.lt).grown g66 (fun e => by injection e with e; omega), hh, fun W' hp => hgi4 W' ((part_put6 w4 wr.heap.size (Or.inr rfl) (.slice SA2 es2.length Sc2) (.slice PA2 ps2.length Pc2) (.int .i64 (frameG gq x.s.kind x.s.pay).1.sk) (.int .i64 (frameG gq x.s.kind x.s.pay).1.fr) (.slice RA2 (frameG gq x.s.kind x.s.pay).1.rej.length Rc2) (.bool (frameG gq x.s.kind x.s.pay).1.isg)).trans (hp.mono (fun i h => Or.inl h))), HB.out.trans (hb5.mono (by omega)), hh.lt, hz⟩)
     have HFC := hid (frameG_counts gq x.s.kind x.s.pay)
     obtain ⟨g2, hg2⟩ : ∃ g2, (frameG gq x.s.kind x.s.pay).1 = g2 := ⟨_, rfl⟩
     obtain ⟨e2, he2⟩ : ∃ e2, (frameG gq x.s.kind x.s.pay).2 = e2 := ⟨_, rfl⟩
     clear hb5 g66
     rw [hg2] at HW5 HFC
     rw [hg2, he2]
     have HGE := hid (show frameG gq x.s.kind x.s.pay = (g2, e2) from by rw [← hg2, ← he2])
     obtain ⟨w5, hw5⟩ : ∃ w5, ((((((w4.setCell ⟨wr.heap.size, 0, none⟩ (.slice SA2 es2.length Sc2)).setCell ⟨wr.heap.size, 1, none⟩ (.slice PA2 ps2.length Pc2)).setCell ⟨wr.heap.size, 2, none⟩ (.int .i64 g2.sk)).setCell ⟨wr.heap.size, 3, none⟩ (.int .i64 g2.fr)).setCell ⟨wr.heap.size, 4, none⟩ (.slice RA2 g2.rej.length Rc2)).setCell ⟨wr.heap.size, 5, none⟩ (.bool g2.isg)) = w5 := ⟨_, rfl⟩
     rw [hw5] at HW5 ⊢
     obtain ⟨B6, hB6⟩ : ∃ B6, wr.heap.size = B6 := ⟨_, rfl⟩
     rw [hB6] at HW5 ⊢
     clear hg2 he2 hw5 hB6 b4 hb4 hgi4 h6 hzA z44
    all_goals (
    obtain ⟨h50, h51, h56, hgi5, hb5, hz5, hB6⟩ := HW5.out
    clear x0 x1 x2 x3 x4 x5 f0 f1 f2 f3 f4 f5
    obtain ⟨⟨f0, f1, f2, f3, f4, f5⟩, x0, x1, x2, x3, x4, x5⟩ := cG6 h50
    obtain ⟨y0, y1, y2, y3, y4, y5⟩ := cC6 h56
    have h60 := held_put6 h50 (.slice SA2 es2.length Sc2) (.slice PA2 ps2.length Pc2) (.int .i64 g2.sk) (.int .i64 g2.fr) (.slice RA2 g2.rej.length Rc2) (.bool g2.isg)
    have H60 := hid h60
    simp at x0 x1 x2 x3 x4 x5 y0 y1 y2 y3 y4 y5
    have hwr : IntKind.i64.wrap (g2.fr + 1) = g2.fr + 1 := IntWalk.i64_in _ (by have h1 := HBD2.out.fr; have h2 := HFC.out.2.1; omega)
    clear h50 h51 h56 hgi5 hb5
    by_cases he2 : e2 = 0
    ·have c3 := h60.cell 3
     have c3f := h60.frozen 3
     simp at c3
     have HE2 := hid he2
     clear he2 h60
     rw [HE2.out]
     go_wp2_with fail
     go_roundg (n - (k + 1))
     case measure => have := HGK.out; omega
     case rel => exact TkRel.took HW5.out.1 HW5.out.2.1 HW5.out.2.2.2.1 HW5.out.2.2.2.2.1 HSU.out HF.out HGE.out HE2.out HFC.out hlt
    ·have HE2 := hid he2
     have hne2 : (e2 != 0) = true := bne_iff_ne.2 he2
     clear he2 h60 hwr
     go_wp2_with fail
     obtain ⟨w6, hw6⟩ : ∃ w6, ((((((w5.setCell ⟨N, 0, none⟩ (.slice SA2 es2.length Sc2)).setCell ⟨N, 1, none⟩ (.slice PA2 ps2.length Pc2)).setCell ⟨N, 2, none⟩ (.int .i64 g2.sk)).setCell ⟨N, 3, none⟩ (.int .i64 g2.fr)).setCell ⟨N, 4, none⟩ (.slice RA2 g2.rej.length Rc2)).setCell ⟨N, 5, none⟩ (.bool g2.isg)) = w6 := ⟨_, rfl⟩
     rw [hw6]
     have g66 := grown_put6 w5 N (.slice SA2 es2.length Sc2) (.slice PA2 ps2.length Pc2) (.int .i64 g2.sk) (.int .i64 g2.fr) (.slice RA2 g2.rej.length Rc2) (.bool g2.isg)
     have p66 := part_put6 (S := InBox S N) w5 N (Or.inl (Or.inl rfl)) (.slice SA2 es2.length Sc2) (.slice PA2 ps2.length Pc2) (.int .i64 g2.sk) (.int .i64 g2.fr) (.slice RA2 g2.rej.length Rc2) (.bool g2.isg)
     rw [hw6] at H60 g66 p66
     have HW6 := hid (And.intro (HW5.out.2.1.grown g66 (by simp)) (And.intro (HW5.out.2.2.2.1.next p66) (HW5.out.2.2.2.2.1.grown g66 (by omega) (fun j e => by injection e with e; omega))))
     have HRJ := hid (HW6.out.2.1.here.rej)
     obtain ⟨-, hrj1, hrj2⟩ := HRJ.out.len
     have hrjb : g2.rej.length ≤ 100100000 := by have h1 := HBD2.out.rej; rw [HFC.out.2.2]; omega
     have hz6 := g66.size
     have HSR := hid (fun (W : World) (h : Below w6.heap.size w6 W) => (h.cell (p := ⟨b, o + k * 5, none⟩) (show b < w6.heap.size by omega)).trans ((HW6.out.2.2.cell (p := ⟨b, o + k * 5, none⟩) hbl).trans ((HB.out.cell (p := ⟨b, o + k * 5, none⟩) hbl).symm.trans HV0.out)))
     obtain ⟨iR, hiR, hr0, hr1, hr2⟩ := info_parts Tryz.infoReject
     clear hw6 g66 p66 x0 x1 x2 x3 x4 x5 f0 f1 f2 f3 f4 f5 y0 y1 y2 y3 y4 y5 v0 v1 v2 v3 v4
     refine wp_region_held_drew (S := (fun W => W.cell? ⟨b, o + k * 5, none⟩ = some (.int .i64 x.s.frm))) (by kernel_rfl) (HSR.out _ (Below.refl _ _).drew) (fun _ => ?_)
     obtain ⟨y0, hy0⟩ : ∃ y, w6.drew = y := ⟨_, rfl⟩
     rw [hy0]
     have bel0 : Below w6.heap.size w6 y0 := by rw [← hy0]; exact (Below.refl _ _).drew
     clear hy0
     refine wpAnyH_take (i := 1) (v := .pointer (some ⟨N, 0, none⟩)) rfl (by kernel_rfl) (by kernel_rfl) (by kernel_rfl) (fun _ _ _ h => h) (Or.inl ⟨by rfl, fun W hW => by go_simp⟩) (HSR.out _ bel0) ?_
     try simp only [pU]
     refine wpAnyH_take (i := 2) (v := .pointer (some ⟨N, 4, none⟩)) rfl (by kernel_rfl) (by kernel_rfl) (by kernel_rfl) (fun _ _ _ h => h) (Or.inl ⟨by rfl, fun W hW => by go_simp⟩) (HSR.out _ bel0) ?_
     try simp only [pU]
     refine wpAnyH_take (i := 5) (v := .slice (some ⟨b, o, none⟩) n Tc) rfl (by kernel_rfl) (by kernel_rfl) (by kernel_rfl) (fun _ _ _ h => h) (Or.inl ⟨by rfl, fun W hW => by go_simp⟩) (HSR.out _ bel0) ?_
     try simp only [pU]
     refine wpAnyH_take (i := 6) (v := .int .i64 k) rfl (by kernel_rfl) (by kernel_rfl) (by kernel_rfl) (fun _ _ _ h => h) (Or.inl ⟨by rfl, fun W hW => by go_simp⟩) (HSR.out _ bel0) ?_
     try simp only [pU]
     refine wpAnyH_take (i := 7) (v := .pointer (some ⟨b, o + k * 5, none⟩)) rfl (by kernel_rfl) (by kernel_rfl) (by kernel_rfl) (fun _ _ _ h => h) (Or.inl ⟨by rfl, fun W hW => by go_simp⟩) (HSR.out _ bel0) ?_
     try simp only [pU]
     refine wpAnyH_take (i := 8) (v := .pointer (some ⟨b, o + k * 5, none⟩)) rfl (by kernel_rfl) (by kernel_rfl) (by kernel_rfl) (fun _ _ _ h => h) (Or.inl ⟨by rfl, fun W hW => by go_simp⟩) (HSR.out _ bel0) ?_
     try simp only [pU]
     refine wpAnyH_take (i := 9) (v := .int .i64 x.s.frm) rfl (by kernel_rfl) (by kernel_rfl) (by kernel_rfl) (fun _ _ _ h => h) (Or.inl ⟨by rfl, fun W hW => by have hq := hW; go_simp⟩) (HSR.out _ bel0) ?_
     try simp only [pU]
     refine wpAnyH_take (i := 10) (v := .int .i64 e2) rfl (by kernel_rfl) (by kernel_rfl) (by kernel_rfl) (fun _ _ _ h => h) (Or.inl ⟨by rfl, fun W hW => by go_simp⟩) (HSR.out _ bel0) ?_
     try simp only [pU]
     refine wpAnyH_take (i := 11) (v := .agg #[.int .i64 x.s.frm, .int .i64 e2]) rfl (by kernel_rfl) (by kernel_rfl) (by kernel_rfl) (fun _ _ _ h => h) (Or.inl ⟨by rfl, fun W hW => by go_simp⟩) (HSR.out _ bel0) ?_
     try simp only [pU]
     refine wpAnyH_ready (rs := [0, 3, 12]) (by kernel_rfl) (by simp) ?_
     refine AllReadyH.cons rfl (fun K hK => ?_) (AllReadyH.cons rfl (fun K hK => ?_) (AllReadyH.cons rfl (fun K hK => ?_) (AllReadyH.nil)))
     focus
      go_simp
      obtain ⟨y1, hy1⟩ : ∃ y, y0.alloc (.cells #[] 73) = y := ⟨_, rfl⟩
      rw [hy1]
      have al1 : Below y0.heap.size y0 y1 := by rw [← hy1]; exact (Below.refl _ _).alloc (Nat.le_refl _) _
      have HSZ1 := hid (show y1.heap.size = y0.heap.size + 1 by rw [← hy1, World.size_alloc])
      have bel1 := bel0.trans (al1.mono bel0.size)
      have O44_1 : y1.ownsRow w6.heap.size 73 2 (.slice (some ⟨y0.heap.size, 0, none⟩) 0 0) 0 [] := by rw [← hy1]; exact own_none bel0.size
      refine hK.out _ _ (HSR.out _ bel1) (fun _ => ?_)
      clear hK K hy1
      try simp only [pU]
      refine wpAnyH_ready (rs := [3, 12]) (by kernel_rfl) (by simp) ?_
      refine AllReadyH.cons rfl (fun K hK => ?_) (AllReadyH.cons rfl (fun K hK => ?_) (AllReadyH.nil))
      focus
       have xq := (H60.out.below bel1 H60.out.lt).cell 4
       simp at xq
       go_simp
       clear xq
       refine hK.out _ _ (HSR.out _ bel1) (fun _ => ?_)
       clear hK K
       try simp only [pU]
       refine wpAnyH_ready (rs := [4, 12]) (by kernel_rfl) (by simp) ?_
       refine AllReadyH.cons rfl (fun K hK => ?_) (AllReadyH.cons rfl (fun K hK => ?_) (AllReadyH.nil))
       focus
        refine step_append_erow (by rfl) (.tmp 44) (.tmp 47) 62 73 (by rfl) w6.heap.size iR _ 2 16 Tryz.underlying62 hiR hr0 hr1 hr2 rfl (by omega) (.slice (some ⟨y0.heap.size, 0, none⟩) 0 0) 0 [] (by rfl) O44_1 w6.heap.size (.slice RA2 g2.rej.length Rc2) g2.rej.length (flatJ g2.rej) (by rfl) (HRJ.out.below bel1) (flatJ_length _) (oneJ _) (by unfold maxLen; omega) (by omega) bel1.size g2.rej.length (Nat.zero_add _) (flatJ g2.rej) rfl ?_
        intro A7 c7 y2 O48_2 hg2
        have bel2 := bel1.grown hg2 bel1.size (fun j h => (World.ownsRow.lt O44_1 j h).1)
        refine hK.out _ _ (HSR.out _ bel2) (fun _ => ?_)
        clear hK K hg2
        try simp only [pU]
        refine wpAnyH_ready (rs := [12]) (by kernel_rfl) (by simp) ?_
        refine AllReadyH.cons rfl (fun K hK => ?_) (AllReadyH.nil)
        go_simp
        obtain ⟨y3, hy3⟩ : ∃ y, y2.alloc (.cells #[.int .i64 x.s.frm, .int .i64 e2] 73) = y := ⟨_, rfl⟩
        rw [hy3]
        have al3 : Below y2.heap.size y2 y3 := by rw [← hy3]; exact (Below.refl _ _).alloc (Nat.le_refl _) _
        have HSZ3 := hid (show y3.heap.size = y2.heap.size + 1 by rw [← hy3, World.size_alloc])
        have bel3 := bel2.trans (al3.mono bel2.size)
        have O48_3 := own_below O48_2 al3
        have H56_3 : Held y3 y2.heap.size 73 #[.int .i64 x.s.frm, .int .i64 e2] := by rw [← hy3]; exact heap_alloc_new y2 _
        refine hK.out _ _ (HSR.out _ bel3) (fun _ => ?_)
        clear hK K hy3
        try simp only [pU]
        have belF := bel3
        have O48F := O48_3
        have H56F := H56_3
       rotate_left 1
       focus
        go_simp
        obtain ⟨y2, hy2⟩ : ∃ y, y1.alloc (.cells #[.int .i64 x.s.frm, .int .i64 e2] 73) = y := ⟨_, rfl⟩
        rw [hy2]
        have al2 : Below y1.heap.size y1 y2 := by rw [← hy2]; exact (Below.refl _ _).alloc (Nat.le_refl _) _
        have HSZ2 := hid (show y2.heap.size = y1.heap.size + 1 by rw [← hy2, World.size_alloc])
        have bel2 := bel1.trans (al2.mono bel1.size)
        have O44_2 := own_below O44_1 al2
        have H56_2 : Held y2 y1.heap.size 73 #[.int .i64 x.s.frm, .int .i64 e2] := by rw [← hy2]; exact heap_alloc_new y1 _
        refine hK.out _ _ (HSR.out _ bel2) (fun _ => ?_)
        clear hK K hy2
        try simp only [pU]
        refine wpAnyH_ready (rs := [4]) (by kernel_rfl) (by simp) ?_
        refine AllReadyH.cons rfl (fun K hK => ?_) (AllReadyH.nil)
        refine step_append_erow (by rfl) (.tmp 44) (.tmp 47) 62 73 (by rfl) w6.heap.size iR _ 2 16 Tryz.underlying62 hiR hr0 hr1 hr2 rfl (by omega) (.slice (some ⟨y0.heap.size, 0, none⟩) 0 0) 0 [] (by rfl) O44_2 w6.heap.size (.slice RA2 g2.rej.length Rc2) g2.rej.length (flatJ g2.rej) (by rfl) (HRJ.out.below bel2) (flatJ_length _) (oneJ _) (by unfold maxLen; omega) (by omega) bel2.size g2.rej.length (Nat.zero_add _) (flatJ g2.rej) rfl ?_
        intro A7 c7 y3 O48_3 hg3
        have bel3 := bel2.grown hg3 bel2.size (fun j h => (World.ownsRow.lt O44_2 j h).1)
        have H56_3 := H56_2.grown hg3 (fun h => by simp [Value.ownBlock] at h; have := HSZ1.out; have := HSZ2.out; omega)
        refine hK.out _ _ (HSR.out _ bel3) (fun _ => ?_)
        clear hK K hg3
        try simp only [pU]
        have belF := bel3
        have O48F := O48_3
        have H56F := H56_3
       rotate_left 1
      rotate_left 2
      focus
       go_simp
       obtain ⟨y2, hy2⟩ : ∃ y, y1.alloc (.cells #[.int .i64 x.s.frm, .int .i64 e2] 73) = y := ⟨_, rfl⟩
       rw [hy2]
       have al2 : Below y1.heap.size y1 y2 := by rw [← hy2]; exact (Below.refl _ _).alloc (Nat.le_refl _) _
       have HSZ2 := hid (show y2.heap.size = y1.heap.size + 1 by rw [← hy2, World.size_alloc])
       have bel2 := bel1.trans (al2.mono bel1.size)
       have O44_2 := own_below O44_1 al2
       have H56_2 : Held y2 y1.heap.size 73 #[.int .i64 x.s.frm, .int .i64 e2] := by rw [← hy2]; exact heap_alloc_new y1 _
       refine hK.out _ _ (HSR.out _ bel2) (fun _ => ?_)
       clear hK K hy2
       try simp only [pU]
       refine wpAnyH_ready (rs := [3]) (by kernel_rfl) (by simp) ?_
       refine AllReadyH.cons rfl (fun K hK => ?_) (AllReadyH.nil)
       have xq := (H60.out.below bel2 H60.out.lt).cell 4
       simp at xq
       go_simp
       clear xq
       refine hK.out _ _ (HSR.out _ bel2) (fun _ => ?_)
       clear hK K
       try simp only [pU]
       refine wpAnyH_ready (rs := [4]) (by kernel_rfl) (by simp) ?_
       refine AllReadyH.cons rfl (fun K hK => ?_) (AllReadyH.nil)
       refine step_append_erow (by rfl) (.tmp 44) (.tmp 47) 62 73 (by rfl) w6.heap.size iR _ 2 16 Tryz.underlying62 hiR hr0 hr1 hr2 rfl (by omega) (.slice (some ⟨y0.heap.size, 0, none⟩) 0 0) 0 [] (by rfl) O44_2 w6.heap.size (.slice RA2 g2.rej.length Rc2) g2.rej.length (flatJ g2.rej) (by rfl) (HRJ.out.below bel2) (flatJ_length _) (oneJ _) (by unfold maxLen; omega) (by omega) bel2.size g2.rej.length (Nat.zero_add _) (flatJ g2.rej) rfl ?_
       intro A7 c7 y3 O48_3 hg3
       have bel3 := bel2.grown hg3 bel2.size (fun j h => (World.ownsRow.lt O44_2 j h).1)
       have H56_3 := H56_2.grown hg3 (fun h => by simp [Value.ownBlock] at h; have := HSZ1.out; have := HSZ2.out; omega)
       refine hK.out _ _ (HSR.out _ bel3) (fun _ => ?_)
       clear hK K hg3
       try simp only [pU]
       have belF := bel3
       have O48F := O48_3
       have H56F := H56_3
      rotate_left 1
     rotate_left 3
     focus
      have xq := (H60.out.below bel0 H60.out.lt).cell 4
      simp at xq
      go_simp
      clear xq
      refine hK.out _ _ (HSR.out _ bel0) (fun _ => ?_)
      clear hK K
      try simp only [pU]
      refine wpAnyH_ready (rs := [0, 12]) (by kernel_rfl) (by simp) ?_
      refine AllReadyH.cons rfl (fun K hK => ?_) (AllReadyH.cons rfl (fun K hK => ?_) (AllReadyH.nil))
      focus
       go_simp
       obtain ⟨y1, hy1⟩ : ∃ y, y0.alloc (.cells #[] 73) = y := ⟨_, rfl⟩
       rw [hy1]
       have al1 : Below y0.heap.size y0 y1 := by rw [← hy1]; exact (Below.refl _ _).alloc (Nat.le_refl _) _
       have HSZ1 := hid (show y1.heap.size = y0.heap.size + 1 by rw [← hy1, World.size_alloc])
       have bel1 := bel0.trans (al1.mono bel0.size)
       have O44_1 : y1.ownsRow w6.heap.size 73 2 (.slice (some ⟨y0.heap.size, 0, none⟩) 0 0) 0 [] := by rw [← hy1]; exact own_none bel0.size
       refine hK.out _ _ (HSR.out _ bel1) (fun _ => ?_)
       clear hK K hy1
       try simp only [pU]
       refine wpAnyH_ready (rs := [4, 12]) (by kernel_rfl) (by simp) ?_
       refine AllReadyH.cons rfl (fun K hK => ?_) (AllReadyH.cons rfl (fun K hK => ?_) (AllReadyH.nil))
       focus
        refine step_append_erow (by rfl) (.tmp 44) (.tmp 47) 62 73 (by rfl) w6.heap.size iR _ 2 16 Tryz.underlying62 hiR hr0 hr1 hr2 rfl (by omega) (.slice (some ⟨y0.heap.size, 0, none⟩) 0 0) 0 [] (by rfl) O44_1 w6.heap.size (.slice RA2 g2.rej.length Rc2) g2.rej.length (flatJ g2.rej) (by rfl) (HRJ.out.below bel1) (flatJ_length _) (oneJ _) (by unfold maxLen; omega) (by omega) bel1.size g2.rej.length (Nat.zero_add _) (flatJ g2.rej) rfl ?_
        intro A7 c7 y2 O48_2 hg2
        have bel2 := bel1.grown hg2 bel1.size (fun j h => (World.ownsRow.lt O44_1 j h).1)
        refine hK.out _ _ (HSR.out _ bel2) (fun _ => ?_)
        clear hK K hg2
        try simp only [pU]
        refine wpAnyH_ready (rs := [12]) (by kernel_rfl) (by simp) ?_
        refine AllReadyH.cons rfl (fun K hK => ?_) (AllReadyH.nil)
        go_simp
        obtain ⟨y3, hy3⟩ : ∃ y, y2.alloc (.cells #[.int .i64 x.s.frm, .int .i64 e2] 73) = y := ⟨_, rfl⟩
        rw [hy3]
        have al3 : Below y2.heap.size y2 y3 := by rw [← hy3]; exact (Below.refl _ _).alloc (Nat.le_refl _) _
        have HSZ3 := hid (show y3.heap.size = y2.heap.size + 1 by rw [← hy3, World.size_alloc])
        have bel3 := bel2.trans (al3.mono bel2.size)
        have O48_3 := own_below O48_2 al3
        have H56_3 : Held y3 y2.heap.size 73 #[.int .i64 x.s.frm, .int .i64 e2] := by rw [← hy3]; exact heap_alloc_new y2 _
        refine hK.out _ _ (HSR.out _ bel3) (fun _ => ?_)
        clear hK K hy3
        try simp only [pU]
        have belF := bel3
        have O48F := O48_3
        have H56F := H56_3
       rotate_left 1
       focus
        go_simp
        obtain ⟨y2, hy2⟩ : ∃ y, y1.alloc (.cells #[.int .i64 x.s.frm, .int .i64 e2] 73) = y := ⟨_, rfl⟩
        rw [hy2]
        have al2 : Below y1.heap.size y1 y2 := by rw [← hy2]; exact (Below.refl _ _).alloc (Nat.le_refl _) _
        have HSZ2 := hid (show y2.heap.size = y1.heap.size + 1 by rw [← hy2, World.size_alloc])
        have bel2 := bel1.trans (al2.mono bel1.size)
        have O44_2 := own_below O44_1 al2
        have H56_2 : Held y2 y1.heap.size 73 #[.int .i64 x.s.frm, .int .i64 e2] := by rw [← hy2]; exact heap_alloc_new y1 _
        refine hK.out _ _ (HSR.out _ bel2) (fun _ => ?_)
        clear hK K hy2
        try simp only [pU]
        refine wpAnyH_ready (rs := [4]) (by kernel_rfl) (by simp) ?_
        refine AllReadyH.cons rfl (fun K hK => ?_) (AllReadyH.nil)
        refine step_append_erow (by rfl) (.tmp 44) (.tmp 47) 62 73 (by rfl) w6.heap.size iR _ 2 16 Tryz.underlying62 hiR hr0 hr1 hr2 rfl (by omega) (.slice (some ⟨y0.heap.size, 0, none⟩) 0 0) 0 [] (by rfl) O44_2 w6.heap.size (.slice RA2 g2.rej.length Rc2) g2.rej.length (flatJ g2.rej) (by rfl) (HRJ.out.below bel2) (flatJ_length _) (oneJ _) (by unfold maxLen; omega) (by omega) bel2.size g2.rej.length (Nat.zero_add _) (flatJ g2.rej) rfl ?_
        intro A7 c7 y3 O48_3 hg3
        have bel3 := bel2.grown hg3 bel2.size (fun j h => (World.ownsRow.lt O44_2 j h).1)
        have H56_3 := H56_2.grown hg3 (fun h => by simp [Value.ownBlock] at h; have := HSZ1.out; have := HSZ2.out; omega)
        refine hK.out _ _ (HSR.out _ bel3) (fun _ => ?_)
        clear hK K hg3
        try simp only [pU]
        have belF := bel3
        have O48F := O48_3
        have H56F := H56_3
       rotate_left 1
      rotate_left 2
      focus
       go_simp
       obtain ⟨y1, hy1⟩ : ∃ y, y0.alloc (.cells #[.int .i64 x.s.frm, .int .i64 e2] 73) = y := ⟨_, rfl⟩
       rw [hy1]
       have al1 : Below y0.heap.size y0 y1 := by rw [← hy1]; exact (Below.refl _ _).alloc (Nat.le_refl _) _
       have HSZ1 := hid (show y1.heap.size = y0.heap.size + 1 by rw [← hy1, World.size_alloc])
       have bel1 := bel0.trans (al1.mono bel0.size)
       have H56_1 : Held y1 y0.heap.size 73 #[.int .i64 x.s.frm, .int .i64 e2] := by rw [← hy1]; exact heap_alloc_new y0 _
       refine hK.out _ _ (HSR.out _ bel1) (fun _ => ?_)
       clear hK K hy1
       try simp only [pU]
       refine wpAnyH_ready (rs := [0]) (by kernel_rfl) (by simp) ?_
       refine AllReadyH.cons rfl (fun K hK => ?_) (AllReadyH.nil)
       go_simp
       obtain ⟨y2, hy2⟩ : ∃ y, y1.alloc (.cells #[] 73) = y := ⟨_, rfl⟩
       rw [hy2]
       have al2 : Below y1.heap.size y1 y2 := by rw [← hy2]; exact (Below.refl _ _).alloc (Nat.le_refl _) _
       have HSZ2 := hid (show y2.heap.size = y1.heap.size + 1 by rw [← hy2, World.size_alloc])
       have bel2 := bel1.trans (al2.mono bel1.size)
       have H56_2 := H56_1.below al2 H56_1.lt
       have O44_2 : y2.ownsRow w6.heap.size 73 2 (.slice (some ⟨y1.heap.size, 0, none⟩) 0 0) 0 [] := by rw [← hy2]; exact own_none bel1.size
       refine hK.out _ _ (HSR.out _ bel2) (fun _ => ?_)
       clear hK K hy2
       try simp only [pU]
       refine wpAnyH_ready (rs := [4]) (by kernel_rfl) (by simp) ?_
       refine AllReadyH.cons rfl (fun K hK => ?_) (AllReadyH.nil)
       refine step_append_erow (by rfl) (.tmp 44) (.tmp 47) 62 73 (by rfl) w6.heap.size iR _ 2 16 Tryz.underlying62 hiR hr0 hr1 hr2 rfl (by omega) (.slice (some ⟨y1.heap.size, 0, none⟩) 0 0) 0 [] (by rfl) O44_2 w6.heap.size (.slice RA2 g2.rej.length Rc2) g2.rej.length (flatJ g2.rej) (by rfl) (HRJ.out.below bel2) (flatJ_length _) (oneJ _) (by unfold maxLen; omega) (by omega) bel2.size g2.rej.length (Nat.zero_add _) (flatJ g2.rej) rfl ?_
       intro A7 c7 y3 O48_3 hg3
       have bel3 := bel2.grown hg3 bel2.size (fun j h => (World.ownsRow.lt O44_2 j h).1)
       have H56_3 := H56_2.grown hg3 (fun h => by simp [Value.ownBlock] at h; have := HSZ1.out; have := HSZ2.out; omega)
       refine hK.out _ _ (HSR.out _ bel3) (fun _ => ?_)
       clear hK K hg3
       try simp only [pU]
       have belF := bel3
       have O48F := O48_3
       have H56F := H56_3
      rotate_left 1
     rotate_left 3
     focus
      go_simp
      obtain ⟨y1, hy1⟩ : ∃ y, y0.alloc (.cells #[.int .i64 x.s.frm, .int .i64 e2] 73) = y := ⟨_, rfl⟩
      rw [hy1]
      have al1 : Below y0.heap.size y0 y1 := by rw [← hy1]; exact (Below.refl _ _).alloc (Nat.le_refl _) _
      have HSZ1 := hid (show y1.heap.size = y0.heap.size + 1 by rw [← hy1, World.size_alloc])
      have bel1 := bel0.trans (al1.mono bel0.size)
      have H56_1 : Held y1 y0.heap.size 73 #[.int .i64 x.s.frm, .int .i64 e2] := by rw [← hy1]; exact heap_alloc_new y0 _
      refine hK.out _ _ (HSR.out _ bel1) (fun _ => ?_)
      clear hK K hy1
      try simp only [pU]
      refine wpAnyH_ready (rs := [0, 3]) (by kernel_rfl) (by simp) ?_
      refine AllReadyH.cons rfl (fun K hK => ?_) (AllReadyH.cons rfl (fun K hK => ?_) (AllReadyH.nil))
      focus
       go_simp
       obtain ⟨y2, hy2⟩ : ∃ y, y1.alloc (.cells #[] 73) = y := ⟨_, rfl⟩
       rw [hy2]
       have al2 : Below y1.heap.size y1 y2 := by rw [← hy2]; exact (Below.refl _ _).alloc (Nat.le_refl _) _
       have HSZ2 := hid (show y2.heap.size = y1.heap.size + 1 by rw [← hy2, World.size_alloc])
       have bel2 := bel1.trans (al2.mono bel1.size)
       have H56_2 := H56_1.below al2 H56_1.lt
       have O44_2 : y2.ownsRow w6.heap.size 73 2 (.slice (some ⟨y1.heap.size, 0, none⟩) 0 0) 0 [] := by rw [← hy2]; exact own_none bel1.size
       refine hK.out _ _ (HSR.out _ bel2) (fun _ => ?_)
       clear hK K hy2
       try simp only [pU]
       refine wpAnyH_ready (rs := [3]) (by kernel_rfl) (by simp) ?_
       refine AllReadyH.cons rfl (fun K hK => ?_) (AllReadyH.nil)
       have xq := (H60.out.below bel2 H60.out.lt).cell 4
       simp at xq
       go_simp
       clear xq
       refine hK.out _ _ (HSR.out _ bel2) (fun _ => ?_)
       clear hK K
       try simp only [pU]
       refine wpAnyH_ready (rs := [4]) (by kernel_rfl) (by simp) ?_
       refine AllReadyH.cons rfl (fun K hK => ?_) (AllReadyH.nil)
       refine step_append_erow (by rfl) (.tmp 44) (.tmp 47) 62 73 (by rfl) w6.heap.size iR _ 2 16 Tryz.underlying62 hiR hr0 hr1 hr2 rfl (by omega) (.slice (some ⟨y1.heap.size, 0, none⟩) 0 0) 0 [] (by rfl) O44_2 w6.heap.size (.slice RA2 g2.rej.length Rc2) g2.rej.length (flatJ g2.rej) (by rfl) (HRJ.out.below bel2) (flatJ_length _) (oneJ _) (by unfold maxLen; omega) (by omega) bel2.size g2.rej.length (Nat.zero_add _) (flatJ g2.rej) rfl ?_
       intro A7 c7 y3 O48_3 hg3
       have bel3 := bel2.grown hg3 bel2.size (fun j h => (World.ownsRow.lt O44_2 j h).1)
       have H56_3 := H56_2.grown hg3 (fun h => by simp [Value.ownBlock] at h; have := HSZ1.out; have := HSZ2.out; omega)
       refine hK.out _ _ (HSR.out _ bel3) (fun _ => ?_)
       clear hK K hg3
       try simp only [pU]
       have belF := bel3
       have O48F := O48_3
       have H56F := H56_3
      rotate_left 1
      focus
       have xq := (H60.out.below bel1 H60.out.lt).cell 4
       simp at xq
       go_simp
       clear xq
       refine hK.out _ _ (HSR.out _ bel1) (fun _ => ?_)
       clear hK K
       try simp only [pU]
       refine wpAnyH_ready (rs := [0]) (by kernel_rfl) (by simp) ?_
       refine AllReadyH.cons rfl (fun K hK => ?_) (AllReadyH.nil)
       go_simp
       obtain ⟨y2, hy2⟩ : ∃ y, y1.alloc (.cells #[] 73) = y := ⟨_, rfl⟩
       rw [hy2]
       have al2 : Below y1.heap.size y1 y2 := by rw [← hy2]; exact (Below.refl _ _).alloc (Nat.le_refl _) _
       have HSZ2 := hid (show y2.heap.size = y1.heap.size + 1 by rw [← hy2, World.size_alloc])
       have bel2 := bel1.trans (al2.mono bel1.size)
       have H56_2 := H56_1.below al2 H56_1.lt
       have O44_2 : y2.ownsRow w6.heap.size 73 2 (.slice (some ⟨y1.heap.size, 0, none⟩) 0 0) 0 [] := by rw [← hy2]; exact own_none bel1.size
       refine hK.out _ _ (HSR.out _ bel2) (fun _ => ?_)
       clear hK K hy2
       try simp only [pU]
       refine wpAnyH_ready (rs := [4]) (by kernel_rfl) (by simp) ?_
       refine AllReadyH.cons rfl (fun K hK => ?_) (AllReadyH.nil)
       refine step_append_erow (by rfl) (.tmp 44) (.tmp 47) 62 73 (by rfl) w6.heap.size iR _ 2 16 Tryz.underlying62 hiR hr0 hr1 hr2 rfl (by omega) (.slice (some ⟨y1.heap.size, 0, none⟩) 0 0) 0 [] (by rfl) O44_2 w6.heap.size (.slice RA2 g2.rej.length Rc2) g2.rej.length (flatJ g2.rej) (by rfl) (HRJ.out.below bel2) (flatJ_length _) (oneJ _) (by unfold maxLen; omega) (by omega) bel2.size g2.rej.length (Nat.zero_add _) (flatJ g2.rej) rfl ?_
       intro A7 c7 y3 O48_3 hg3
       have bel3 := bel2.grown hg3 bel2.size (fun j h => (World.ownsRow.lt O44_2 j h).1)
       have H56_3 := H56_2.grown hg3 (fun h => by simp [Value.ownBlock] at h; have := HSZ1.out; have := HSZ2.out; omega)
       refine hK.out _ _ (HSR.out _ bel3) (fun _ => ?_)
       clear hK K hg3
       try simp only [pU]
       have belF := bel3
       have O48F := O48_3
       have H56F := H56_3
      rotate_left 1
     rotate_left 2
     all_goals (
     refine wpAnyH_ready (rs := [13]) (by kernel_rfl) (by simp) ?_
     refine AllReadyH.cons rfl (fun K hK => ?_) AllReadyH.nil
     refine step_append_erow (by rfl) (.tmp 48) (.tmp 56) 62 73 (by rfl) w6.heap.size iR _ 2 16 Tryz.underlying62 hiR hr0 hr1 hr2 rfl (by omega) (.slice A7 g2.rej.length c7) g2.rej.length (flatJ g2.rej) (by rfl) O48F _ _ 1 (flatJ [(x.s.frm, e2)]) (by rfl) (ERow.held (us := flatJ [(x.s.frm, e2)]) H56F H56F.lt (by unfold maxLen; omega)) (flatJ_length _) (oneJ _) (by unfold maxLen; omega) (by omega) belF.size (g2.rej.length + 1) rfl (flatJ g2.rej ++ flatJ [(x.s.frm, e2)]) rfl ?_
     intro A8 c8 yT O57 hgT
     have belT := belF.grown hgT belF.size (fun j h => (World.ownsRow.lt O48F j h).1)
     refine hK.out _ _ (HSR.out _ belT) (fun _ => ?_)
     clear hK K hgT
     try simp only [pU]
     refine wpAnyH_take (i := 14) (v := .pointer (some ⟨N, 0, none⟩)) rfl (by kernel_rfl) (by kernel_rfl) (by kernel_rfl) (fun _ _ _ h => h) (Or.inl ⟨by rfl, fun W hW => by go_simp⟩) (HSR.out _ belT) ?_
     try simp only [pU]
     refine wpAnyH_take (i := 15) (v := .pointer (some ⟨N, 4, none⟩)) rfl (by kernel_rfl) (by kernel_rfl) (by kernel_rfl) (fun _ _ _ h => h) (Or.inl ⟨by rfl, fun W hW => by go_simp⟩) (HSR.out _ belT) ?_
     try simp only [pU]
     refine wpAnyH_ready (rs := [16]) (by kernel_rfl) (by simp) ?_
     refine AllReadyH.cons rfl (fun K hK => ?_) AllReadyH.nil
     have hq := H60.out.below belT H60.out.lt
     have xq := hq.cell 4
     have xf := hq.frozen 4
     simp at xq
     go_simp
     clear xq xf hq
     refine hK.out _ _ (((below_put (.slice A8 (g2.rej.length + 1) c8) (B := N) (m := N) (i := 4) (Nat.le_refl _)).cell (p := ⟨b, o + k * 5, none⟩) hbl).trans (HSR.out _ belT)) (fun _ => ?_)
     clear hK K
     try simp only [pU]
     refine wpAnyH_done (by kernel_rfl) ?_ _
     go_wp2_with fail
     go_roundg (n - (k + 1))
     case measure => have := HGK.out; omega
     case rel => exact TkRel.refused H60.out HW6.out.1 HW6.out.2.1 HW6.out.2.2 belT hS O57 HSU.out HF.out HGE.out HE2.out hlt))
  ·obtain rfl : n = k := by omega
   have hnk : takeL g (l.take n) = takeL g l := by rw [List.take_of_length_le (by rw [HNM.out]; exact Nat.le_refl _)]
   rw [hnk] at HH0 HGI
   obtain ⟨x0, x1, x2, x3, x4, x5⟩ := cC6 HH0.out
   simp at x0 x1 x2 x3 x4 x5
   obtain ⟨⟨f0, f1, f2, f3, f4, f5⟩, z0, z1, z2, z3, z4, z5⟩ := cG6 HH1.out
   simp at z0 z1 z2 z3 z4 z5
   have hz := HH1.out.lt
   go_wp2_with fail
   refine bodyPost_ret (v := GV (takeL g l) SA Sc es PA Pc ps RA Rc) ?_ rfl ?_
   ·exact res_take (R := N + 1) (by simp only [pV]) (held_put6 HH1.out _ _ _ _ _ _)
   ·exact ⟨SA, Sc, es, PA, Pc, ps, RA, Rc, rfl, (fun W' hp => HGI.out W' ((part_put6 wr (N + 1) (Or.inl (Or.inr rfl)) _ _ _ _ _ _).trans (hp.mono (fun i h => Or.inr h)))), by rw [HN.out]; exact HB.out.grown (grown_put6 wr (N + 1) _ _ _ _ _ _) (by omega) (fun j e => by injection e with e; omega)⟩
end
section
variable {w w' w1 : World} {r : Option Nat} {n m g sz k : Nat} {u v : Value} {us : List Value} {f e : TypeId}
theorem OwnP.nott {es : List Pd} (h : OwnP w n u es) (h1 : NotT w r 3) (h2 : NotT w r 88) (hg : w.grownBy w' r) : OwnP w' n u es :=
 ⟨own_nott h.1 h2 hg, fun d hd => ⟨own_nott (h.2 d hd).1 h1 hg, (h.2 d hd).2⟩⟩
theorem Held.nott {cs : Array Value} (h : Held w g f cs) (hn : NotT w r f) (hg : w.grownBy w' r) : Held w' g f cs := h.grown hg (fun e => hn g cs (0, 0) e.symm h)
theorem PartN.then {S S2 : Nat → Prop} (h : PartN S w w1) (h2 : PartN S2 w1 w') (hs : ∀ j, S2 j → S j ∨ w.heap.size ≤ j) : PartN S w w' :=
 ⟨h2.os.trans h.os, h2.tape.trans h.tape, h2.output.trans h.output, Nat.le_trans h.size h2.size, fun i hi hn => (h2.block i (Nat.lt_of_lt_of_le hi h.size) (fun x => by
  rcases hs i x with x | x
  ·exact hn x
  ·omega)).trans (h.block i hi hn)⟩
end
def TS (t : Nat) (PA RA : Option Addr) (j : Nat) : Prop := j = t ∨ ob PA = some j ∨ ob RA = some j
structure TAt (w : World) (n t : Nat) (g : Gp) (SA : Option Addr) (Sc : Nat) (es : List Pd) (PA : Option Addr) (Pc : Nat) (ps : List Pm) (RA : Option Addr) (Rc : Nat) : Prop where
 held : Held w t 148 #[.slice SA es.length Sc, .slice PA ps.length Pc, .int .i64 g.sk, .int .i64 g.fr, .slice RA g.rej.length Rc]
 low : n ≤ t
 sig : OwnP w n (.slice SA es.length Sc) es
 sigp : es.map (·.p) = g.sig
 pts : OwnT w n (.slice PA ps.length Pc) ps
 ptsp : ps.map (·.p) = g.pts
 rej : w.ownsRow n 73 2 (.slice RA g.rej.length Rc) g.rej.length (flatJ g.rej)
section
variable {w w' w1 : World} {n t : Nat} {g : Gp} {SA : Option Addr} {Sc : Nat} {es : List Pd} {PA : Option Addr} {Pc : Nat} {ps : List Pm} {RA : Option Addr} {Rc : Nat}
theorem TAt.below (h : TAt w n t g SA Sc es PA Pc ps RA Rc) (hb : Below w.heap.size w w') : TAt w' n t g SA Sc es PA Pc ps RA Rc :=
 ⟨h.held.below hb h.held.lt, h.low, h.sig.below hb, h.sigp, h.pts.below hb, h.ptsp, own_below h.rej hb⟩
theorem TAt.cells (h : TAt w n t g SA Sc es PA Pc ps RA Rc) : w.cell? ⟨t, 0, none⟩ = some (.slice SA es.length Sc) ∧ w.cell? ⟨t, 1, none⟩ = some (.slice PA ps.length Pc) ∧ w.cell? ⟨t, 2, none⟩ = some (.int .i64 g.sk) ∧ w.cell? ⟨t, 3, none⟩ = some (.int .i64 g.fr) ∧ w.cell? ⟨t, 4, none⟩ = some (.slice RA g.rej.length Rc) :=
 ⟨h.held.cell 0, h.held.cell 1, h.held.cell 2, h.held.cell 3, h.held.cell 4⟩
theorem TAt.lt (h : TAt w n t g SA Sc es PA Pc ps RA Rc) {j : Nat} (hj : TS t PA RA j) : n ≤ j ∧ j < w.heap.size := by
 rcases hj with rfl | hj | hj
 ·exact ⟨h.low, h.held.lt⟩
 ·exact World.ownsRow.lt h.pts.1 j (by rw [ob_own]; exact hj)
 ·exact World.ownsRow.lt h.rej j (by rw [ob_own]; exact hj)
theorem TAt.size (h : TAt w n t g SA Sc es PA Pc ps RA Rc) : n ≤ w.heap.size := by have := h.low; have := h.held.lt; omega
theorem TAt.n1 (h : TAt w n t g SA Sc es PA Pc ps RA Rc) (e : TypeId) (he : 148 ≠ e) : NotT w (some t) e := NotT.of_held h.held he
theorem TAt.n2 (h : TAt w n t g SA Sc es PA Pc ps RA Rc) (e : TypeId) (he : 51 ≠ e) : NotT w (Value.slice PA ps.length Pc).ownBlock e := NotT.of_own h.pts.1 he
theorem TAt.n3 (h : TAt w n t g SA Sc es PA Pc ps RA Rc) (e : TypeId) (he : 73 ≠ e) : NotT w (Value.slice RA g.rej.length Rc).ownBlock e := NotT.of_own h.rej he
theorem TAt.putSig {A2 : Option Addr} {c2 m : Nat} {es2 : List Pd} {L : List Pr} {b : Bool} (h : TAt w n t g SA Sc es PA Pc ps RA Rc) (q : OwnP w m (.slice A2 es2.length c2) es2) (hm : n ≤ m) (hL : es2.map (·.p) = L) :
  TAt (w.setCell ⟨t, 0, none⟩ (.slice A2 es2.length c2)) n t ⟨L, b, g.pts, g.sk, g.fr, g.rej⟩ A2 c2 es2 PA Pc ps RA Rc := by
 have gr := grown_put w t 0 (.slice A2 es2.length c2)
 exact ⟨h.held.put 0 _, h.low, (q.base hm).nott (h.n1 _ (by decide)) (h.n1 _ (by decide)) gr, hL, h.pts.nott (h.n1 _ (by decide)) (h.n1 _ (by decide)) ((h.n1 _ (by decide)).ne h.pts.1) gr, h.ptsp, own_nott h.rej (h.n1 _ (by decide)) gr⟩
theorem TAt.putSk (h : TAt w n t g SA Sc es PA Pc ps RA Rc) (k : Int) : TAt (w.setCell ⟨t, 2, none⟩ (.int .i64 k)) n t ⟨g.sig, g.isg, g.pts, k, g.fr, g.rej⟩ SA Sc es PA Pc ps RA Rc := by
 have gr := grown_put w t 2 (.int .i64 k)
 exact ⟨h.held.put 2 _, h.low, h.sig.nott (h.n1 _ (by decide)) (h.n1 _ (by decide)) gr, h.sigp, h.pts.nott (h.n1 _ (by decide)) (h.n1 _ (by decide)) ((h.n1 _ (by decide)).ne h.pts.1) gr, h.ptsp, own_nott h.rej (h.n1 _ (by decide)) gr⟩
theorem TAt.putFr (h : TAt w n t g SA Sc es PA Pc ps RA Rc) (k : Int) : TAt (w.setCell ⟨t, 3, none⟩ (.int .i64 k)) n t ⟨g.sig, g.isg, g.pts, g.sk, k, g.rej⟩ SA Sc es PA Pc ps RA Rc := by
 have gr := grown_put w t 3 (.int .i64 k)
 exact ⟨h.held.put 3 _, h.low, h.sig.nott (h.n1 _ (by decide)) (h.n1 _ (by decide)) gr, h.sigp, h.pts.nott (h.n1 _ (by decide)) (h.n1 _ (by decide)) ((h.n1 _ (by decide)).ne h.pts.1) gr, h.ptsp, own_nott h.rej (h.n1 _ (by decide)) gr⟩
theorem TAt.putPts {A7 : Option Addr} {c7 N : Nat} {A2 : Option Addr} {c2 m : Nat} {qs : List Pm} {L : List Pn} (h : TAt w n t g SA Sc es PA Pc ps RA Rc) (q : OwnT w m (.slice A2 qs.length c2) qs) (hm : n ≤ m) (hL : qs.map (·.p) = L) (hN : ps.length + qs.length = N)
  (ho : w1.ownsRow n 51 2 (.slice A7 N c7) N (flatN (ps ++ qs))) (hg : w.grownBy w1 (Value.slice PA ps.length Pc).ownBlock) (ha : (Value.slice A7 N c7).ownBlock = (Value.slice PA ps.length Pc).ownBlock ∨ (Value.slice A7 N c7).ownBlock = some w.heap.size) :
  Held w1 t 148 #[.slice SA es.length Sc, .slice PA ps.length Pc, .int .i64 g.sk, .int .i64 g.fr, .slice RA g.rej.length Rc] ∧
  Hid (TAt (w1.setCell ⟨t, 1, none⟩ (.slice A7 N c7)) n t ⟨g.sig, g.isg, g.pts ++ L, g.sk, g.fr, g.rej⟩ SA Sc es A7 c7 (ps ++ qs) RA Rc) ∧ Hid (PartN (TS t PA RA) w (w1.setCell ⟨t, 1, none⟩ (.slice A7 N c7))) ∧ Hid (∀ j, TS t A7 RA j → TS t PA RA j ∨ w.heap.size ≤ j) := by
 subst hN hL
 have hh := h.held.nott (h.n2 _ (by decide)) hg
 have gr := grown_put w1 t 1 (.slice A7 (ps.length + qs.length) c7)
 have k1 : ∀ e, 148 ≠ e → NotT w1 (some t) e := fun e he => NotT.of_held hh he
 have hj : OwnT w1 n (.slice A7 (ps.length + qs.length) c7) (ps ++ qs) := h.pts.joined q hm (by rw [List.length_append]; exact ho) hg
 have hs := (h.sig.nott (h.n2 _ (by decide)) (h.n2 _ (by decide)) hg).nott (k1 _ (by decide)) (k1 _ (by decide)) gr
 have hr := own_nott (own_nott h.rej (h.n2 _ (by decide)) hg) (k1 _ (by decide)) gr
 refine ⟨hh, hid ⟨by rw [List.length_append]; exact hh.put 1 _, h.low, hs, h.sigp, ?_, ?_, hr⟩, hid ((PartN.of_grown hg (fun j e => .inr (.inl (by rw [← ob_own PA ps.length Pc]; exact e)))).trans (PartN.put (.inl rfl) 1 _)), hid fun j hj => ?_⟩
 ·rw [List.length_append]
  exact hj.nott (k1 _ (by decide)) (k1 _ (by decide)) ((k1 _ (by decide)).ne hj.1) gr
 ·rw [List.map_append, h.ptsp]
 ·rcases hj with rfl | hj | hj
  ·exact .inl (.inl rfl)
  ·rw [← ob_own A7 (ps.length + qs.length) c7] at hj
   rcases ha with h7 | h7
   ·exact .inl (.inr (.inl (by rw [← ob_own PA ps.length Pc, ← h7]; exact hj)))
   ·rw [h7] at hj
    injection hj with hj
    exact .inr (by omega)
  ·exact .inl (.inr (.inr hj))
theorem TAt.putRej {A7 : Option Addr} {c7 N : Nat} {a e : Int} (h : TAt w n t g SA Sc es PA Pc ps RA Rc) (hN : g.rej.length + 1 = N)
  (ho : w1.ownsRow n 73 2 (.slice A7 N c7) N (flatJ (g.rej ++ [(a, e)]))) (hg : w.grownBy w1 (Value.slice RA g.rej.length Rc).ownBlock) (ha : (Value.slice A7 N c7).ownBlock = (Value.slice RA g.rej.length Rc).ownBlock ∨ (Value.slice A7 N c7).ownBlock = some w.heap.size) :
  Held w1 t 148 #[.slice SA es.length Sc, .slice PA ps.length Pc, .int .i64 g.sk, .int .i64 g.fr, .slice RA g.rej.length Rc] ∧
  Hid (TAt (w1.setCell ⟨t, 4, none⟩ (.slice A7 N c7)) n t ⟨g.sig, g.isg, g.pts, g.sk, g.fr, g.rej ++ [(a, e)]⟩ SA Sc es PA Pc ps A7 c7) ∧ Hid (PartN (TS t PA RA) w (w1.setCell ⟨t, 4, none⟩ (.slice A7 N c7))) ∧ Hid (∀ j, TS t PA A7 j → TS t PA RA j ∨ w.heap.size ≤ j) := by
 subst hN
 have hh := h.held.nott (h.n3 _ (by decide)) hg
 have gr := grown_put w1 t 4 (.slice A7 (g.rej.length + 1) c7)
 have k1 : ∀ e, 148 ≠ e → NotT w1 (some t) e := fun e he => NotT.of_held hh he
 have hs := (h.sig.nott (h.n3 _ (by decide)) (h.n3 _ (by decide)) hg).nott (k1 _ (by decide)) (k1 _ (by decide)) gr
 have hp := h.pts.nott (h.n3 _ (by decide)) (h.n3 _ (by decide)) ((h.n3 _ (by decide)).ne h.pts.1) hg
 have hl : (g.rej ++ [(a, e)]).length = g.rej.length + 1 := by simp
 refine ⟨hh, hid ⟨by rw [hl]; exact hh.put 4 _, h.low, hs, h.sigp, hp.nott (k1 _ (by decide)) (k1 _ (by decide)) ((k1 _ (by decide)).ne hp.1) gr, h.ptsp, by rw [hl]; exact own_nott ho (k1 _ (by decide)) gr⟩, hid ((PartN.of_grown hg (fun j e => .inr (.inr (by rw [← ob_own RA g.rej.length Rc]; exact e)))).trans (PartN.put (.inl rfl) 4 _)), hid fun j hj => ?_⟩
 rcases hj with rfl | hj | hj
 ·exact .inl (.inl rfl)
 ·exact .inl (.inr (.inl hj))
 ·rw [← ob_own A7 (g.rej.length + 1) c7] at hj
  rcases ha with h7 | h7
  ·exact .inl (.inr (.inr (by rw [← ob_own RA g.rej.length Rc, ← h7]; exact hj)))
  ·rw [h7] at hj
   injection hj with hj
   exact .inr (by omega)
end
def TkR (S : Nat → Prop) (w : World) (n t : Nat) (g : Gp) (w' : World) : Prop :=
 ∃ SA Sc es PA Pc ps RA Rc, TAt w' n t g SA Sc es PA Pc ps RA Rc ∧ PartN S w w' ∧ ∀ j, TS t PA RA j → S j ∨ w.heap.size ≤ j
theorem TkR.then {S S2 : Nat → Prop} {w w1 w' : World} {n t : Nat} {g : Gp} (h : PartN S w w1) (hs : ∀ j, S2 j → S j ∨ w.heap.size ≤ j) (k : TkR S2 w1 n t g w') : TkR S w n t g w' := by
 obtain ⟨SA, Sc, es, PA, Pc, ps, RA, Rc, h1, h2, h3⟩ := k
 refine ⟨SA, Sc, es, PA, Pc, ps, RA, Rc, h1, h.then h2 hs, fun j hj => ?_⟩
 rcases h3 j hj with h4 | h4
 ·exact hs j h4
 ·exact .inr (Nat.le_trans h.size h4)
theorem checkT_append {sig : List Pr} {t m : List Pn} (h : (checkT sig t).1 = 0) (h2 : (checkT sig m).1 = 0) (hl : lateG t m = false) : (checkT sig (t ++ m)).1 = 0 := by
 obtain ⟨hs, ha⟩ := checkT_zero.1 h
 obtain ⟨-, hb⟩ := checkT_zero.1 h2
 refine checkT_zero.2 ⟨hs, fun j hj => ?_⟩
 rw [List.length_append] at hj
 have e : ∀ i, i < t.length → (t ++ m).getD i default = t.getD i default := fun i hi => by simp [List.getD, List.getElem?_append_left hi]
 have e2 : ∀ i, (t ++ m).getD (t.length + i) default = m.getD i default := fun i => by
  simp only [List.getD]
  rw [List.getElem?_append_right (by omega)]
  congr 2
  omega
 by_cases hjt : j < t.length
 ·have := ha j hjt
  unfold whyT at this ⊢
  rwa [e j hjt, e (j - 1) (by omega)]
 ·obtain ⟨i, rfl⟩ : ∃ i, j = t.length + i := ⟨j - t.length, by omega⟩
  have := hb i (by omega)
  unfold whyT at this ⊢
  rcases Nat.eq_zero_or_pos i with h0 | h0
  ·subst h0
   rw [if_neg (by omega)] at this
   rw [e2, Nat.add_zero]
   have hn : ¬ (0 < t.length ∧ (m.getD 0 default).tm < ((t ++ m).getD (t.length - 1) default).tm) := by
    rintro ⟨q1, q2⟩
    rw [e _ (by omega)] at q2
    unfold lateG at hl
    rw [decide_eq_true q1, decide_eq_true q2] at hl
    cases hl
   rw [if_neg hn]
   exact this
  ·rw [e2, show t.length + i - 1 = t.length + (i - 1) by omega, e2]
   split at this
   ·cases this
   ·rename_i hn
    rw [if_neg (fun x => hn ⟨h0, x.2⟩)]
    exact this
theorem sig_args {sig : List Pr} (h : checkP sig = 0) : ∀ q ∈ sig, q.args.length ≤ 8 ∧ ∀ t ∈ q.args, -9223372036854775808 ≤ t ∧ t ≤ 9223372036854775807 := by
 intro q hq
 obtain ⟨i, hi⟩ := List.mem_iff_getElem?.1 hq
 have ho := (checkP_zero.1 h).2 i q hi
 exact ⟨ho.2.2.1, fun t ht => by have := ho.2.2.2 t ht; omega⟩
theorem getU_right {sig : List Pr} {xs : List Int} (hb : ∀ x ∈ xs, 0 ≤ x ∧ x < 256) (hs : checkP sig = 0) (h : (getU sig xs).2 = 0) : (checkT sig (getU sig xs).1).1 = 0 := by
 obtain ⟨-, h2, -, -⟩ := getU_back hb (fun q hq => (sig_args hs q hq).2) h
 have h3 := (checkB_zero (putB_ok (by rw [h2])).1).2.1
 rwa [map_bare_p] at h3
structure Ig (g : Gp) : Prop where
 isg : decide (0 < g.fr) = g.isg
 fr : 0 ≤ g.fr
 trc : (checkT g.sig g.pts).1 = 0
 nil : g.isg = false → g.sig = [] ∧ g.pts = []
theorem checkT_p {sig : List Pr} {t : List Pn} (h : (checkT sig t).1 = 0) : checkP sig = 0 := (checkT_zero.1 h).1
theorem Ig.zero : Ig noG := ⟨rfl, Int.le_refl _, by unfold noG; exact checkT_zero.2 ⟨checkP_none (Nat.zero_le _) (fun j hj => absurd hj (Nat.not_lt_zero _)), fun j hj => absurd hj (Nat.not_lt_zero _)⟩, fun _ => ⟨rfl, rfl⟩⟩
theorem Ig.frame {g : Gp} {k : Int} {p : List Int} (h : Ig g) (hb : ∀ y ∈ p, 0 ≤ y ∧ y < 256) (he : (frameG g k p).2 = 0) :
  (frameG g k p).1.isg = true ∧ (checkT (frameG g k p).1.sig (frameG g k p).1.pts).1 = 0 := by
 unfold frameG at he ⊢
 split
 ·rename_i h1
  rw [if_pos h1] at he
  split
  ·rename_i h2
   rw [if_pos h2] at he
   exact absurd he h2
  ·rename_i h2
   have hz : (getSig p).2 = 0 := by simpa using h2
   rw [if_neg h2] at he
   split
   ·rename_i h3
    rw [if_pos h3] at he
    cases he
   ·rename_i h3
    refine ⟨rfl, ?_⟩
    cases hi : g.isg with
    | true =>
     have : (getSig p).1 = g.sig := Classical.byContradiction fun e => h3 ⟨hi, e⟩
     show (checkT (getSig p).1 g.pts).1 = 0
     rw [this]
     exact h.trc
    | false =>
     show (checkT (getSig p).1 g.pts).1 = 0
     rw [(h.nil hi).2]
     exact checkT_zero.2 ⟨(getSig_back hb hz).1, fun j hj => absurd hj (Nat.not_lt_zero _)⟩
 ·rename_i h1
  rw [if_neg h1] at he
  split
  ·rename_i h2; rw [if_pos h2] at he; cases he
  ·rename_i h2
   rw [if_neg h2] at he
   split
   ·rename_i h3; rw [if_pos h3] at he; cases he
   ·rename_i h3
    rw [if_neg h3] at he
    split
    ·rename_i h4; rw [if_pos h4] at he; exact absurd he h4
    ·rename_i h4
     rw [if_neg h4] at he
     have hz : (getU g.sig p).2 = 0 := by simpa using h4
     split
     ·rename_i h5; rw [if_pos h5] at he; cases he
     ·rename_i h5
      exact ⟨by cases hi : g.isg with
       | true => rfl
       | false => exact absurd hi h3, checkT_append h.trc (getU_right hb (checkT_p h.trc) hz) (by simpa using h5)⟩
theorem Ig.step {g : Gp} {s : Sj} (h : Ig g) (hb : ∀ y ∈ s.pay, 0 ≤ y ∧ y < 256) : Ig (takeS g s) := by
 unfold takeS
 split
 ·exact ⟨h.isg, h.fr, h.trc, h.nil⟩
 ·split
  ·exact ⟨h.isg, h.fr, h.trc, h.nil⟩
  ·rename_i h2
   obtain ⟨h3, h4⟩ := h.frame hb (k := s.kind) (by simpa using h2)
   have := h.fr
   refine ⟨?_, by show 0 ≤ g.fr + 1; omega, h4, fun e => ?_⟩
   ·show decide (0 < g.fr + 1) = (frameG g s.kind s.pay).1.isg
    rw [h3, decide_eq_true (by omega)]
   ·exact absurd (h3.symm.trans e) (by decide)
theorem Ig.take {g : Gp} {l : List Sj} (h : Ig g) (hl : ∀ s ∈ l, ∀ y ∈ s.pay, 0 ≤ y ∧ y < 256) : Ig (takeL g l) := by
 induction l generalizing g with
 | nil => exact h
 | cons s l ih => exact ih (h.step (hl s (List.mem_cons_self ..))) (fun x hx => hl x (List.mem_cons_of_mem _ hx))
def lastT (l : List Pn) : Int := (l.getD (l.length - 1) default).tm
theorem late_last {l m : List Pn} (h : 0 ≤ (m.getD 0 default).tm) : lateG l m = decide ((m.getD 0 default).tm < lastT l) := by
 unfold lateG lastT
 by_cases hl : 0 < l.length
 ·rw [decide_eq_true hl, Bool.true_and]
 ·have : l = [] := List.eq_nil_of_length_eq_zero (by omega)
  subst this
  have e : ((([] : List Pn).getD (([] : List Pn).length - 1) default).tm : Int) = 0 := rfl
  rw [e, decide_eq_false (by omega : ¬ (m.getD 0 default).tm < 0)]
  rfl
open Go.RowKit
abbrev fnSig (t : Nat) : Value := .func (.func 131) #[.pointer (some ⟨t, 0, none⟩)] #[]
abbrev fnPts (t : Nat) : Value := .func (.func 132) #[.pointer (some ⟨t, 0, none⟩)] #[]
def KMap (w : World) (r t : Nat) : Prop := ∃ b0 b1 cl, w.heap[r]? = some (.map #[{ key := .int .i64 1, val := fnSig t, born := b0 }, { key := .int .i64 2, val := fnPts t, born := b1 }] cl)
theorem KMap.below {w w' : World} {r t B : Nat} (h : KMap w r t) (hb : Below B w w') (hr : r < B) : KMap w' r t := by
 obtain ⟨b0, b1, cl, h⟩ := h
 exact ⟨b0, b1, cl, (hb.block r hr).trans h⟩
theorem KMap.lt {w : World} {r t : Nat} (h : KMap w r t) : r < w.heap.size := by
 obtain ⟨_, _, _, h⟩ := h
 exact (Array.getElem?_eq_some_iff.1 h).1
theorem KMap.same {w w' : World} {r t : Nat} (h : KMap w r t) (hb : w'.heap[r]? = w.heap[r]?) : KMap w' r t := by
 obtain ⟨b0, b1, cl, h⟩ := h
 exact ⟨b0, b1, cl, hb.trans h⟩
theorem int_check (w : World) (a : Int) (b : Bool) : (Instr.checkKey b 10000 3 (.int .i64 a)).run Tryz.prog w = .ok () w := by
 rw [show (10000 : Nat) = 9999 + 1 from rfl]
 unfold Instr.checkKey
 rw [Sem.run_bind, run_underlying Tryz.underlying3]
 simp [Result.andThen]
theorem kinds_one {w : World} {r t : Nat} (h : KMap w r t) :
  (Instr.lookup 149 (.map (some r)) (.int .i64 1) true).run Tryz.prog w = .ok (.tuple #[fnSig t, .bool true]) w := by
 obtain ⟨b0, b1, cl, h⟩ := h
 have hg : (getObj r).run Tryz.prog w = .ok (.map #[{ key := .int .i64 1, val := fnSig t, born := b0 }, { key := .int .i64 2, val := fnPts t, born := b1 }] cl) w := by simp [getObj, Sem.run, h]
 unfold Instr.lookup Instr.findKey
 simp [Sem.run_bind, run_underlying Tryz.underlying149, run_underlying Tryz.underlying3, Result.andThen_ok, hg, Sem.run_pure, int_check, Instr.findNow, Instr.sameNow]
theorem kinds_two {w : World} {r t : Nat} (h : KMap w r t) :
  (Instr.lookup 149 (.map (some r)) (.int .i64 2) true).run Tryz.prog w = .ok (.tuple #[fnPts t, .bool true]) w := by
 obtain ⟨b0, b1, cl, h⟩ := h
 have hg : (getObj r).run Tryz.prog w = .ok (.map #[{ key := .int .i64 1, val := fnSig t, born := b0 }, { key := .int .i64 2, val := fnPts t, born := b1 }] cl) w := by simp [getObj, Sem.run, h]
 unfold Instr.lookup Instr.findKey
 simp [Sem.run_bind, run_underlying Tryz.underlying149, run_underlying Tryz.underlying3, Result.andThen_ok, hg, Sem.run_pure, int_check, Instr.findNow, Instr.sameNow]
theorem kinds_none {w : World} {r t : Nat} (h : KMap w r t) {k : Int} (h1 : k ≠ 1) (h2 : k ≠ 2) :
  (Instr.lookup 149 (.map (some r)) (.int .i64 k) true).run Tryz.prog w = .ok (.tuple #[.nilFunc, .bool false]) w := by
 obtain ⟨b0, b1, cl, h⟩ := h
 have hg : (getObj r).run Tryz.prog w = .ok (.map #[{ key := .int .i64 1, val := fnSig t, born := b0 }, { key := .int .i64 2, val := fnPts t, born := b1 }] cl) w := by simp [getObj, Sem.run, h]
 have e1 : (k == 1) = false := beq_eq_false_iff_ne.2 h1
 have e2 : (k == 2) = false := beq_eq_false_iff_ne.2 h2
 unfold Instr.lookup Instr.findKey
 simp [Sem.run_bind, run_underlying Tryz.underlying149, run_underlying Tryz.underlying3, Result.andThen_ok, hg, Sem.run_pure, int_check, Instr.findNow, Instr.sameNow, e1, e2]
theorem kput_first {w : World} {r t : Nat} (h : w.heap[r]? = some (.map #[] 0)) :
  (Instr.mapUpdate 149 (.map (some r)) (.int .i64 1) (fnSig t)).run Tryz.prog w = .ok () (w.putObj r (.map #[{ key := .int .i64 1, val := fnSig t, born := 0 }] 1)) := by
 have hg : (getObj r).run Tryz.prog w = .ok (.map #[] 0) w := by simp [getObj, Sem.run, h]
 have hs : ∀ o, (setObj r o).run Tryz.prog w = .ok () (w.putObj r o) := fun o => by simp [setObj, Sem.run, h, World.putObj]
 unfold Instr.mapUpdate Instr.findKey
 simp [Sem.run_bind, run_underlying Tryz.underlying149, run_underlying Tryz.underlying3, Result.andThen_ok, hg, int_check, Instr.findNow, hs]
theorem kput_second {w : World} {r t : Nat} (h : w.heap[r]? = some (.map #[{ key := .int .i64 1, val := fnSig t, born := 0 }] 1)) :
  (Instr.mapUpdate 149 (.map (some r)) (.int .i64 2) (fnPts t)).run Tryz.prog w = .ok () (w.putObj r (.map #[{ key := .int .i64 1, val := fnSig t, born := 0 }, { key := .int .i64 2, val := fnPts t, born := 1 }] 2)) := by
 have hg : (getObj r).run Tryz.prog w = .ok (.map #[{ key := .int .i64 1, val := fnSig t, born := 0 }] 1) w := by simp [getObj, Sem.run, h]
 have hs : ∀ o, (setObj r o).run Tryz.prog w = .ok () (w.putObj r o) := fun o => by simp [setObj, Sem.run, h, World.putObj]
 unfold Instr.mapUpdate Instr.findKey
 simp [Sem.run_bind, run_underlying Tryz.underlying149, run_underlying Tryz.underlying3, Result.andThen_ok, hg, Sem.run_pure, int_check, Instr.findNow, Instr.sameNow, hs]
theorem putM_self {w : World} {r : Nat} (h : r < w.heap.size) (o : Obj) : (w.putObj r o).heap[r]? = some o := by
 show (w.heap.setIfInBounds r o)[r]? = _
 rw [Array.getElem?_setIfInBounds_self_of_lt h]
theorem kinds_any (w : World) (t : Nat) : Calls Tryz.prog 80 #[.pointer (some ⟨t, 0, none⟩)] w fun e w' => e = .returned (.map (some w.heap.size)) ∧ KMap w' w.heap.size t ∧ Below w.heap.size w w' := by
 have hmm := @run_makeMap Tryz.prog
 obtain ⟨r, hr⟩ : ∃ r, w.heap.size = r := ⟨_, rfl⟩
 obtain ⟨w1, hw1⟩ : ∃ w1, w.alloc (.map #[] 0) = w1 := ⟨_, rfl⟩
 have h1 : w1.heap[r]? = some (.map #[] 0) := by rw [← hw1, ← hr]; exact heap_alloc_new w _
 have b1 : Below r w w1 := by rw [← hw1, ← hr]; exact (Below.refl _ _).alloc (Nat.le_refl _) _
 have l1 := (Array.getElem?_eq_some_iff.1 h1).1
 have p1 := kput_first h1 (t := t)
 obtain ⟨w2, hw2⟩ : ∃ w2, w1.putObj r (.map #[{ key := .int .i64 1, val := fnSig t, born := 0 }] 1) = w2 := ⟨_, rfl⟩
 have h2 : w2.heap[r]? = some (.map #[{ key := .int .i64 1, val := fnSig t, born := 0 }] 1) := by rw [← hw2]; exact putM_self l1 _
 have b2 : Below r w w2 := by rw [← hw2]; exact below_putObj b1 (Nat.le_refl _) _
 have l2 := (Array.getElem?_eq_some_iff.1 h2).1
 have p2 := kput_second h2
 obtain ⟨w3, hw3⟩ : ∃ w3, w2.putObj r (.map #[{ key := .int .i64 1, val := fnSig t, born := 0 }, { key := .int .i64 2, val := fnPts t, born := 1 }] 2) = w3 := ⟨_, rfl⟩
 have h3 : KMap w3 r t := ⟨0, 1, 2, by rw [← hw3]; exact putM_self l2 _⟩
 have b3 : Below r w w3 := by rw [← hw3]; exact below_putObj b2 (Nat.le_refl _) _
 have H3 := hid h3
 have HB := hid b3
 rw [hw2] at p1
 rw [hw3] at p2
 rw [hr]
 clear h1 h2 h3 b1 b2 b3 hw2 hw3 l1 l2
 go_enter Tryz.func80, Tryz.ntmps80
 go_wp2_with fail
 go_ret
 exact ⟨rfl, H3.out, HB.out⟩
end Go.Proofs.YtimihhcidbeonaaGreat
