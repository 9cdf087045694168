/-
  What the theorem of TopAny rests on, part 16 of 16.
-/
import Derived.LoopTactic
import Derived.Test.YtnlfcmbpocdpjaaGreatTopAnyZ15
set_option maxRecDepth 100000
set_option maxHeartbeats 16000000
namespace Go.Proofs.YtnlfcmbpocdpjaaGreat
open Lib (hid)
set_option linter.unusedVariables false
def Eqv (g h : Gp) : Prop := g.sig = h.sig ∧ g.isg = h.isg ∧ g.pts = h.pts ∧ g.fr = h.fr ∧ g.rej = h.rej
theorem Eqv.refl (g : Gp) : Eqv g g := ⟨rfl, rfl, rfl, rfl, rfl⟩
theorem frameG_eqv {g h : Gp} (e : Eqv g h) (k : Int) (p : List Int) : (frameG g k p).2 = (frameG h k p).2 ∧ (frameG g k p).1.sig = (frameG h k p).1.sig ∧ (frameG g k p).1.isg = (frameG h k p).1.isg ∧ (frameG g k p).1.pts = (frameG h k p).1.pts := by
 obtain ⟨e1, e2, e3, e4, e5⟩ := e
 unfold frameG
 rw [e1, e2, e3]
 refine ⟨?_, ?_, ?_, ?_⟩ <;> repeat' split
 all_goals first | rfl | assumption
theorem takeS_eqv {g h : Gp} (e : Eqv g h) {s : Sj} (hs : s.isf = true) : Eqv (takeS g s) (takeS h s) := by
 obtain ⟨f1, f2, f3, f4⟩ := frameG_eqv e s.kind s.pay
 obtain ⟨e1, e2, e3, e4, e5⟩ := e
 have hn : ¬ s.isf = false := by rw [hs]; decide
 unfold takeS
 rw [if_neg hn, if_neg hn, f1]
 by_cases he : (frameG h s.kind s.pay).2 ≠ 0
 ·rw [if_pos he, if_pos he]
  exact ⟨e1, e2, e3, e4, by rw [e5]⟩
 ·rw [if_neg he, if_neg he]
  exact ⟨f2, f3, f4, by simp only; rw [e4], e5⟩
theorem takeL_eqv : ∀ (l : List Sg) (g h : Gp), Eqv g h → Eqv (takeL g (l.map sgJ)) (takeL h ((framesS l).map sgJ))
 | [], g, h, e => e
 | s :: l, g, h, e => by
  unfold framesS
  cases hf : s.isf with
  | true =>
   rw [List.filter_cons, if_pos hf]
   exact takeL_eqv l _ _ (takeS_eqv e hf)
  | false =>
   rw [List.filter_cons, if_neg (by rw [hf]; decide)]
   refine takeL_eqv l (takeS g (sgJ s)) h ?_
   have ht : takeS g (sgJ s) = ⟨g.sig, g.isg, g.pts, g.sk + s.n, g.fr, g.rej⟩ := takeS_skip hf
   rw [ht]
   exact e
def hG (F : List Sg) (j : Nat) : Gp := gT (F.take j)
theorem hG_succ {F : List Sg} {j : Nat} {s : Sg} (h : F[j]? = some s) : hG F (j + 1) = takeS (hG F j) (sgJ s) := by
 unfold hG
 rw [List.take_add_one, h]
 show gT (F.take j ++ [s]) = _
 rw [gT_append]
 rfl
theorem rej_mem : ∀ (F : List Sg) (g : Gp) (x : Int), (∀ s ∈ F, s.isf = true) → (x ∈ (takeL g (F.map sgJ)).rej.map (·.1) ↔ x ∈ g.rej.map (·.1) ∨ ∃ (j : Nat) (s : Sg), F[j]? = some s ∧ (s.frm : Int) = x ∧ (frameG (takeL g ((F.take j).map sgJ)) s.kind s.pay).2 ≠ 0)
 | [], g, x, _ => by simp [takeL]
 | s :: F, g, x, hF => by
  have hs : (sgJ s).isf = true := hF s (List.mem_cons_self ..)
  have ih := rej_mem F (takeS g (sgJ s)) x (fun y hy => hF y (List.mem_cons_of_mem _ hy))
  show x ∈ (takeL (takeS g (sgJ s)) (F.map sgJ)).rej.map (·.1) ↔ _
  rw [ih]
  have h0 : x ∈ (takeS g (sgJ s)).rej.map (·.1) ↔ x ∈ g.rej.map (·.1) ∨ ((s.frm : Int) = x ∧ (frameG g s.kind s.pay).2 ≠ 0) := by
   unfold takeS
   rw [if_neg (by rw [hs]; decide)]
   by_cases he : (frameG g (sgJ s).kind (sgJ s).pay).2 ≠ 0
   ·rw [if_pos he]
    simp only [List.map_append, List.map_cons, List.map_nil, List.mem_append, List.mem_singleton]
    constructor
    ·rintro (h | h)
     ·exact .inl h
     ·exact .inr ⟨h.symm, he⟩
    ·rintro (h | ⟨h, _⟩)
     ·exact .inl h
     ·exact .inr h.symm
   ·rw [if_neg he]
    exact ⟨.inl, fun h => h.resolve_right (fun e => he e.2)⟩
  rw [h0]
  constructor
  ·rintro ((h | ⟨h1, h2⟩) | ⟨j, t, h1, h2, h3⟩)
   ·exact .inl h
   ·exact .inr ⟨0, s, rfl, h1, h2⟩
   ·exact .inr ⟨j + 1, t, h1, h2, h3⟩
  ·rintro (h | ⟨j, t, h1, h2, h3⟩)
   ·exact .inl (.inl h)
   ·rcases j with _ | j
    ·have h1' : s = t := by simpa using h1
     subst h1'
     exact .inl (.inr ⟨h2, h3⟩)
    ·exact .inr ⟨j, t, h1, h2, h3⟩
theorem Tiled.rise {xs : List Int} : ∀ (l : List Sg) (a : Nat) (sk : Bool), Tiled xs a sk l → (∀ s ∈ l, a ≤ s.frm) ∧ l.Pairwise (fun x y => x.frm < y.frm)
 | [], _, _, _ => ⟨by simp, .nil⟩
 | s :: l, a, sk, h => by
  obtain ⟨h1, h2, _, _, _, _, h7⟩ := h
  obtain ⟨i1, i2⟩ := Tiled.rise l _ _ h7
  refine ⟨fun x hx => ?_, List.pairwise_cons.2 ⟨fun y hy => by have := i1 y hy; omega, i2⟩⟩
  rcases List.mem_cons.1 hx with rfl | hx
  ·omega
  ·have := i1 x hx; omega
theorem PartsS.begins {xs : List Int} {a : Nat} {l : List Sg} (h : PartsS xs a l) : ∀ s ∈ l, s.isf = true → Begins xs s.frm ∧ s = frS xs s.frm := by
 induction h with
 | stop _ _ => intro s hs; cases hs
 | rest _ _ _ => intro s hs hf; rw [List.mem_singleton.1 hs] at hf; cases hf
 | fr a l _ hb _ ih =>
  intro s hs hf
  rcases List.mem_cons.1 hs with rfl | hs
  ·exact ⟨hb, rfl⟩
  ·exact ih s hs hf
 | gap a r l _ _ _ hb _ ih =>
  intro s hs hf
  rcases List.mem_cons.1 hs with rfl | hs
  ·cases hf
  ·rcases List.mem_cons.1 hs with rfl | hs
   ·exact ⟨hb, rfl⟩
   ·exact ih s hs hf
theorem PartsS.get {xs : List Int} {l : List Sg} {s : Sg} (h : PartsS xs 0 l) (hs : s ∈ l) (hf : s.isf = true) : getFr (xs.drop s.frm) = ((s.kind, s.pay), s.n, 0) := by
 obtain ⟨h1, h2⟩ := h.begins s hs hf
 have e1 := congrArg Sg.kind h2
 have e2 := congrArg Sg.pay h2
 have e3 := congrArg Sg.n h2
 unfold Begins at h1
 simp only [frS] at e1 e2 e3
 generalize getFr (xs.drop s.frm) = R at h1 e1 e2 e3
 obtain ⟨⟨R1, R2⟩, R3, R4⟩ := R
 simp only at h1 e1 e2 e3
 rw [← e1, ← e2, ← e3, h1]
section
variable {xs : List Int} {l F : List Sg} {j : Nat} {s : Sg}
theorem refused_iff (hx : ∀ x ∈ xs, 0 ≤ x ∧ x < 256) (hl : PartsS xs 0 l) (hF : framesS l = F) (hs : F[j]? = some s) : (s.frm : Int) ∈ (gT l).rej.map (·.1) ↔ (frameG (hG F j) s.kind s.pay).2 ≠ 0 := by
 have he := takeL_eqv l noG noG (Eqv.refl _)
 rw [hF] at he
 have hisf : ∀ t ∈ F, t.isf = true := fun t ht => by rw [← hF] at ht; exact (List.mem_filter.1 ht).2
 have hpw : F.Pairwise (fun x y => x.frm < y.frm) := by rw [← hF]; exact ((Tiled.rise _ _ _ (hl.tiled hx (Nat.zero_le _))).2).sublist List.filter_sublist
 have hr : (gT l).rej = (takeL noG (F.map sgJ)).rej := he.2.2.2.2
 rw [hr, rej_mem F noG _ hisf]
 constructor
 ·rintro (h | ⟨i, t, h1, h2, h3⟩)
  ·simp [noG] at h
  ·have hij : i = j := by
    rcases Nat.lt_trichotomy i j with q | q | q
    ·have := List.pairwise_iff_getElem.1 hpw i j (List.getElem?_eq_some_iff.1 h1).1 (List.getElem?_eq_some_iff.1 hs).1 q
     rw [(List.getElem?_eq_some_iff.1 h1).2, (List.getElem?_eq_some_iff.1 hs).2] at this
     omega
    ·exact q
    ·have := List.pairwise_iff_getElem.1 hpw j i (List.getElem?_eq_some_iff.1 hs).1 (List.getElem?_eq_some_iff.1 h1).1 q
     rw [(List.getElem?_eq_some_iff.1 h1).2, (List.getElem?_eq_some_iff.1 hs).2] at this
     omega
   subst hij
   rw [hs] at h1
   injection h1 with h1
   rw [h1]
   exact h3
 ·exact fun h => .inr ⟨j, s, hs, rfl, h⟩
theorem hG_all (hF : framesS l = F) (hj : F.length ≤ j) : (hG F j).sig = (gT l).sig ∧ (hG F j).isg = (gT l).isg ∧ (hG F j).pts = (gT l).pts ∧ (hG F j).fr = (gT l).fr := by
 have he := takeL_eqv l noG noG (Eqv.refl _)
 rw [hF] at he
 unfold hG
 rw [List.take_of_length_le hj]
 exact ⟨he.1.symm, he.2.1.symm, he.2.2.1.symm, he.2.2.2.1.symm⟩
theorem hG_skip (hs : F[j]? = some s) (hf : s.isf = true) (he : (frameG (hG F j) s.kind s.pay).2 ≠ 0) : (hG F (j + 1)).sig = (hG F j).sig ∧ (hG F (j + 1)).isg = (hG F j).isg ∧ (hG F (j + 1)).pts = (hG F j).pts ∧ (hG F (j + 1)).fr = (hG F j).fr := by
 rw [hG_succ hs]
 unfold takeS
 rw [if_neg (by show ¬ s.isf = false; rw [hf]; decide), if_pos (show (frameG (hG F j) (sgJ s).kind (sgJ s).pay).2 ≠ 0 from he)]
 exact ⟨rfl, rfl, rfl, rfl⟩
theorem hG_sig (hs : F[j]? = some s) (hf : s.isf = true) (he : (frameG (hG F j) s.kind s.pay).2 = 0) (hk : s.kind = 1) : (getSig s.pay).2 = 0 ∧ ((hG F j).isg = true → (getSig s.pay).1 = (hG F j).sig) ∧ (hG F (j + 1)).sig = (getSig s.pay).1 ∧ (hG F (j + 1)).isg = true ∧ (hG F (j + 1)).pts = (hG F j).pts ∧ (hG F (j + 1)).fr = (hG F j).fr + 1 := by
 rw [hG_succ hs]
 unfold takeS
 rw [if_neg (by show ¬ s.isf = false; rw [hf]; decide), if_neg (show ¬ (frameG (hG F j) (sgJ s).kind (sgJ s).pay).2 ≠ 0 from fun h => h he)]
 show _ ∧ _ ∧ (frameG (hG F j) s.kind s.pay).1.sig = _ ∧ (frameG (hG F j) s.kind s.pay).1.isg = true ∧ (frameG (hG F j) s.kind s.pay).1.pts = _ ∧ (hG F j).fr + 1 = _
 unfold frameG at he ⊢
 rw [if_pos hk] at he ⊢
 by_cases h1 : (getSig s.pay).2 ≠ 0
 ·rw [if_pos h1] at he
  exact absurd he h1
 ·rw [if_neg h1] at he ⊢
  by_cases h2 : (hG F j).isg = true ∧ (getSig s.pay).1 ≠ (hG F j).sig
  ·rw [if_pos h2] at he
   exact absurd he (show ¬ (7 : Int) = 0 by decide)
  ·rw [if_neg h2]
   exact ⟨Decidable.not_not.1 h1, fun h => Decidable.not_not.1 (fun h3 => h2 ⟨h, h3⟩), rfl, rfl, rfl, rfl⟩
theorem hG_pts (hs : F[j]? = some s) (hf : s.isf = true) (he : (frameG (hG F j) s.kind s.pay).2 = 0) (hk : s.kind ≠ 1) : (hG F j).isg = true ∧ (getU (hG F j).sig s.pay).2 = 0 ∧ (hG F (j + 1)).sig = (hG F j).sig ∧ (hG F (j + 1)).isg = true ∧ (hG F (j + 1)).pts = (hG F j).pts ++ (getU (hG F j).sig s.pay).1 ∧ (hG F (j + 1)).fr = (hG F j).fr + 1 := by
 rw [hG_succ hs]
 unfold takeS
 rw [if_neg (by show ¬ s.isf = false; rw [hf]; decide), if_neg (show ¬ (frameG (hG F j) (sgJ s).kind (sgJ s).pay).2 ≠ 0 from fun h => h he)]
 show _ ∧ _ ∧ (frameG (hG F j) s.kind s.pay).1.sig = _ ∧ (frameG (hG F j) s.kind s.pay).1.isg = true ∧ (frameG (hG F j) s.kind s.pay).1.pts = _ ∧ (hG F j).fr + 1 = _
 unfold frameG at he ⊢
 rw [if_neg hk] at he ⊢
 by_cases h2 : s.kind ≠ 2
 ·rw [if_pos h2] at he
  exact absurd he (show ¬ (4 : Int) = 0 by decide)
 ·rw [if_neg h2] at he ⊢
  by_cases h3 : (hG F j).isg = false
  ·rw [if_pos h3] at he
   exact absurd he (show ¬ (10 : Int) = 0 by decide)
  ·rw [if_neg h3] at he ⊢
   by_cases h4 : (getU (hG F j).sig s.pay).2 ≠ 0
   ·rw [if_pos h4] at he
    exact absurd he h4
   ·rw [if_neg h4] at he ⊢
    have h5 : (hG F j).isg = true := by cases h : (hG F j).isg with
     | true => rfl
     | false => exact absurd h h3
    split at he
    ·exact absurd he (show ¬ (8 : Int) = 0 by decide)
    ·rename_i h6
     rw [if_neg h6]
     exact ⟨h5, Decidable.not_not.1 h4, rfl, h5, rfl, rfl⟩
theorem rej_place {G : Gp} (hx : ∀ x ∈ xs, 0 ≤ x ∧ x < 256) (h : ofG xs G) : ∀ d ∈ G.rej, 0 ≤ d.1 ∧ d.1 ≤ xs.length := by
 obtain ⟨l, hl, rfl⟩ := h
 obtain ⟨-, -, R, h1, h2⟩ := takeL_all l noG
 intro d hd
 have hd2 : d ∈ R := by
  have e : (takeL noG (l.map sgJ)).rej = noG.rej ++ R := h1
  rw [e] at hd
  exact hd
 have h3 := h2.subset (List.mem_map_of_mem (f := (·.1)) hd2)
 obtain ⟨s, hs, e⟩ := List.mem_map.1 h3
 have h4 := (hl.le hx).2.2 s (framesS_mem hs)
 rw [← e]
 omega
theorem hG_cnts (hx : ∀ x ∈ xs, 0 ≤ x ∧ x < 256) (hxl : xs.length ≤ 1000000000) (hl : PartsS xs 0 l) (hF : framesS l = F) (j : Nat) : (hG F j).pts.length ≤ 1024 * F.length ∧ 0 ≤ (hG F j).fr ∧ (hG F j).fr ≤ F.length := by
 obtain ⟨a1, -, a3, -⟩ := takeL_cnts ((F.take j).map sgJ) noG (fun s hs => by
  obtain ⟨p, hp, rfl⟩ := List.mem_map.1 hs
  have h4 := (hl.le hx).2.2 p (framesS_mem (by rw [hF]; exact List.mem_of_mem_take hp))
  exact ⟨by show (0 : Int) ≤ (p.n : Int); omega, by show (p.n : Int) ≤ 1000000000; omega⟩)
 have z1 : noG.pts.length = 0 := rfl
 have z3 : noG.fr = 0 := rfl
 rw [z1, List.length_map, List.length_take] at a1
 rw [z3, List.length_map, List.length_take] at a3
 unfold hG gT
 exact ⟨by have := Nat.mul_le_mul_left 1024 (Nat.min_le_right j F.length); omega, by omega, by omega⟩
end
open Go.RowKit
def AnyLoop (w7 : World) (n7 m : Nat) (FL : List Sg) (F : Nat → Int) (gk : Nat) (av sv hv fv bv iv : Value) (wr : World) : Prop :=
 ∃ (j : Nat) (Aa : Option Addr) (ca : Nat) (al : List Pm) (As : Option Addr) (cs : Nat) (sg : List Pd), av = .slice Aa al.length ca ∧ sv = .slice As sg.length cs ∧ hv = .bool (hG FL j).isg ∧ fv = .int .i64 (hG FL j).fr ∧ bv = .int .i64 (F j) ∧ iv = .int .i64 j ∧ j ≤ m ∧ Hid (m - j = gk) ∧
  Hid (OwnT wr n7 (.slice Aa al.length ca) al) ∧ Hid (al.map (·.p) = (hG FL j).pts) ∧ Hid (OwnP wr n7 (.slice As sg.length cs) sg) ∧ Hid (sg.map (·.p) = (hG FL j).sig) ∧ Hid (Below n7 w7 wr)
section
variable {w7 wr w' : World} {n7 m j : Nat} {FL : List Sg} {F : Nat → Int} {Aa As : Option Addr} {ca cs : Nat} {al : List Pm} {sg : List Pd} {s : Sg} {b f : Int}
theorem AnyLoop.skip (hs : FL[j]? = some s) (hf : s.isf = true) (he : (frameG (hG FL j) s.kind s.pay).2 ≠ 0) (hj : j < m) (hm : m ≤ 1000000) (ha : OwnT wr n7 (.slice Aa al.length ca) al) (hap : al.map (·.p) = (hG FL j).pts) (hsg : OwnP wr n7 (.slice As sg.length cs) sg) (hsp : sg.map (·.p) = (hG FL j).sig)
  (hb : Below n7 w7 wr) (hbw : Below wr.heap.size wr w') (hn : n7 ≤ wr.heap.size) (hF : F (j + 1) = b) : AnyLoop w7 n7 m FL F (m - (j + 1)) (.slice Aa al.length ca) (.slice As sg.length cs) (.bool (hG FL j).isg) (.int .i64 (hG FL j).fr) (.int .i64 b) (.int .i64 ((j : Int) + 1)) w' := by
 obtain ⟨h1, h2, h3, h4⟩ := hG_skip hs hf he
 exact ⟨j + 1, Aa, ca, al, As, cs, sg, rfl, rfl, by rw [h2], by rw [h4], by rw [hF], by go_num, hj, hid rfl, hid (ha.below hbw), hid (by rw [h3]; exact hap), hid (hsg.below hbw), hid (by rw [h1]; exact hsp), hid (hb.trans (hbw.mono hn))⟩
theorem AnyLoop.sign {A2 : Option Addr} {c2 : Nat} {es : List Pd} (hs : FL[j]? = some s) (hf : s.isf = true) (he : (frameG (hG FL j) s.kind s.pay).2 = 0) (hk : s.kind = 1) (hj : j < m) (hm : m ≤ 1000000) (ha : OwnT wr n7 (.slice Aa al.length ca) al) (hap : al.map (·.p) = (hG FL j).pts)
  (hsg : OwnP w' n7 (.slice A2 es.length c2) es) (hsp : es.map (·.p) = (getSig s.pay).1) (hb : Below n7 w7 wr) (hbw : Below wr.heap.size wr w') (hn : n7 ≤ wr.heap.size) (hF : F (j + 1) = b) (hfr : (hG FL j).fr + 1 = f) :
  AnyLoop w7 n7 m FL F (m - (j + 1)) (.slice Aa al.length ca) (.slice A2 es.length c2) (.bool true) (.int .i64 f) (.int .i64 b) (.int .i64 ((j : Int) + 1)) w' := by
 obtain ⟨-, -, h1, h2, h3, h4⟩ := hG_sig hs hf he hk
 exact ⟨j + 1, Aa, ca, al, A2, c2, es, rfl, rfl, by rw [h2], by rw [h4, hfr], by rw [hF], by go_num, hj, hid rfl, hid (ha.below hbw), hid (by rw [h3]; exact hap), hid hsg, hid (by rw [h1]; exact hsp), hid (hb.trans (hbw.mono hn))⟩
theorem AnyLoop.points {A2 A6 : Option Addr} {c2 c6 N6 : Nat} {qs : List Pm} {w8 w9 : World} (hs : FL[j]? = some s) (hf : s.isf = true) (he : (frameG (hG FL j) s.kind s.pay).2 = 0) (hk : s.kind ≠ 1) (hj : j < m) (hm : m ≤ 1000000) (ha : OwnT wr n7 (.slice Aa al.length ca) al) (hap : al.map (·.p) = (hG FL j).pts)
  (hsg : OwnP wr n7 (.slice As sg.length cs) sg) (hsp : sg.map (·.p) = (hG FL j).sig) (hq : OwnT w8 n7 (.slice A2 qs.length c2) qs) (hqp : qs.map (·.p) = (getU (hG FL j).sig s.pay).1) (hb : Below n7 w7 wr) (hbw : Below wr.heap.size wr w8) (hn : n7 ≤ wr.heap.size) (hF : F (j + 1) = b) (hfr : (hG FL j).fr + 1 = f)
  (hN : al.length + qs.length = N6) (ho : w9.ownsRow n7 55 2 (.slice A6 N6 c6) N6 (flatN (al ++ qs))) (hg : w8.grownBy w9 (Value.slice Aa al.length ca).ownBlock) :
  AnyLoop w7 n7 m FL F (m - (j + 1)) (.slice A6 N6 c6) (.slice As sg.length cs) (.bool true) (.int .i64 f) (.int .i64 b) (.int .i64 ((j : Int) + 1)) w9 := by
 obtain ⟨-, -, h1, h2, h3, h4⟩ := hG_pts hs hf he hk
 have hl : (al ++ qs).length = N6 := by rw [List.length_append, hN]
 have ha8 := ha.below hbw
 have nt : ∀ e, 55 ≠ e → NotT w8 (Value.slice Aa al.length ca).ownBlock e := fun e he => NotT.of_own ha8.1 he
 exact ⟨j + 1, A6, c6, al ++ qs, As, cs, sg, by rw [hl], rfl, by rw [h2], by rw [h4, hfr], by rw [hF], by go_num, hj, hid rfl, hid (by rw [hl]; exact ha8.joined hq (Nat.le_refl _) (by rw [hl]; exact ho) hg), hid (by rw [List.map_append, hap, hqp, h3]), hid ((hsg.below hbw).nott (nt _ (by decide)) (nt _ (by decide)) hg), hid (by rw [h1]; exact hsp),
  hid ((hb.trans (hbw.mono hn)).trans ((Below.refl _ _).grown hg (Nat.le_trans hn hbw.size) (fun i e => (World.ownsRow.lt ha8.1 i e).1)))⟩
end
end Go.Proofs.YtnlfcmbpocdpjaaGreat
