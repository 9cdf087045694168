/-
  A range over a function whose rounds are told, of what they are handed, what it leads to in memory ('R x W'); no round leaves the loop. No program here.
-/
import Derived.RangeFuncNested
import Derived.RangeFuncBox
import Derived.RangeFuncLeaves
import Derived.WalkKit
namespace Go.Proofs.Ytcegnkbafbepbaa
open Go.RowKit

variable {F : Fence} {n : Nat} {P : Program}

/-- What may be ranged over hands on x's, of each of which 'R x' holds where it is handed on, all of them, such that 'S' holds of them. W0: where the last round has ended, or the loop begins; behind it what may be ranged over has turned nothing that lay there. 'Kp m': what a round keeps, m being how many blocks lay in W0. -/
def Hands {α : Type} (F : Fence) (n : Nat) (P : Program) (gf : Nat) (lb : Array Value) (encs : α → Array Value) (R : α → World → Prop) (Kp : Nat → World → World → Prop) (S : List α → Prop) (N : Nat) (w : World) : Prop :=
  ∀ (l : Nat) (J : List α → World → Prop) (W : World), Below w.heap.size w W →
    (∀ pre x W0 W1, J pre W0 → Below W0.heap.size W0 W1 → R x W1 → pre.length < N → YieldAt F (n - 1) P l (encs x) W1 fun e W' => e = .returned (.bool true) ∧ J (pre ++ [x]) W' ∧ Kp W0.heap.size W1 W') →
    J [] W → CallsIn F n P gf (#[.func (.yield l) #[] #[]] ++ lb) W fun e W' => (∃ v, e = .returned v) ∧ ∃ xs W0, S xs ∧ J xs W0 ∧ Below W0.heap.size W0 W'

/-- The record of a loop in a state. -/
def recOf (fn : FuncId) (tmps : Array Value) (ps : Array Tmp) (assign body : Code) (D : Nat) (s : LoopState) : Obj :=
  .loop { state := s, pending := none, fn := fn, tmps := tmps, params := ps, assign := assign, body := body, defers := D }

/-- One round: out of the walks of what takes what is handed on, and of the loop's body. -/
theorem yield_round {l D : Nat} {fn : FuncId} {tmps args : Array Value} {ps : Array Tmp} {assign body : Code} {W : World} {E : Ending → World → Prop} (hfn : F.fn fn) (hps : args.size = ps.size)
    (hl : W.heap[l]? = some (recOf fn tmps ps assign body D .ready))
    (h : assign.wpIn (F.inRound l) n P (Exit.then (fun a1 W1 => W1.heap[l]? = some (recOf fn tmps ps assign body D .ready) ∧
        body.wpIn (F.inRound l) n P (Exit.then (fun _ W3 => W3.heap[l]? = some (recOf fn tmps ps assign body D .busy) ∧ E (.returned (.bool true)) (W3.putObj l (recOf fn tmps ps assign body D .ready))) (fun _ _ _ => False)) a1 (W1.putObj l (recOf fn tmps ps assign body D .busy))) (fun _ _ _ => False))
      { tmps := (ps.zip args).foldl (fun t (p, v) => t.setIfInBounds p v) tmps, defers := [] } W) :
    YieldAt F n P l args W E := by
  refine ⟨fn, _, assign, body, run_yield hl hps, roundIn_of_wpIn hfn (wpIn_mono h ?_)⟩
  rintro e a1 W1 hp
  cases e with
  | normal =>
    refine ⟨_, run_beginRound hp.1 rfl, wpIn_mono hp.2 ?_⟩
    rintro e a3 W3 hq
    cases e with
    | normal => exact ⟨_, _, run_endRound none hq.1, hq.2⟩
    | _ => exact (show False from hq).elim
  | _ => exact (show False from hp).elim

/-- What minds cells alone is kept where what lay in memory is. -/
theorem ownFrom_below' {β : Type} {B : Nat} {I : β → World → Prop} (h : OwnFrom B I) {s : β} {w w' : World} (hs : I s w) (hb : Below w.heap.size w w') : I s w' :=
  h s w w' none hs ⟨hb.os, hb.tape, hb.output, hb.size, fun k hk _ => hb.block k hk⟩ (fun r e => by cases e)

/-- The loop: an invariant on the caller's own cells, one walk of its body. -/
theorem range_told {α : Type} {g : Operand} {ps : Array Tmp} {assign body : Code} {Q : Exit → Act → World → Prop} {a : Act} {w : World}
    (hro : F.round = none) (h1 : 1 ≤ n) {gf : Nat} {lb : Array Value} (hg : a.eval g = .func (.func gf) #[] lb) (hFg : F.fn gf) (eg : ∀ args w, (callFunc gf args).run P w = .ok (.enter gf args) w)
    {encs : α → Array Value} {R : α → World → Prop} {Kp : Nat → World → World → Prop} {S : List α → Prop} {N : Nat} (hseq : Hands F (n - 1) P gf lb encs R Kp S N w) (hps : ∀ x, (encs x).size = ps.size)
    (hKt : ∀ {m : Nat} {A B C : World}, Kp m A B → Kp m B C → Kp m A C) (hKb : ∀ (m : Nat) (W : World) (l : Nat) (o o' : Obj), w.heap.size ≤ l → l < m → W.heap[l]? = some o → o.isCells = false → Kp m W (W.putObj l o'))
    (I : List α → World → Prop) (hI : OwnFrom w.heap.size I) (h0 : I [] w) (Ax : Nat → List α → α → Act → World → Prop) (hAx : ∀ m pre x a', OwnFrom w.heap.size (fun (_ : Unit) W => Ax m pre x a' W))
    (htake : ∀ (l : Nat) (pre : List α) (x : α) (W0 W : World) (K : Act → World → Prop), I pre W0 → Below W0.heap.size W0 W → R x W → pre.length < N → (∀ a' W', KeepsFrom w.heap.size W W' → Kp W0.heap.size W W' → Ax W0.heap.size pre x a' W' → K a' W') →
      assign.wpIn (F.inRound l) (n - 1 - 1) P (Exit.then K (fun _ _ _ => False)) { tmps := (ps.zip (encs x)).foldl (fun t (p, v) => t.setIfInBounds p v) a.tmps, defers := [] } W)
    (hbody : ∀ (l m : Nat) (pre : List α) (x : α) (a' : Act) (W : World), Ax m pre x a' W → pre.length < N →
      body.wpIn (F.inRound l) (n - 1 - 1) P (Exit.then (fun _ W' => KeepsFrom w.heap.size W W' ∧ Kp m W W' ∧ I (pre ++ [x]) W') (fun _ _ _ => False)) a' W)
    (hdone : ∀ (D : Nat) (xs : List α) (W : World), w.heap.size ≤ D → S xs → I xs W → W.heap[D]? = some (.deferred (some [])) → Q .normal { a with defers := { target := .collected D, args := #[] } :: a.defers } W) :
    (Code.rangeFunc g ps assign body).wpIn F n P Q a w := by
  refine wpIn_rangeFunc fun fn hfn => ?_
  rw [hro]
  obtain ⟨D, hD⟩ : ∃ D, w.heap.size = D := ⟨_, rfl⟩
  obtain ⟨rec, hrec⟩ : ∃ rec, recOf fn a.tmps ps assign body D = rec := ⟨_, rfl⟩
  have hnc : ∀ s, (rec s).isCells = false := fun s => by rw [← hrec]; rfl
  obtain ⟨W0, hW0⟩ : ∃ W0, w.alloc (.deferred (some [])) = W0 := ⟨_, rfl⟩
  have hs0 : W0.heap.size = D + 1 := by rw [← hW0, World.size_alloc, hD]
  have hd0 : W0.heap[D]? = some (.deferred (some [])) := by rw [← hW0, ← hD]; exact World.alloc_heap_new w _
  have hi0 : I [] W0 := by rw [← hW0]; exact hI.alloc _ h0
  have hb0 : Below w.heap.size w W0 := by rw [← hW0]; exact (Below.refl _ w).alloc (Nat.le_refl _) _
  have hent := run_enterLoop_outer (P := P) (w := w) fn a.tmps ps assign body
  rw [hW0, hD] at hent
  change _ = Result.ok _ (W0.alloc (recOf fn a.tmps ps assign body D .ready)) at hent
  rw [hrec] at hent
  have hl1 : (W0.alloc (rec .ready)).heap[D + 1]? = some (rec .ready) := by rw [← hs0]; exact World.alloc_heap_new W0 _
  have hd1 : (W0.alloc (rec .ready)).heap[D]? = some (.deferred (some [])) := (Below.heap_alloc _ _ _ (by omega)).trans hd0
  have hi1 : I [] (W0.alloc (rec .ready)) := hI.alloc _ hi0
  have hb1 : Below w.heap.size w (W0.alloc (rec .ready)) := hb0.alloc (by omega) _
  generalize W0.alloc (rec .ready) = W1 at hent hl1 hd1 hi1 hb1
  refine ⟨D + 1, _, W1, { target := .fn (.func gf) lb, args := #[.func (.yield (D + 1)) #[] #[]] }, W1, gf, #[.func (.yield (D + 1)) #[] #[]] ++ lb, W1, hent, ?_, ?_, ?_, fun _ => h1, ?_⟩
  · simp only [resolve, hg]
    simp [go_sem]
  · intro f' hf'
    simp [Target.leads] at hf'
    subst hf'
    exact hFg
  · simp [invoke, go_sem, eg]
  · refine (hseq (D + 1) (fun pre W => I pre W ∧ W.heap[D + 1]? = some (rec .ready) ∧ W.heap[D]? = some (.deferred (some []))) W1 hb1 ?_ ⟨hi1, hl1, hd1⟩).mono ?_
    · -- a round
      rintro pre x V W ⟨hi, hl, hd⟩ hV hR hlen
      have hlV := (Array.getElem?_eq_some_iff.1 hl).1
      replace hl := (hV.block _ hlV).trans hl
      replace hd := (hV.block _ (by omega)).trans hd
      rw [← hrec] at hl
      refine yield_round hfn (hps x) hl ?_
      rw [hrec] at hl ⊢
      refine htake _ pre x V W _ hi hV hR hlen fun a' W' hkf hkp hax => ?_
      have hl' := hkf.same _ _ (by omega) hl (hnc _)
      have hd' := hkf.same _ _ (by omega) hd rfl
      refine ⟨hl', ?_⟩
      have hax2 := (hAx _ pre x a').putObj (s := ()) (rec .busy) hax (by omega) hl' (hnc _)
      have hkp2 := hKb V.heap.size W' (D + 1) _ (rec .busy) (by omega) hlV hl' (hnc _)
      have hl2 : (W'.putObj (D + 1) (rec .busy)).heap[D + 1]? = some (rec .busy) := World.putObj_heap_same (Array.getElem?_eq_some_iff.1 hl').1
      have hd2 : (W'.putObj (D + 1) (rec .busy)).heap[D]? = some (.deferred (some [])) := (World.putObj_heap_other (by omega)).trans hd'
      refine wpIn_mono (hbody (D + 1) _ pre x a' _ hax2 hlen) ?_
      rintro e a3 W3 hp
      cases e with
      | normal =>
        obtain ⟨hkf3, hkp3, hi3⟩ := hp
        have hl3 := hkf3.same _ _ (by omega) hl2 (hnc _)
        have hd3 := hkf3.same _ _ (by omega) hd2 rfl
        refine ⟨hl3, rfl, ⟨hI.putObj _ hi3 (by omega) hl3 (hnc _), World.putObj_heap_same (Array.getElem?_eq_some_iff.1 hl3).1, (World.putObj_heap_other (by omega)).trans hd3⟩, ?_⟩
        exact hKt hkp (hKt (hKt hkp2 hkp3) (hKb _ W3 (D + 1) _ _ (by omega) hlV hl3 (hnc _)))
      | _ => exact (show False from hp).elim
    · -- behind it
      rintro e W2 ⟨⟨v, rfl⟩, xs, V, hS, ⟨hi, hl, hd⟩, hV⟩
      have hlV := (Array.getElem?_eq_some_iff.1 hl).1
      replace hl := (hV.block _ hlV).trans hl
      replace hd := (hV.block _ (by omega)).trans hd
      have hi' := hI.putObj (.loop { state := .exhausted, pending := none, fn := fn, tmps := a.tmps, params := ps, assign := assign, body := body, defers := D }) (ownFrom_below' hI hi hV) (by omega) hl (hnc _)
      rw [← hrec] at hl
      exact ⟨none, _, run_endLoop hl (by simp), hdone D xs _ (by omega) hS hi' ((World.putObj_heap_other (by omega)).trans hd)⟩
#print axioms range_told
end Go.Proofs.Ytcegnkbafbepbaa
